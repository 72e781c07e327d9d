/-
  Does the claim cover it? Units are given back; a process leaves.
  Units are given back; a process leaves.
  A process leaves.
  A process asks.
  A process asks: the call.
  A process comes in.
  A number among others; an allocator is made.
  The reference's allocator in memory: a row of fields, none of whose data is ever written; who is in, who waits.
-/
import Derived.Deep.RegionLaw
import Derived.Deep.RegionHeldLaw
import Derived.Test.YticglfmmjgnicaaGreatYAH
set_option linter.unusedVariables false
set_option linter.unusedSimpArgs false
namespace Go.Proofs.YticglfmmjgnicaaGreat
open Go Go.RowKit

/-- The program's allocator, whole: m, its blocks F. -/
def PaS (w : World) (F : List Nat) (b : Nat) (m : Am) : Prop := m.Ok ∧ ∃ p, Pa w F b m p ∧ p.pd = m.pend
theorem PaS.lt {w : World} {F : List Nat} {b : Nat} {m : Am} (h : PaS w F b m) : ∀ k, k ∈ F → k < w.heap.size := by obtain ⟨_, p, h, _⟩ := h; exact h.lt
theorem PaS.bF {w : World} {F : List Nat} {b : Nat} {m : Am} (h : PaS w F b m) : b ∈ F := by obtain ⟨_, p, h, _⟩ := h; exact h.fw b (by simp [PaP.W])
theorem PaS.touch {w w' : World} {F : List Nat} {b : Nat} {m : Am} {T : List Nat} (h : PaS w F b m) (ht : Touch T w w') (hT : ∀ k, k ∈ T → k ∉ F) : PaS w' F b m := by
  obtain ⟨ok, p, h, e⟩ := h
  exact ⟨ok, p, h.touch ht hT (fun k hk => hk) (fun k hk => Nat.lt_of_lt_of_le (h.lt k hk) ht.size), e⟩
theorem PaS.same {w w' : World} {F : List Nat} {b : Nat} {m : Am} (h : PaS w F b m) (ht : Touch [] w w') : PaS w' F b m := h.touch ht (by simp)
theorem Rd.paS {w w' : World} {F F' : List Nat} {b : Nat} {m : Am} {p : PaP} (ok : m.Ok) (e : p.pd = m.pend) (h : Rd w F b m p F' w') : Fr F w F' w' ∧ PaS w' F' b m := by
  obtain ⟨sv, h1, h2, h3⟩ := h
  exact ⟨h1, ok, _, h3, e⟩
/-- A call has answered a list of its own and one thing more. -/
def ResP (w : World) (F : List Nat) (b : Nat) (m' : Am) (l : List Int) (X : Value) (e : Ending) (w' : World) : Prop :=
  ∃ v F', e = .returned (.tuple #[v, X]) ∧ Fr F w F' w' ∧ PaS w' F' b m' ∧ Qu w' w.heap.size 3 v (l.map (Value.int .i64)) ∧ ∀ k, v.ownBlock = some k → k ∉ F'
theorem ResP.no {w w' : World} {F : List Nat} {b : Nat} {m : Am} (X : Value) (h : PaS w F b m) (ht : Touch [] w w') : ResP w F b m [] X (.returned (.tuple #[.slice none 0 0, X])) w' :=
  ⟨_, F, rfl, Fr.same ht h.lt, h.same ht, Qu.nil _ _ _, fun k hk => by simp [Value.ownBlock] at hk⟩
def ScS (w w0 : World) (F : List Nat) (b : Nat) (r : Am × List Int) (v : Value) (w' : World) : Prop := ∃ F', Fr F w0 F' w' ∧ PaS w' F' b r.1 ∧ Qu w' w0.heap.size 3 v (r.2.map (Value.int .i64)) ∧ ∀ k, v.ownBlock = some k → k ∉ F'
theorem scan_s (w0 w : World) (F : List Nat) (b : Nat) (m : Am) {F0 : List Nat} (h : PaS w F b m) (hf : Fr F0 w0 F w) : Calls Tryz.prog 66 #[.pointer (some ⟨b, 0, none⟩)] w fun e w' => ∃ v, e = .returned v ∧ ScS w w0 F0 b m.scan v w' := by
  obtain ⟨ok, p, hp, e⟩ := h
  refine (scan_any w F b m p hp ok e).mono ?_
  rintro e w' ⟨v, F', p', rfl, h1, h2, h3, h4, h5⟩
  exact ⟨v, rfl, F', hf.trans h1, ⟨ok.scan, p', h2, h3⟩, h4.mono hf.t.size, h5⟩
set_option maxHeartbeats 4000000 in
theorem covers_any (w : World) (F : List Nat) (b : Nat) (m : Am) (p : PaP) (q : Int) (v : Value) (u : List Int) (h : Pb w F b m p) (ok : m.Ok) (hq : q ∈ m.ps) (hu : Sl w v u) (hb : isB u m.tot.length = true) :
    Calls Tryz.prog 65 #[.pointer (some ⟨b, 0, none⟩), .int .i64 q, v] w fun e w' => e = .returned (.bool (fitsB (addW (m.held q) u) (m.claim q))) ∧ Touch [] w w' := by
  have hnt := ok.nt
  have hul : u.length = m.tot.length := (isB_iff.1 hb).1
  have hhl := ok.hl q hq
  have hcl := (isB_iff.1 (ok.cl q hq)).1
  have hqi : InI q := by have := ok.pos q hq; unfold InI; omega
  have H1 := Lib.hid (held_in w F b m p q h hnt hq hhl hqi)
  have HC : Hid (((mergeL true (m.held q) u).any fun s => fitsB s (m.claim q)) = fitsB (addW (m.held q) u) (m.claim q)) := Lib.hid (covers_iff (ok.hB hq) hb (ok.cl q hq))
  obtain ⟨cv, hcv, hci⟩ := (h.mcv q).1 hq
  have HU := Lib.hid hu
  have HK : Hid (∀ w', Touch [] w w' → w'.cell? ⟨b, 2, none⟩ = some (.map (some p.bc)) ∧ (Instr.lookup 69 (.map (some p.bc)) (.int .i64 q) false).run Tryz.prog w' = .ok cv w') := Lib.hid (fun w' ht => ⟨(h.blk.touch ht (by simp)).cell (i := 2) rfl, by
    have := (h.mc.touch ht (by simp)).lookR q
    rw [hcv] at this
    exact this⟩)
  have HCI := Lib.hid hci.1
  obtain ⟨ca, cc, hcf⟩ := hci.1.form
  obtain ⟨R, hR⟩ : ∃ R, fitsB (addW (m.held q) u) (m.claim q) = R := ⟨_, rfl⟩
  rw [hR] at HC ⊢
  have HL : Hid ((m.held q).length ≤ 6 ∧ u.length ≤ 6 ∧ (m.claim q).length ≤ 6) := Lib.hid ⟨by omega, by omega, by omega⟩
  obtain ⟨ua, uc, huf⟩ := hu.form
  subst hcf huf
  clear h ok hq hu hb hnt hul hhl hcl hqi hcv hci hR
  go_enter Tryz.func65, Tryz.ntmps65
  go_wp2_with fail
  refine H1.out.mono ?_
  rintro e w1 ⟨hv, rfl, hq1, ht1⟩
  obtain ⟨ha, hc, rfl⟩ := hq1.form
  have HT1 := Lib.hid ht1
  have HP := Lib.hid (plus_q _ _ (m.held q) u w1 hq1.sl (HU.out.touch ht1 (fun _ _ => by simp)) (by have := HL.out; omega) (by have := HL.out; omega))
  clear hq1 ht1 H1
  go_wp2_with fail
  refine HP.out.mono ?_
  rintro e w2 ⟨sa, sc, rfl, hq2, ht2⟩
  have HT2 := Lib.hid (HT1.out.trans ht2)
  cases hm : mergeL true (m.held q) u with
  | none =>
    try rw [hm] at HC
    try rw [hm] at hq2
    have hRf : R = false := by have := HC.out; simpa using this.symm
    subst hRf
    clear hq2 ht2
    simp only [Option.isSome_none, Option.getD_none, List.length_nil]
    go_wp2_with fail
    go_ret
    exact ⟨rfl, HT2.out⟩
  | some s =>
    try rw [hm] at HC
    try rw [hm] at hq2
    have hRf : fitsB s (m.claim q) = R := by have := HC.out; simpa using this
    simp only [Option.isSome_some, Option.getD_some] at hq2 ⊢
    have hsl : s.length ≤ 6 := by
      have h1 := mergeL_len (s := true) (xs := m.held q) (ys := u)
      rw [hm] at h1
      have h1 : s.length ≤ (m.held q).length := h1
      have h2 := HL.out
      omega
    have HFQ := Lib.hid (fits_q (.slice sa s.length sc) (.slice ca (m.claim q).length cc) s (m.claim q) R w2 hq2.sl (HCI.out.touch HT2.out (fun _ _ => by simp)) (by omega) (by have := HL.out; omega) hRf)
    have c2 := (HK.out _ HT2.out).1
    have hk := (HK.out _ HT2.out).2
    clear hq2 ht2 hm hRf hsl
    go_wp2_with fail
    refine HFQ.out.mono ?_
    rintro e w3 ⟨rfl, ht3⟩
    have HT3 := Lib.hid (HT2.out.trans ht3)
    clear ht3 c2 hk
    go_wp2_with fail
    go_ret
    exact ⟨rfl, HT3.out⟩
end Go.Proofs.YticglfmmjgnicaaGreat

set_option linter.unusedVariables false
namespace Go.Proofs.YticglfmmjgnicaaGreat
open Go Go.RowKit

theorem LoopP.fr {w wr : World} {F : List Nat} {b : Nat} {m : Am} {p : PaP} (hb : b ∈ F) (hh : p.bh ∈ F) (hl : ∀ k, k ∈ F → k < w.heap.size) (h : LoopP w F b m p wr) : Fr F w F wr := by
  obtain ⟨_, _, _, _, ht⟩ := h
  exact ⟨ht.mono (fun k hk => by simp at hk; rcases hk with rfl | rfl; exact hb; exact hh), fun k hk => .inl hk, fun k hk => Nat.lt_of_lt_of_le (hl k hk) ht.size⟩
theorem LoopP.paS {w wr : World} {F : List Nat} {b : Nat} {m : Am} {p : PaP} (ok : m.Ok) (e : p.pd = m.pend) (h : LoopP w F b m p wr) : PaS wr F b m := by
  obtain ⟨_, _, _, h, _⟩ := h
  exact ⟨ok, _, h, e⟩
/-- Of an empty list nothing can turn. -/
theorem Sl.keep {w w' : World} {v : Value} {xs : List Int} {S : List Nat} (h : Sl w v xs) (ht : Touch S w w') (hs : xs ≠ [] → ∀ k, v.ownBlock = some k → k ∉ S) : Sl w' v xs := by
  by_cases e : xs = []
  · subst e
    obtain ⟨a, c, rfl, _⟩ := h
    exact ⟨a, c, rfl, .inl rfl⟩
  · exact h.touch ht (hs e)
set_option maxRecDepth 100000 in
set_option maxHeartbeats 16000000 in
theorem give_any (w : World) (F : List Nat) (b : Nat) (m : Am) (q : Int) (v : Value) (u : List Int) (h : PaS w F b m) (hu : Sl w v u) (hv : u ≠ [] → ∀ k, v.ownBlock = some k → k ∉ F) :
    Calls Tryz.prog 36 #[.pointer (some ⟨b, 0, none⟩), .int .i64 q, v] w (ResP w F b (m.cGive q u).1 (m.cGive q u).2.1 (.int .i64 (m.cGive q u).2.2)) := by
  have HS := Lib.hid h
  obtain ⟨ok, p, hp, hpd⟩ := h
  have HOK := Lib.hid ok
  have HP := Lib.hid hp
  have HPD := Lib.hid hpd
  have HU := Lib.hid hu
  have HV := Lib.hid hv
  obtain ⟨ua, uc, huf⟩ := hu.form
  subst huf
  obtain ⟨N, hN⟩ : ∃ N, u.length = N := ⟨_, rfl⟩
  have HN := Lib.hid hN
  have H1 := Lib.hid (isIn_any w F b m p q hp.toPb)
  have H2 := Lib.hid (areUnits_any w F b m p _ u hp.toPb ok.nt hu)
  rw [hN] at H2 HU HV ⊢
  clear ok hp hpd hu hv hN
  by_cases hq : q ∈ m.ps
  · rw [dT hq] at H1
    have HQ := Lib.hid hq
    obtain ⟨B, hB⟩ : ∃ B, isB u m.tot.length = B := ⟨_, rfl⟩
    rw [hB] at H2
    have HB := Lib.hid hB
    clear hq hB
    go_enter Tryz.func36, Tryz.ntmps36
    go_wp2_with fail
    refine H1.out.mono ?_
    rintro e w1 ⟨rfl, rfl⟩
    go_wp2_with fail
    refine H2.out.mono ?_
    rintro e w1 ⟨rfl, rfl⟩
    cases B with
    | false =>
      have HF : Hid (ResP w F b (m.cGive q u).1 (m.cGive q u).2.1 (.int .i64 (m.cGive q u).2.2) (.returned (.tuple #[.slice none 0 0, .int .i64 1])) w) := Lib.hid (by
        rw [show m.cGive q u = (m, [], 1) from by unfold Am.cGive; rw [if_neg (by simpa using HQ.out), if_pos HB.out]]
        exact ResP.no _ HS.out (Touch.refl _ _))
      go_wp2_with fail
      go_ret2
      exact HF.out
    | true =>
      have hul : u.length = m.tot.length := (isB_iff.1 HB.out).1
      have hn6 : N ≤ 6 := by have := HOK.out.nt; have := HN.out; omega
      have hhl := HOK.out.hl q HQ.out
      have hqi : InI q := by have := HOK.out.pos q HQ.out; unfold InI; omega
      have H3 := Lib.hid (held_in w F b m p q HP.out.toPb HOK.out.nt HQ.out hhl hqi)
      have HHL := Lib.hid (And.intro hul (And.intro hhl hqi))
      clear hul hhl hqi
      go_wp2_with fail
      refine H3.out.mono ?_
      rintro e w1 ⟨hv1, rfl, hq1, ht1⟩
      obtain ⟨ha, hc, rfl⟩ := hq1.form
      obtain ⟨C, hC⟩ : ∃ C, fitsB u (m.held q) = C := ⟨_, rfl⟩
      have HC := Lib.hid hC
      have HT1 := Lib.hid ht1
      have HFQ := Lib.hid (fits_q (.slice ua N uc) (.slice ha (m.held q).length hc) u (m.held q) C w1 (HU.out.touch ht1 (fun _ _ => by simp)) hq1.sl (by have := HN.out; omega) (by have := HHL.out; have := HN.out; omega) hC)
      clear hq1 ht1 hC
      go_wp2_with fail
      refine HFQ.out.mono ?_
      rintro e w2 ⟨rfl, ht2⟩
      have HT2 := Lib.hid (HT1.out.trans ht2)
      clear ht2
      cases C with
      | false =>
        have HF : Hid (ResP w F b (m.cGive q u).1 (m.cGive q u).2.1 (.int .i64 (m.cGive q u).2.2) (.returned (.tuple #[.slice none 0 0, .int .i64 36])) w2) := Lib.hid (by
          rw [show m.cGive q u = (m, [], 36) from by unfold Am.cGive; rw [if_neg (by simpa using HQ.out), if_neg (by rw [HB.out]; simp), if_pos HC.out]]
          exact ResP.no _ HS.out HT2.out)
        go_wp2_with fail
        go_ret2
        exact HF.out
      | true =>
        have hcg : m.cGive q u = ((m.back q u).scan.1, (m.back q u).scan.2, 0) := by unfold Am.cGive; rw [if_neg (by simpa using HQ.out), if_neg (by rw [HB.out]; simp), if_neg (by rw [HC.out]; simp)]
        have HCG := Lib.hid hcg
        have hub : ∀ k, k < N → 0 ≤ u.getD k 0 ∧ u.getD k 0 ≤ 1000 ∧ InI ((m.held q).getD k 0 + - u.getD k 0) := fun k hk => by
          have h0 : k < m.tot.length := by have := HHL.out; have := HN.out; omega
          have h1 := (isB_iff.1 HB.out).2 k h0
          have h2 := HOK.out.le HQ.out h0
          have h3 := HOK.out.tb k h0
          have h4 := HOK.out.av k h0
          refine ⟨h1.1, h1.2, ?_⟩
          unfold InI
          omega
        have HUB := Lib.hid hub
        have HL0 : Hid (LoopP w2 F b (m.moreK q (fun k => - u.getD k 0) 0) p w2) := Lib.hid (by rw [moreK_zero]; exact ⟨p.sv, p.mh, p.nh, HP.out.same HT2.out, Touch.refl _ _⟩)
        have HSU : Hid (∀ w', Touch [b, p.bh] w2 w' → Sl w' (.slice ua N uc) u) := Lib.hid (fun w' ht => (HU.out.touch HT2.out (fun _ _ => by simp)).keep ht (fun hne k hk hm => HV.out hne k hk (by
          simp at hm
          rcases hm with rfl | rfl
          · exact HP.out.fw _ (by simp [PaP.W])
          · exact HP.out.fw _ (by simp [PaP.W]))))
        clear hcg hub
        go_wp2_with fail
        go_loopw [29] (fun kv wr => ∃ k : Nat, k ≤ N ∧ kv = .int .i64 (k : Int) ∧ LoopP w2 F b (m.moreK q (fun k => - u.getD k 0) k) p wr) (fun kv _ => N + 1 - (intOf kv).toNat)
        case atStart => exact ⟨0, by omega, rfl, HL0.out⟩
        case round =>
          clear HL0
          obtain ⟨k, hk, rfl, hl⟩ := hrel
          have HLP := Lib.hid hl
          by_cases hkn : k < N
          · have hltk : (k : Int) < (N : Int) := by omega
            obtain ⟨v5, mh5, nh5, hp5, ht5⟩ := hl
            have ht5 : Touch [b, p.bh] w2 wr := ht5
            have hkt : k < m.tot.length := by have := HHL.out; have := HN.out; omega
            obtain ⟨gu, ou, hgu, xu⟩ := (HSU.out _ ht5).ix (q := k) (by rw [HN.out]; exact hkn)
            cases hgu
            have cu := xu _ (Touch.refl _ _)
            obtain ⟨b1, b2, b3⟩ := HUB.out k hkn
            have HK := Lib.hid (holdK w2 wr F b m p q (fun k => - u.getD k 0) k HLP.out HOK.out.nt HQ.out HHL.out.2.1 HHL.out.2.2 hkt b3)
            obtain ⟨y, hy⟩ : ∃ y, u.getD k 0 = y := ⟨_, rfl⟩
            have HK2 : Hid (Calls Tryz.prog 67 #[.pointer (some ⟨b, 0, none⟩), .int .i64 q, .int .i64 (k : Int), .int .i64 (-y)] wr fun e w' => e = .returned (.tuple #[]) ∧ LoopP w2 F b (m.moreK q (fun k => - u.getD k 0) (k + 1)) p w') := Lib.hid (by rw [← hy]; exact HK.out)
            rw [hy] at cu b1 b2
            have v1 : IntKind.i64.wrap (-y) = -y := IntWalk.i64_in _ (by omega)
            clear xu hy HK hp5 ht5 b3
            go_wp2_with fail
            refine HK2.out.mono ?_
            rintro e w6 ⟨rfl, hl6⟩
            have HL6 := Lib.hid hl6
            clear hl6 cu v1
            go_wp2_with fail
            go_roundw
            case rel => exact ⟨k + 1, by omega, by go_num, HL6.out⟩
            case measure => simp [intOf]; omega
          · have hltk : ¬ (k : Int) < (N : Int) := by omega
            obtain rfl : k = N := by omega
            have hlb : LoopP w2 F b (m.back q u) p wr := by
              rw [← moreK_back m q u (by rw [HHL.out.2.1]; exact HHL.out.1), HHL.out.2.1, ← HHL.out.1, HN.out]
              exact hl
            have HSC := Lib.hid (scan_s w wr F b (m.back q u) (hlb.paS (HOK.out.back HQ.out HB.out HC.out) HPD.out) ((Fr.same HT2.out HS.out.lt).trans (hlb.fr HS.out.bF (HP.out.fw _ (by simp [PaP.W])) (HP.out.same HT2.out).lt)))
            clear hl hlb
            go_wp2_with fail
            refine HSC.out.mono ?_
            rintro e w7 ⟨v7, rfl, hs7⟩
            have HF : Hid (ResP w F b (m.cGive q u).1 (m.cGive q u).2.1 (.int .i64 (m.cGive q u).2.2) (.returned (.tuple #[v7, .int .i64 0])) w7) := Lib.hid (by
              rw [HCG.out]
              obtain ⟨F', f1, f2, f3, f4⟩ := hs7
              exact ⟨v7, F', rfl, f1, f2, f3, f4⟩)
            clear hs7
            go_wp2_with fail
            go_ret2
            exact HF.out
  · rw [dF hq] at H1
    have HF : Hid (ResP w F b (m.cGive q u).1 (m.cGive q u).2.1 (.int .i64 (m.cGive q u).2.2) (.returned (.tuple #[.slice none 0 0, .int .i64 3])) w) := Lib.hid (by
      rw [show m.cGive q u = (m, [], 3) from by unfold Am.cGive; rw [if_pos hq]]
      exact ResP.no _ HS.out (Touch.refl _ _))
    clear hq
    go_enter Tryz.func36, Tryz.ntmps36
    go_wp2_with fail
    refine H1.out.mono ?_
    rintro e w1 ⟨rfl, rfl⟩
    go_wp2_with fail
    go_ret2
    exact HF.out
end Go.Proofs.YticglfmmjgnicaaGreat

set_option linter.unusedVariables false
namespace Go.Proofs.YticglfmmjgnicaaGreat
open Go Go.RowKit

theorem subW_self (h : List Int) (k : Nat) : (subW h h).getD k 0 = 0 := by
  by_cases hk : k < h.length
  · rw [subW_get _ _ _ hk]; omega
  · rw [getD_over (by rw [subW_length]; omega)]
theorem len_filter_ne {q : Int} : ∀ {l : List Int}, l.Nodup → q ∈ l → (l.filter fun p => decide (p ≠ q)).length = l.length - 1
  | [], _, h => by simp at h
  | a :: l, hn, h => by
    rw [List.nodup_cons] at hn
    by_cases e : a = q
    · subst e
      rw [List.filter_cons_of_neg (by simp), List.filter_eq_self.2 (fun b hb => by simp; intro e; exact hn.1 (e ▸ hb))]
      simp
    · have hq : q ∈ l := by rcases List.mem_cons.1 h with h | h; exact absurd h.symm e; exact h
      rw [List.filter_cons_of_pos (by simp [e]), List.length_cons, len_filter_ne hn.2 hq, List.length_cons]
      have : 0 < l.length := List.length_pos_of_mem hq
      omega
theorem Pb.quit {w w5 w9 : World} {F : List Nat} {b base : Nat} {m : Am} {p : PaP} {q : Int} {v' : Value} {pu' : Nat → Value} (h : Pb w F b (m.back q (m.held q)) p) (ok : m.Ok) (hq : q ∈ m.ps) (e : p.pd = m.pend)
    (hA : Av w5 base 58 2 v' (m.quit q).pend.length (askF (m.quit q).pend pu')) (t5 : Touch p.pv.ownBlock.toList w w5) (ho : ∀ k, v'.ownBlock = some k → p.pv.ownBlock = some k)
    (hi : ∀ a, a < (m.quit q).pend.length → ∃ a0, a0 < m.pend.length ∧ pu' a = p.pu a0 ∧ (m.quit q).pend.getD a (0, []) = m.pend.getD a0 (0, []))
    (hm : Mp (Value.int .i64) w9 p.bc (dropM p.mc q) (m.ps.length - 1)) (t9 : Touch [p.bc] (w5.setCell ⟨b, 4, none⟩ v') w9) :
    Pb (w9.setCell ⟨b, 5, none⟩ (.pointer none)) F b (m.quit q) { p with pv := v', pu := pu', pd := (m.quit q).pend, mc := dropM p.mc q, sv := .pointer none } := by
  have hnd := h.nd
  unfold PaP.W at hnd
  have hWe : p.W b = [b, p.bc, p.bh] ++ p.pv.ownBlock.toList := rfl
  have n1 : b ≠ p.bc ∧ b ≠ p.bh ∧ p.bc ≠ p.bh := by simp at hnd; exact ⟨hnd.1.1, hnd.1.2.1, hnd.2.1.1⟩
  have n2 : ∀ k, p.pv.ownBlock = some k → b ≠ k ∧ p.bc ≠ k ∧ p.bh ≠ k := fun k hk => by simp [hk] at hnd; exact ⟨hnd.1.2.2, hnd.2.1.2, hnd.2.2⟩
  have n3 : b ∉ p.pv.ownBlock.toList := fun hm => (n2 b (Option.mem_toList.1 hm)).1 rfl
  have n4 : p.bc ∉ p.pv.ownBlock.toList := fun hm => (n2 _ (Option.mem_toList.1 hm)).2.1 rfl
  have n5 : p.bh ∉ p.pv.ownBlock.toList := fun hm => (n2 _ (Option.mem_toList.1 hm)).2.2 rfl
  have t6 : Touch [b] w5 (w5.setCell ⟨b, 4, none⟩ v') := (Touch.refl [b] w5).setCell (by simp) _
  have t10 : Touch [b] w9 (w9.setCell ⟨b, 5, none⟩ (.pointer none)) := (Touch.refl [b] w9).setCell (by simp) _
  have ta : Touch (p.W b) w (w9.setCell ⟨b, 5, none⟩ (.pointer none)) := by
    rw [hWe]
    refine ((t5.mono (fun k hk => ?_)).trans (t6.mono (fun k hk => ?_))).trans ((t9.mono (fun k hk => ?_)).trans (t10.mono (fun k hk => ?_)))
    · exact List.mem_append.2 (.inr hk)
    · simp at hk; simp [hk]
    · simp at hk; simp [hk]
    · simp at hk; simp [hk]
  have hT : ∀ k, k ∈ p.W b → k ∈ F → k ∈ p.W b := fun k h _ => h
  have hF : ∀ k, k ∈ F → k ∈ F := fun k h => h
  obtain ⟨p', hp'⟩ : ∃ p' : PaP, p' = { p with pv := v', pu := pu', pd := (m.quit q).pend, mc := dropM p.mc q, sv := .pointer none } := ⟨_, rfl⟩
  have hWs : ∀ k, k ∈ p'.W b → k ∈ p.W b := fun k hk => by
    rw [hp'] at hk
    rw [hWe]
    have hk : k ∈ [b, p.bc, p.bh] ++ v'.ownBlock.toList := hk
    rcases List.mem_append.1 hk with hk | hk
    · exact List.mem_append.2 (.inl hk)
    · exact List.mem_append.2 (.inr (Option.mem_toList.2 (ho k (Option.mem_toList.1 hk))))
  have hW : ∀ k, k ∈ F → k ∈ p'.W b → k ∈ p.W b := fun k _ hk => hWs k hk
  have vown : ∀ k, v'.ownBlock = some k → k ∉ [b] ∧ k ∉ [p.bc] := fun k hk => by
    have := n2 k (ho k hk)
    simp
    exact ⟨Ne.symm this.1, Ne.symm this.2.1⟩
  have hob : Blk (w9.setCell ⟨b, 5, none⟩ (.pointer none)) b #[p.tv, .bool m.clm, .map (some p.bc), .map (some p.bh), v', .pointer none] 73 :=
    (((h.obj.touch t5 n3).set 4 v').touch t9 (by simpa using n1.1)).set 5 (.pointer none)
  rw [← hp']
  have hmh : Mp shK (w9.setCell ⟨b, 5, none⟩ (.pointer none)) p.bh p.mh p.nh := (((h.mh.touch t5 n5).touch t6 (by simpa using Ne.symm n1.2.1)).touch t9 (by simpa using Ne.symm n1.2.2)).touch t10 (by simpa using Ne.symm n1.2.1)
  have hqp : ∀ r, r ∈ (m.quit q).ps ↔ r ∈ m.ps ∧ r ≠ q := fun r => by
    show r ∈ m.ps.filter (fun p => decide (p ≠ q)) ↔ _
    rw [List.mem_filter]; simp
  have hlen : (m.quit q).ps.length = m.ps.length - 1 := len_filter_ne (rise_nd ok.rise) hq
  refine ⟨by rw [hp']; exact hob, fun k hk => Nat.lt_of_lt_of_le (h.lt k hk) ta.size, fun k hk => h.fw k (hWs k hk), ?_, by rw [hp']; rw [← hp']; exact (by rw [hp'] at hW ⊢; exact h.tot.to ta hT hF hW), by rw [hlen, hp']; exact hm.touch t10 (by simpa using Ne.symm n1.1), fun r => ⟨fun hr => ?_, fun hr => ?_⟩, by rw [hp']; exact hmh, fun k => ?_, ⟨base, ?_⟩, fun i hi2 => ?_⟩
  · rw [hp']
    show ([b, p.bc, p.bh] ++ v'.ownBlock.toList).Nodup
    cases hv : v'.ownBlock with
    | none => simp [n1]
    | some k =>
      have := ho k hv
      rw [this] at hnd
      exact hnd
  · obtain ⟨hr1, hr2⟩ := (hqp r).1 hr
    obtain ⟨v, h3, h4⟩ := (h.mcv r).1 hr1
    refine ⟨v, by rw [hp']; simp [dropM, hr2]; exact h3, h4.to ta hT hF hW⟩
  · rw [hp']
    show dropM p.mc q r = none
    by_cases e : r = q
    · simp [dropM, e]
    · rw [dropM, if_neg e]
      exact (h.mcv r).2 (fun hm => hr ((hqp r).2 ⟨hm, e⟩))
  · have h0 := h.mhv k
    rw [hp']
    show p.mh k = if k.1.1 ∈ (m.quit q).ps ∧ 0 ≤ k.1.2 ∧ k.1.2 < (m.tot.length : Int) ∧ (m.held k.1.1).getD k.1.2.toNat 0 ≠ 0 then _ else _
    rw [h0]
    show (if k.1.1 ∈ m.ps ∧ 0 ≤ k.1.2 ∧ k.1.2 < (m.tot.length : Int) ∧ (updF m.held q (subW (m.held q) (m.held q)) k.1.1).getD k.1.2.toNat 0 ≠ 0 then some (Value.int .i64 ((updF m.held q (subW (m.held q) (m.held q)) k.1.1).getD k.1.2.toNat 0)) else none) = _
    by_cases e : k.1.1 = q
    · rw [if_neg (by
        rintro ⟨_, _, _, h⟩
        rw [e, updF_at, subW_self] at h
        exact h rfl), if_neg (fun h => ((hqp _).1 h.1).2 e)]
    · rw [updF_ne _ _ e]
      by_cases hc : k.1.1 ∈ m.ps ∧ 0 ≤ k.1.2 ∧ k.1.2 < (m.tot.length : Int) ∧ (m.held k.1.1).getD k.1.2.toNat 0 ≠ 0
      · rw [if_pos hc, if_pos ⟨(hqp _).2 ⟨hc.1, e⟩, hc.2⟩]; rfl
      · rw [if_neg hc, if_neg (fun h => hc ⟨((hqp _).1 h.1).1, h.2⟩)]
  · rw [hp']
    exact ((hA.touch t6 (fun k hk => (vown k hk).1)).touch t9 (fun k hk => (vown k hk).2)).touch t10 (fun k hk => (vown k hk).1)
  · have hi2 : i < (m.quit q).pend.length := by rw [hp'] at hi2; exact hi2
    obtain ⟨a0, x1, x2, x3⟩ := hi i hi2
    have := (h.pu a0 (by rw [e]; exact x1)).to (W' := p'.W b) ta hT hF hW
    rw [e] at this
    rw [show p'.pu i = p.pu a0 from by rw [hp']; exact x2, show p'.pd = (m.quit q).pend from by rw [hp'], x3]
    exact this
theorem im_form {w : World} {F W : List Nat} {v : Value} {xs : List Int} (h : Im w F W v xs) : ∃ a n c, v = .slice a n c := by
  obtain ⟨a, c, e⟩ := h.1.form
  exact ⟨a, _, c, e⟩
theorem Pb.forQ {w : World} {F : List Nat} {b : Nat} {m : Am} {p : PaP} (h : Pb w F b m p) : ForQ p.pd p.pu := fun i hi => im_form (h.pu i hi)
set_option maxRecDepth 100000 in
set_option maxHeartbeats 16000000 in
theorem leave_any (w : World) (F : List Nat) (b : Nat) (m : Am) (q : Int) (h : PaS w F b m) :
    Calls Tryz.prog 37 #[.pointer (some ⟨b, 0, none⟩), .int .i64 q] w (ResP w F b (m.cLeave q).1 (m.cLeave q).2.1 (.bool (m.cLeave q).2.2)) := by
  have ta : Touch [] w (w.alloc (.cells #[.int .i64 q] 3)) := (Touch.refl _ _).alloc _
  have HTA := Lib.hid ta
  have HS0 := Lib.hid h
  have HS := Lib.hid (h.same ta)
  obtain ⟨ok, p, hp, hpd⟩ := h.same ta
  have HOK := Lib.hid ok
  have HP := Lib.hid hp
  have HPD := Lib.hid hpd
  have bq : Blk (w.alloc (.cells #[.int .i64 q] 3)) w.heap.size #[.int .i64 q] 3 := Blk.new rfl
  have HBQ : Hid (∀ T w', Touch T (w.alloc (.cells #[.int .i64 q] 3)) w' → (∀ k, k ∈ T → k ∈ F) → w'.cell? ⟨w.heap.size, 0, none⟩ = some (.int .i64 q)) := Lib.hid (fun T w' ht hT => (bq.touch ht (fun hm => by have := h.lt _ (hT _ hm); omega)).cell (i := 0) rfl)
  have x0 := HBQ.out [] _ (Touch.refl _ _) (by simp)
  have H1 := Lib.hid (isIn_any _ F b m p q hp.toPb)
  by_cases hq : q ∈ m.ps
  · rw [dT hq] at H1
    have HQ := Lib.hid hq
    have hhl := ok.hl q hq
    have hqi : InI q := by have := ok.pos q hq; unfold InI; omega
    have H3 := Lib.hid (held_in _ F b m p q hp.toPb ok.nt hq hhl hqi)
    have HHL := Lib.hid (And.intro hhl hqi)
    have hcg : m.cLeave q = ((m.quit q).scan.1, (m.quit q).scan.2, true) := by unfold Am.cLeave; rw [if_neg (by simpa using hq)]
    have HCG := Lib.hid hcg
    obtain ⟨N, hN⟩ : ∃ N, (m.held q).length = N := ⟨_, rfl⟩
    have HN := Lib.hid hN
    have hn6 : N ≤ 6 := by have := ok.nt; omega
    clear h ta ok hp hpd bq hq hhl hqi hcg hN
    go_enter Tryz.func37, Tryz.ntmps37
    go_wp2_with fail
    refine H1.out.mono ?_
    rintro e w1 ⟨rfl, rfl⟩
    go_wp2_with fail
    refine H3.out.mono ?_
    rintro e w2 ⟨hv1, rfl, hq1, ht1⟩
    obtain ⟨ha, hc, hvf⟩ := hq1.form
    rw [HN.out] at hvf
    subst hvf
    have HT2 := Lib.hid ht1
    have HQV := Lib.hid hq1
    have HUB : Hid (∀ k, k < N → 0 ≤ (m.held q).getD k 0 ∧ (m.held q).getD k 0 ≤ 1000 ∧ InI ((m.held q).getD k 0 + - (m.held q).getD k 0)) := Lib.hid (fun k hk => by
      have h0 : k < m.tot.length := by have := HHL.out.1; have := HN.out; omega
      have h2 := HOK.out.le HQ.out h0
      have h3 := HOK.out.tb k h0
      have h4 := HOK.out.av k h0
      refine ⟨h2.1, by omega, ?_⟩
      unfold InI
      omega)
    have HL0 : Hid (LoopP w2 F b (m.moreK q (fun k => - (m.held q).getD k 0) 0) p w2) := Lib.hid (by rw [moreK_zero]; exact ⟨p.sv, p.mh, p.nh, HP.out.same HT2.out, Touch.refl _ _⟩)
    have HBF : Hid (∀ k, k ∈ [b, p.bh] → k ∈ F) := Lib.hid (fun k hk => by
      simp at hk
      rcases hk with rfl | rfl
      · exact HP.out.fw _ (by simp [PaP.W])
      · exact HP.out.fw _ (by simp [PaP.W]))
    have HSU : Hid (∀ w', Touch [b, p.bh] w2 w' → Sl w' (.slice ha N hc) (m.held q)) := Lib.hid (fun w' ht => HQV.out.sl.touch ht (fun k hk hm => by
      have h1 := (HQV.out.own k hk).1
      have h2 := HP.out.lt _ (HBF.out k hm)
      omega))
    have HX : Hid (∀ w', Touch [b, p.bh] w2 w' → w'.cell? ⟨w.heap.size, 0, none⟩ = some (.int .i64 q)) := Lib.hid (fun w' ht => HBQ.out [b, p.bh] w' ((HT2.out.mono (by simp)).trans ht) HBF.out)
    clear hq1 ht1 x0
    go_wp2_with fail
    go_loopw [16] (fun kv wr => ∃ k : Nat, k ≤ N ∧ kv = .int .i64 (k : Int) ∧ LoopP w2 F b (m.moreK q (fun k => - (m.held q).getD k 0) k) p wr) (fun kv _ => N + 1 - (intOf kv).toNat)
    case atStart => exact ⟨0, by omega, rfl, HL0.out⟩
    case round =>
      clear HL0
      obtain ⟨k, hk, rfl, hl⟩ := hrel
      have HLP := Lib.hid hl
      obtain ⟨v5, mh5, nh5, hp5, ht5⟩ := hl
      have ht5 : Touch [b, p.bh] w2 wr := ht5
      have xb := HX.out wr ht5
      by_cases hkn : k < N
      · have hltk : (k : Int) < (N : Int) := by omega
        have hkt : k < m.tot.length := by have := HHL.out.1; have := HN.out; omega
        obtain ⟨gu, ou, hgu, xu⟩ := (HSU.out _ ht5).ix (q := k) (by rw [HN.out]; exact hkn)
        cases hgu
        have cu := xu _ (Touch.refl _ _)
        obtain ⟨b1, b2, b3⟩ := HUB.out k hkn
        have HK := Lib.hid (holdK w2 wr F b m p q (fun k => - (m.held q).getD k 0) k HLP.out HOK.out.nt HQ.out HHL.out.1 HHL.out.2 hkt b3)
        obtain ⟨y, hy⟩ : ∃ y, (m.held q).getD k 0 = y := ⟨_, rfl⟩
        have HK2 : Hid (Calls Tryz.prog 67 #[.pointer (some ⟨b, 0, none⟩), .int .i64 q, .int .i64 (k : Int), .int .i64 (-y)] wr fun e w' => e = .returned (.tuple #[]) ∧ LoopP w2 F b (m.moreK q (fun k => - (m.held q).getD k 0) (k + 1)) p w') := Lib.hid (by rw [← hy]; exact HK.out)
        rw [hy] at cu b1 b2
        have v1 : IntKind.i64.wrap (-y) = -y := IntWalk.i64_in _ (by omega)
        clear xu hy HK hp5 ht5 b3
        go_wp2_with fail
        refine HK2.out.mono ?_
        rintro e w6 ⟨rfl, hl6⟩
        have HL6 := Lib.hid hl6
        clear hl6 cu v1 xb
        go_wp2_with fail
        go_roundw
        case rel => exact ⟨k + 1, by omega, by go_num, HL6.out⟩
        case measure => simp [intOf]; omega
      · have hltk : ¬ (k : Int) < (N : Int) := by omega
        obtain rfl : k = N := by omega
        have hlb : LoopP w2 F b (m.back q (m.held q)) p wr := by
          rw [← moreK_back m q (m.held q) rfl, HN.out]
          exact HLP.out
        clear hp5 HLP
        obtain ⟨v6, mh6, nh6, hp6, _⟩ := hlb
        have hp6 : Pa wr F b (m.back q (m.held q)) { p with sv := v6, mh := mh6, nh := nh6 } := hp6
        have HP6 := Lib.hid hp6
        have HT6 := Lib.hid ht5
        obtain ⟨base, hpe⟩ := hp6.pend
        have hpe : Av wr base 58 2 p.pv p.pd.length (askF p.pd p.pu) := hpe
        have hfq : ForQ p.pd p.pu := hp6.toPb.forQ
        have hpl : m.pend.length ≤ 32 := pend_few HOK.out
        have hkb : w.heap.size < wr.heap.size := by
          have h1 := HT2.out.size
          have h2 := ht5.size
          simp at h1
          omega
        have hpo : p.pv.ownBlock ≠ some w.heap.size := fun e => by
          have h1 := HP.out.fw w.heap.size (by simp [PaP.W, e])
          have := HS0.out.lt _ h1
          omega
        rw [HPD.out] at hpe hfq
        have HD := Lib.hid (delf_any 69 w.heap.size q (leave_isQ _ q) (enters2 _ (by kernel_rfl)) wr base p.pv m.pend p.pu hpe hfq (by omega) xb hkb hpo)
        have c4 : wr.cell? ⟨b, 4, none⟩ = some p.pv := hp6.blk.cell (i := 4) rfl
        obtain ⟨qa, qn, qc, hqv⟩ : ∃ a n c, p.pv = .slice a n c := by obtain ⟨a, c, e, _⟩ := hpe.form; exact ⟨a, _, c, e⟩
        have HQV2 := Lib.hid hqv
        have HKB := Lib.hid (And.intro hkb hpo)
        rw [hqv] at HD c4
        clear hpe hfq hpl hkb hpo hqv hp6 ht5
        go_wp2_with fail
        refine HD.out.mono ?_
        rintro e w5 ⟨v', pu', rfl, hA, t5, ho, hi⟩
        obtain ⟨va, vn, vc, hvf⟩ : ∃ a n c, v' = .slice a n c := by obtain ⟨a, c, e, _⟩ := hA.form; exact ⟨a, _, c, e⟩
        subst hvf
        have hnd := HP6.out.nd
        have hWF : ∀ k, p.pv.ownBlock = some k → k ∈ F := fun k hk => HP6.out.fw k (by simp [PaP.W, hk])
        have hbn : b ∉ p.pv.ownBlock.toList := by
          intro hm
          simp [PaP.W, Option.mem_toList.1 hm] at hnd
        have hbc : p.bc ∉ p.pv.ownBlock.toList := by
          intro hm
          simp [PaP.W, Option.mem_toList.1 hm] at hnd
        have hbb : b ≠ p.bc := by simp [PaP.W] at hnd; exact hnd.1.1
        rw [← HQV2.out] at t5 ho
        have hob := HP6.out.blk.touch t5 hbn
        have c4 := hob.cell (i := 4) rfl
        have f4 := hob.free 4
        have t6 : Touch [b] w5 (w5.setCell ⟨b, 4, none⟩ (.slice va vn vc)) := (Touch.refl [b] w5).setCell (by simp) _
        have hob6 := hob.set 4 (.slice va vn vc)
        have d2 : (World.drew (w5.setCell ⟨b, 4, none⟩ (.slice va vn vc))).cell? ⟨b, 2, none⟩ = some (.map (some p.bc)) := hob6.cell (i := 2) rfl
        have tall : Touch F wr (World.drew (w5.setCell ⟨b, 4, none⟩ (.slice va vn vc))) := ((t5.mono (fun k hk => hWF k (Option.mem_toList.1 hk))).trans (t6.mono (fun k hk => by simp at hk; rw [hk]; exact HS0.out.bF))).drew
        have dq : (World.drew (w5.setCell ⟨b, 4, none⟩ (.slice va vn vc))).cell? ⟨w.heap.size, 0, none⟩ = some (.int .i64 q) := HBQ.out F _ (((HT2.out.mono (by simp)).trans (HT6.out.mono HBF.out)).trans tall) (fun k h => h)
        have hmc : Mp (Value.int .i64) (World.drew (w5.setCell ⟨b, 4, none⟩ (.slice va vn vc))) p.bc p.mc m.ps.length := (show Mp (Value.int .i64) (w5.setCell ⟨b, 4, none⟩ (.slice va vn vc)) p.bc p.mc m.ps.length from (HP6.out.mc.touch t5 hbc).touch t6 (by simpa using Ne.symm hbb))
        obtain ⟨w9, hdel, m9, t9, _⟩ := Mp.drop intKey Tryz.underlying69 Tryz.underlying3 hmc q
        have hsome : (p.mc q).isSome = true := by
          obtain ⟨v, e, _⟩ := (HP.out.mcv q).1 HQ.out
          rw [e]; rfl
        rw [if_pos hsome] at m9
        have t9' : Touch [p.bc] (w5.setCell ⟨b, 4, none⟩ (.slice va vn vc)) w9 := ((Touch.refl _ _).drew).trans t9
        have hq9 := Pb.quit HP6.out.toPb HOK.out HQ.out HPD.out hA t5 ho hi m9 t9'
        have hob9 := hob6.touch t9' (by simpa using hbb)
        have c5 := hob9.cell (i := 5) rfl
        have f5 := hob9.free 5
        have tF : Touch F w (w9.setCell ⟨b, 5, none⟩ (.pointer none)) := (((((HTA.out.trans HT2.out).mono (by simp)).trans (HT6.out.mono HBF.out)).trans tall).trans (t9.mono (fun k hk => by simp at hk; rw [hk]; exact HP6.out.fw _ (by simp [PaP.W])))).setCell HS0.out.bF _
        have hfr : Fr F w F (w9.setCell ⟨b, 5, none⟩ (.pointer none)) := ⟨tF, fun k hk => .inl hk, fun k hk => Nat.lt_of_lt_of_le (HS0.out.lt k hk) tF.size⟩
        have HSC := Lib.hid (scan_s w (w9.setCell ⟨b, 5, none⟩ (.pointer none)) F b (m.quit q) ⟨HOK.out.quit HQ.out, _, ⟨hq9, .inl rfl⟩, rfl⟩ hfr)
        have HDL := Lib.hid hdel
        have HDC := Lib.hid (And.intro d2 dq)
        have HDC9 : Hid (w9.cell? ⟨b, 2, none⟩ = some (.map (some p.bc)) ∧ w9.cell? ⟨w.heap.size, 0, none⟩ = some (.int .i64 q)) := Lib.hid ⟨hob9.cell (i := 2) rfl, HBQ.out F _ ((((HT2.out.mono (by simp)).trans (HT6.out.mono HBF.out)).trans tall).trans (t9.mono (fun k hk => by simp at hk; rw [hk]; exact HP6.out.fw _ (by simp [PaP.W])))) (fun k h => h)⟩
        clear hA t5 ho hi hnd hWF hbn hbc hbb hob t6 hob6 tall hmc hdel m9 t9 hsome t9' hq9 hob9 tF hfr d2 dq
        go_wp2_with fail
        go_region_held_law (fun w' => w'.cell? ⟨b, 2, none⟩ = some (.map (some p.bc)) ∧ w'.cell? ⟨w.heap.size, 0, none⟩ = some (.int .i64 q)) (first | exact HDC.out | exact HDC9.out) (refine step_delete_run rfl _ _ _ _ rfl _ _ rfl rfl _ _ (HDL.out _) ?_)
        all_goals
          clear c4 f4
          go_wp2_with fail
          refine HSC.out.mono ?_
          rintro e w7 ⟨v7, rfl, hs7⟩
          have HF : Hid (ResP w F b (m.cLeave q).1 (m.cLeave q).2.1 (.bool (m.cLeave q).2.2) (.returned (.tuple #[v7, .bool true])) w7) := Lib.hid (by
            rw [HCG.out]
            obtain ⟨F', f1, f2, f3, f4⟩ := hs7
            exact ⟨v7, F', rfl, f1, f2, f3, f4⟩)
          clear hs7
          go_wp2_with fail
          go_ret2
          exact HF.out
  · rw [dF hq] at H1
    have HF : Hid (ResP w F b (m.cLeave q).1 (m.cLeave q).2.1 (.bool (m.cLeave q).2.2) (.returned (.tuple #[.slice none 0 0, .bool false])) (w.alloc (.cells #[.int .i64 q] 3))) := Lib.hid (by
      rw [show m.cLeave q = (m, [], false) from by unfold Am.cLeave; rw [if_pos hq]]
      exact ResP.no _ h ta)
    clear h ta ok hp hpd bq hq
    go_enter Tryz.func37, Tryz.ntmps37
    go_wp2_with fail
    refine H1.out.mono ?_
    rintro e w1 ⟨rfl, rfl⟩
    go_wp2_with fail
    go_ret2
    exact HF.out
end Go.Proofs.YticglfmmjgnicaaGreat

set_option linter.unusedVariables false
namespace Go.Proofs.YticglfmmjgnicaaGreat
open Go Go.RowKit

/-- One more ask, in memory: the list is longer, the field is written. -/
theorem PaS.wait {w w3 w4 : World} {F : List Nat} {b : Nat} {m : Am} {p : PaP} {q : Int} {u : List Int} {v' : Value} {qa : Option Addr} {qn qc : Nat} (h : Pa w F b m p) (ok : m.Ok) (e : p.pd = m.pend) (hw : (m.wait q u).Ok)
    (t3 : Touch [] w w3) (hq : Qu w3 w.heap.size 3 (.slice qa qn qc) (u.map (Value.int .i64)))
    (hA : Av w4 0 58 2 v' (m.pend ++ [(q, u)]).length (askF (m.pend ++ [(q, u)]) (fun i => if i = m.pend.length then .slice qa qn qc else p.pu i))) (t4 : Touch p.pv.ownBlock.toList w3 w4) (ho : ∀ k, v'.ownBlock = some k → p.pv.ownBlock = some k ∨ w3.heap.size ≤ k) :
    ∃ F', Fr F w F' (w4.setCell ⟨b, 4, none⟩ v') ∧ PaS (w4.setCell ⟨b, 4, none⟩ v') F' b (m.wait q u) := by
  have hnd := h.nd
  have hWe : p.W b = [b, p.bc, p.bh] ++ p.pv.ownBlock.toList := rfl
  unfold PaP.W at hnd
  have n1 : b ≠ p.bc ∧ b ≠ p.bh ∧ p.bc ≠ p.bh := by simp at hnd; exact ⟨hnd.1.1, hnd.1.2.1, hnd.2.1.1⟩
  have n2 : ∀ k, p.pv.ownBlock = some k → b ≠ k ∧ p.bc ≠ k ∧ p.bh ≠ k := fun k hk => by simp [hk] at hnd; exact ⟨hnd.1.2.2, hnd.2.1.2, hnd.2.2⟩
  have n3 : b ∉ p.pv.ownBlock.toList := fun hm => (n2 b (Option.mem_toList.1 hm)).1 rfl
  have n4 : p.bc ∉ p.pv.ownBlock.toList := fun hm => (n2 _ (Option.mem_toList.1 hm)).2.1 rfl
  have n5 : p.bh ∉ p.pv.ownBlock.toList := fun hm => (n2 _ (Option.mem_toList.1 hm)).2.2 rfl
  have t5 : Touch [b] w4 (w4.setCell ⟨b, 4, none⟩ v') := (Touch.refl [b] w4).setCell (by simp) _
  have ta : Touch (p.W b) w (w4.setCell ⟨b, 4, none⟩ v') := by
    rw [hWe]
    exact ((t3.mono (by simp)).trans (t4.mono (fun k hk => List.mem_append.2 (.inr hk)))).trans (t5.mono (fun k hk => by simp at hk; simp [hk]))
  have s3 := t3.size
  have s4 := t4.size
  have s5 := t5.size
  obtain ⟨F', hF'⟩ : ∃ F', F' = grow F w (w4.setCell ⟨b, 4, none⟩ v') := ⟨_, rfl⟩
  have hfr : Fr F w F' (w4.setCell ⟨b, 4, none⟩ v') := by
    rw [hF']
    exact grow_fr h.lt (ta.mono h.fw)
  have hF : ∀ k, k ∈ F → k ∈ F' := fun k hk => by rw [hF']; exact grow_mem.2 (.inl hk)
  have hT : ∀ k, k ∈ p.W b → k ∈ F → k ∈ p.W b := fun k h _ => h
  obtain ⟨p', hp'⟩ : ∃ p' : PaP, p' = { p with pv := v', pd := m.pend ++ [(q, u)], pu := fun i => if i = m.pend.length then .slice qa qn qc else p.pu i } := ⟨_, rfl⟩
  have hWp : p'.W b = [b, p.bc, p.bh] ++ v'.ownBlock.toList := by rw [hp']; rfl
  have vF : ∀ k, v'.ownBlock = some k → k ∈ F → p.pv.ownBlock = some k := fun k hk hm => by
    rcases ho k hk with e | e
    · exact e
    · have := h.lt k hm; omega
  have hW : ∀ k, k ∈ F → k ∈ p'.W b → k ∈ p.W b := fun k hk hm => by
    rw [hWp] at hm
    rw [hWe]
    rcases List.mem_append.1 hm with e | e
    · exact List.mem_append.2 (.inl e)
    · exact List.mem_append.2 (.inr (Option.mem_toList.2 (vF k (Option.mem_toList.1 e) hk)))
  have vlt : ∀ k, v'.ownBlock = some k → k < w4.heap.size := fun k hk => (hA.own k hk).2
  have vn : ∀ k, v'.ownBlock = some k → b ≠ k ∧ p.bc ≠ k ∧ p.bh ≠ k := fun k hk => by
    rcases ho k hk with e | e
    · exact n2 k e
    · have h1 := h.lt b (h.fw b (by simp [PaP.W]))
      have h2 := h.lt p.bc (h.fw p.bc (by simp [PaP.W]))
      have h3 := h.lt p.bh (h.fw p.bh (by simp [PaP.W]))
      exact ⟨by omega, by omega, by omega⟩
  have qn3 : ∀ k, (Value.slice qa qn qc).ownBlock = some k → w.heap.size ≤ k ∧ k < w3.heap.size := fun k hk => hq.own k hk
  have hob := (((h.obj.touch t3 (by simp)).touch t4 n3).set 4 v')
  refine ⟨F', hfr, hw, p', ⟨⟨by rw [hp']; exact hob, hfr.l, fun k hk => ?_, ?_, ?_, by rw [hp']; exact ((h.mc.touch t3 (by simp)).touch t4 n4).touch t5 (by simpa using Ne.symm n1.1), fun r => ⟨fun hr => ?_, fun hr => ?_⟩, by rw [hp']; exact ((h.mh.touch t3 (by simp)).touch t4 n5).touch t5 (by simpa using Ne.symm n1.2.1), by rw [hp']; exact h.mhv, ⟨0, ?_⟩, fun i hi => ?_⟩, ?_⟩, by rw [hp']; rfl⟩
  · rw [hWp] at hk
    rcases List.mem_append.1 hk with e | e
    · exact hF k (h.fw k (by rw [hWe]; exact List.mem_append.2 (.inl e)))
    · rcases ho k (Option.mem_toList.1 e) with e2 | e2
      · exact hF k (h.fw k (by rw [hWe]; exact List.mem_append.2 (.inr (Option.mem_toList.2 e2))))
      · rw [hF']
        have := vlt k (Option.mem_toList.1 e)
        exact grow_mem.2 (.inr ⟨by omega, by omega⟩)
  · rw [hWp]
    cases hv : v'.ownBlock with
    | none => simp [n1]
    | some k => have := vn k hv; simp [n1, this]
  · have := h.tot.to ta hT hF hW
    rw [hp'] at this ⊢
    exact this
  · obtain ⟨v, h3, h4⟩ := (h.mcv r).1 hr
    exact ⟨v, by rw [hp']; exact h3, h4.to ta hT hF hW⟩
  · rw [hp']; exact (h.mcv r).2 hr
  · rw [hp']
    exact hA.touch t5 (fun k hk hm => by simp at hm; exact (vn k hk).1 hm.symm)
  · rw [hp'] at hi
    have hi : i < (m.pend ++ [(q, u)]).length := hi
    rw [List.length_append, List.length_singleton] at hi
    rw [show p'.pd = m.pend ++ [(q, u)] from by rw [hp'], show p'.pu i = if i = m.pend.length then .slice qa qn qc else p.pu i from by rw [hp']]
    by_cases ei : i = m.pend.length
    · rw [if_pos ei, ei, show (m.pend ++ [(q, u)]).getD m.pend.length (0, []) = (q, u) from by rw [List.getD_eq_getElem?_getD, List.getElem?_append_right (Nat.le_refl _)]; simp]
      refine ⟨((hq.sl).touch t4 (fun k hk hm => ?_)).touch t5 (fun k hk hm => ?_), fun k hk => ⟨?_, fun hm => ?_⟩⟩
      · have h1 := (qn3 k hk).1
        have h2 := h.lt k (h.fw k (by rw [hWe]; exact List.mem_append.2 (.inr hm)))
        omega
      · have h1 := (qn3 k hk).1
        simp at hm
        have h2 := h.lt b (h.fw b (by simp [PaP.W]))
        omega
      · rw [hF']
        have := qn3 k hk
        exact grow_mem.2 (.inr ⟨this.1, by omega⟩)
      · have h1 := qn3 k hk
        rw [hWp] at hm
        rcases List.mem_append.1 hm with e | e
        · have h2 := h.lt k (h.fw k (by rw [hWe]; exact List.mem_append.2 (.inl e)))
          omega
        · rcases ho k (Option.mem_toList.1 e) with e2 | e2
          · have h2 := h.lt k (h.fw k (by rw [hWe]; exact List.mem_append.2 (.inr (Option.mem_toList.2 e2))))
            omega
          · omega
    · rw [if_neg ei, show (m.pend ++ [(q, u)]).getD i (0, []) = m.pend.getD i (0, []) from by rw [List.getD_eq_getElem?_getD, List.getD_eq_getElem?_getD, List.getElem?_append_left (by omega)]]
      have := (h.pu i (by rw [e]; omega)).to (F' := F') (W' := p'.W b) ta hT hF hW
      rw [e] at this
      exact this
  · rw [hp']
    rcases h.seen with e | ⟨s, pv, av, hv, cv, e, h1⟩
    · exact .inl e
    · refine .inr ⟨s, pv, av, hv, cv, e, ?_⟩
      have := h1.to (F' := F') (W' := p'.W b) ta hT hF hW
      rw [hp'] at this
      exact ⟨this.obj, this.f, this.ps, this.av, this.hs, this.cs⟩
end Go.Proofs.YticglfmmjgnicaaGreat

set_option linter.unusedVariables false
namespace Go.Proofs.YticglfmmjgnicaaGreat
open Go Go.RowKit

set_option maxRecDepth 100000 in
set_option maxHeartbeats 16000000 in
theorem ask_any (w : World) (F : List Nat) (b : Nat) (m : Am) (q : Int) (v : Value) (u : List Int) (h : PaS w F b m) (hu : Sl w v u) :
    Calls Tryz.prog 35 #[.pointer (some ⟨b, 0, none⟩), .int .i64 q, v] w (ResP w F b (m.cAsk q u).1 (m.cAsk q u).2.1 (.int .i64 (m.cAsk q u).2.2)) := by
  have ta : Touch [] w (w.alloc (.cells #[.int .i64 q] 3)) := (Touch.refl _ _).alloc _
  have HTA := Lib.hid ta
  have HS0 := Lib.hid h
  have HS := Lib.hid (h.same ta)
  obtain ⟨ok, p, hp, hpd⟩ := h.same ta
  have HOK := Lib.hid ok
  have HP := Lib.hid hp
  have HPD := Lib.hid hpd
  have HU := Lib.hid (hu.touch ta (fun _ _ => by simp))
  have bq : Blk (w.alloc (.cells #[.int .i64 q] 3)) w.heap.size #[.int .i64 q] 3 := Blk.new rfl
  have hbw : b < w.heap.size := h.lt b h.bF
  have HBQ : Hid (∀ w', Touch [] (w.alloc (.cells #[.int .i64 q] 3)) w' → w'.cell? ⟨w.heap.size, 0, none⟩ = some (.int .i64 q)) := Lib.hid (fun w' ht => (bq.touch ht (by simp)).cell (i := 0) rfl)
  have HBA : Hid (∀ w', Touch [] (w.alloc (.cells #[.int .i64 q] 3)) w' → w'.cell? ⟨b, 4, none⟩ = some p.pv ∧ w'.cell? ⟨b, 1, none⟩ = some (.bool m.clm) ∧ w'.frozen? ⟨b, 4, none⟩ = false) := Lib.hid (fun w' ht => ⟨(hp.blk.touch ht (by simp)).cell (i := 4) rfl, (hp.blk.touch ht (by simp)).cell (i := 1) rfl, (hp.blk.touch ht (by simp)).free 4⟩)
  have x0 := HBQ.out _ (Touch.refl _ _)
  obtain ⟨ua, uc, huf⟩ := hu.form
  subst huf
  obtain ⟨N, hN⟩ : ∃ N, u.length = N := ⟨_, rfl⟩
  have HN := Lib.hid hN
  have H1 := Lib.hid (isIn_any _ F b m p q hp.toPb)
  have H2 := Lib.hid (areUnits_any _ F b m p _ u hp.toPb ok.nt (hu.touch ta (fun _ _ => by simp)))
  rw [hN] at H2 HU ⊢
  by_cases hq : q ∈ m.ps
  · rw [dT hq] at H1
    have HQ := Lib.hid hq
    obtain ⟨B, hB⟩ : ∃ B, isB u m.tot.length = B := ⟨_, rfl⟩
    rw [hB] at H2
    have HB := Lib.hid hB
    clear h ta ok hp hpd hu bq hN hq hB
    go_enter Tryz.func35, Tryz.ntmps35
    go_wp2_with fail
    refine H1.out.mono ?_
    rintro e w1 ⟨rfl, rfl⟩
    go_wp2_with fail
    refine H2.out.mono ?_
    rintro e w1 ⟨rfl, rfl⟩
    cases B with
    | false =>
      have HF : Hid (ResP w F b (m.cAsk q u).1 (m.cAsk q u).2.1 (.int .i64 (m.cAsk q u).2.2) (.returned (.tuple #[.slice none 0 0, .int .i64 1])) (w.alloc (.cells #[.int .i64 q] 3))) := Lib.hid (by
        rw [show m.cAsk q u = (m, [], 1) from by unfold Am.cAsk; rw [if_neg (by simpa using HQ.out), if_pos HB.out]]
        exact ResP.no _ HS0.out HTA.out)
      go_wp2_with fail
      go_ret2
      exact HF.out
    | true =>
      obtain ⟨base, hpe⟩ := HP.out.pend
      have hfq : ForQ p.pd p.pu := HP.out.toPb.forQ
      rw [HPD.out] at hpe hfq
      have hpl : m.pend.length ≤ 32 := pend_few HOK.out
      obtain ⟨qa, qc, hqv⟩ : ∃ a c, p.pv = .slice a m.pend.length c := by obtain ⟨a, c, e, _⟩ := hpe.form; exact ⟨a, c, e⟩
      obtain ⟨L, hL⟩ : ∃ L, m.pend.length = L := ⟨_, rfl⟩
      have HCF := Lib.hid (ctf_any 64 w.heap.size q (ask_isQ _ q) (enters2 _ (by kernel_rfl)) _ base p.pv m.pend p.pu hpe hfq (by omega) (HBQ.out _ (Touch.refl _ _)) (by simp))
      have hc4 := (HBA.out _ (Touch.refl _ _)).1
      have HPE := Lib.hid hpe
      have HQV := Lib.hid hqv
      have HQL : Hid (p.pv = .slice qa L qc) := Lib.hid (by rw [← hL]; exact hqv)
      have HL := Lib.hid (And.intro hL hpl)
      rw [hqv, hL] at HCF hc4
      obtain ⟨D, hD⟩ : ∃ D, decide (q ∈ m.pend.map (·.1)) = D := ⟨_, rfl⟩
      have HD := Lib.hid hD
      rw [hD] at HCF
      clear hpe hfq hpl hqv hL hD
      go_wp2_with fail
      refine HCF.out.mono ?_
      rintro e w2 ⟨rfl, t2⟩
      have HT2 := Lib.hid t2
      clear t2 hc4
      cases D with
      | true =>
        have HF : Hid (ResP w F b (m.cAsk q u).1 (m.cAsk q u).2.1 (.int .i64 (m.cAsk q u).2.2) (.returned (.tuple #[.slice none 0 0, .int .i64 4])) w2) := Lib.hid (by
          rw [show m.cAsk q u = (m, [], 4) from by unfold Am.cAsk; rw [if_neg (by simpa using HQ.out), if_neg (by rw [HB.out]; simp), if_pos (by simpa using HD.out)]]
          exact ResP.no _ HS0.out (HTA.out.trans HT2.out))
        go_wp2_with fail
        go_ret2
        exact HF.out
      | false =>
        have hnd : q ∉ m.pend.map (·.1) := by simpa using HD.out
        have HND := Lib.hid hnd
        have c1 := (HBA.out _ HT2.out).2.1
        have y0 := HBQ.out _ HT2.out
        -- behind the claim's test, whatever way
        have HREST : Hid (∀ w3, Touch [] (w.alloc (.cells #[.int .i64 q] 3)) w3 → (m.clm = true → fitsB (addW (m.held q) u) (m.claim q) = true) → True) := Lib.hid (fun _ _ _ => trivial)
        obtain ⟨C, hC⟩ : ∃ C, fitsB (addW (m.held q) u) (m.claim q) = C := ⟨_, rfl⟩
        have HC := Lib.hid hC
        have HCV := Lib.hid (covers_any w2 F b m p q (.slice ua N uc) u (HP.out.same HT2.out).toPb HOK.out HQ.out (HU.out.touch HT2.out (fun _ _ => by simp)) HB.out)
        rw [hC] at HCV
        obtain ⟨cl, hcl⟩ : ∃ cl, m.clm = cl := ⟨_, rfl⟩
        have HCL := Lib.hid hcl
        rw [hcl] at c1
        clear hnd hC hcl
        cases cl with
        | true =>
          go_wp2_with fail
          refine HCV.out.mono ?_
          rintro e w3 ⟨rfl, t3⟩
          have HT3 := Lib.hid (HT2.out.trans t3)
          clear t3 c1 y0
          cases C with
          | false =>
            have HF : Hid (ResP w F b (m.cAsk q u).1 (m.cAsk q u).2.1 (.int .i64 (m.cAsk q u).2.2) (.returned (.tuple #[.slice none 0 0, .int .i64 35])) w3) := Lib.hid (by
              rw [show m.cAsk q u = (m, [], 35) from by unfold Am.cAsk; rw [if_neg (by simpa using HQ.out), if_neg (by rw [HB.out]; simp), if_neg HND.out, if_pos ⟨HCL.out, HC.out⟩]]
              exact ResP.no _ HS0.out (HTA.out.trans HT3.out))
            go_wp2_with fail
            go_ret2
            exact HF.out
          | true =>
            have hcg : m.cAsk q u = ((m.wait q u).scan.1, (m.wait q u).scan.2, 0) := by unfold Am.cAsk; rw [if_neg (by simpa using HQ.out), if_neg (by rw [HB.out]; simp), if_neg HND.out, if_neg (by rintro ⟨h1, h2⟩; rw [HC.out] at h2; cases h2)]
            have HCG := Lib.hid hcg
            have HWO : Hid (m.wait q u).Ok := Lib.hid (HOK.out.wait HQ.out HB.out HND.out (fun h => by exact HC.out))
            have HSU : Hid (Sl w3.drew (.slice ua N uc) u) := Lib.hid (HU.out.touch HT3.out.drew (fun _ _ => by simp))
            have HCN := Lib.hid (clone_any (.slice ua N uc) u w3.drew HSU.out (by have := (isB_iff.1 HB.out).1; have := HOK.out.nt; omega))
            have z4 : w3.drew.cell? ⟨b, 4, none⟩ = some (.slice qa L qc) := by rw [← HQL.out]; exact (HBA.out _ HT3.out.drew).1
            have zq : w3.drew.cell? ⟨w.heap.size, 0, none⟩ = some (.int .i64 q) := HBQ.out _ HT3.out.drew
            clear hcg
            go_wp2_with fail
            go_region_law (first
              | (refine step_append_run rfl _ _ _ _ rfl _ _ rfl rfl _ _ (HRN.out _) ?_)
              | (go_simp; go_at_call 40; refine HCN.out.mono ?_; rintro e w4 ⟨cv, rfl, hq4, t4⟩
                 obtain ⟨ca, cc, hcf⟩ := hq4.form
                 rw [HN.out] at hcf
                 subst hcf
                 have t34 : Touch [] w3 w4 := ((Touch.refl [] w3).drew).trans t4
                 obtain ⟨v', w5, hr, hA, hT, ho, a5, c5, hv5⟩ := av_app (wd := w4) (base := 0) (((HPE.out.mono (Nat.zero_le _)).touch (HT3.out.trans t34) (fun _ _ => by simp))) (Nat.zero_le _) (by have := HL.out; omega) q u ca N cc
                 have z4 : w4.cell? ⟨b, 4, none⟩ = some (.slice qa L qc) := by rw [← HQL.out]; exact (HBA.out _ (HT3.out.trans t34)).1
                 have zq : w4.cell? ⟨w.heap.size, 0, none⟩ = some (.int .i64 q) := HBQ.out _ (HT3.out.trans t34)
                 have z4a : (w4.alloc (.cells #[.int .i64 q, .slice ca N cc] 58)).cell? ⟨b, 4, none⟩ = some (.slice qa L qc) := by rw [← HQL.out]; exact (HBA.out _ ((HT3.out.trans t34).alloc _)).1
                 have hpb : b ∉ p.pv.ownBlock.toList := by
                   intro hm
                   have hnd := HP.out.nd
                   simp [PaP.W, Option.mem_toList.1 hm] at hnd
                 have hb5 := (HP.out.blk.touch (HT3.out.trans t34) (by simp)).touch hT hpb
                 have y4 := hb5.cell (i := 4) rfl
                 have g4 := hb5.free 4
                 obtain ⟨F', hfr, hps⟩ := PaS.wait (HP.out.same HT3.out) HOK.out HPD.out HWO.out t34 (hq4.mono (Nat.le_refl _)) hA hT ho
                 have hfr2 := (Fr.same (HTA.out.trans HT3.out) HS0.out.lt).trans hfr
                 rw [HQL.out] at hr
                 rw [hv5] at hr hps hfr2
                 have HRN := Lib.hid hr
                 have HSC := Lib.hid (scan_s w _ F' b (m.wait q u) hps hfr2)
                 clear hq4 t4 t34 hr hA hT ho hv5 hpb hb5 hfr hps hfr2))
            all_goals
              clear z4 zq z4a y4 g4
              go_wp2_with fail
              refine HSC.out.mono ?_
              rintro e w7 ⟨v7, rfl, hs7⟩
              have HF : Hid (ResP w F b (m.cAsk q u).1 (m.cAsk q u).2.1 (.int .i64 (m.cAsk q u).2.2) (.returned (.tuple #[v7, .int .i64 0])) w7) := Lib.hid (by
                rw [HCG.out]
                obtain ⟨F', f1, f2, f3, f4⟩ := hs7
                exact ⟨v7, F', rfl, f1, f2, f3, f4⟩)
              clear hs7
              go_wp2_with fail
              go_ret2
              exact HF.out
        | false =>
          have HT3 := HT2
          have hcg : m.cAsk q u = ((m.wait q u).scan.1, (m.wait q u).scan.2, 0) := by unfold Am.cAsk; rw [if_neg (by simpa using HQ.out), if_neg (by rw [HB.out]; simp), if_neg HND.out, if_neg (by rintro ⟨h1, h2⟩; rw [HCL.out] at h1; cases h1)]
          have HCG := Lib.hid hcg
          have HWO : Hid (m.wait q u).Ok := Lib.hid (HOK.out.wait HQ.out HB.out HND.out (fun h => by rw [HCL.out] at h; cases h))
          have HSU : Hid (Sl w2.drew (.slice ua N uc) u) := Lib.hid (HU.out.touch HT3.out.drew (fun _ _ => by simp))
          have HCN := Lib.hid (clone_any (.slice ua N uc) u w2.drew HSU.out (by have := (isB_iff.1 HB.out).1; have := HOK.out.nt; omega))
          have z4 : w2.drew.cell? ⟨b, 4, none⟩ = some (.slice qa L qc) := by rw [← HQL.out]; exact (HBA.out _ HT3.out.drew).1
          have zq : w2.drew.cell? ⟨w.heap.size, 0, none⟩ = some (.int .i64 q) := HBQ.out _ HT3.out.drew
          clear hcg
          go_wp2_with fail
          go_region_law (first
            | (refine step_append_run rfl _ _ _ _ rfl _ _ rfl rfl _ _ (HRN.out _) ?_)
            | (go_simp; go_at_call 40; refine HCN.out.mono ?_; rintro e w4 ⟨cv, rfl, hq4, t4⟩
               obtain ⟨ca, cc, hcf⟩ := hq4.form
               rw [HN.out] at hcf
               subst hcf
               have t34 : Touch [] w2 w4 := ((Touch.refl [] w2).drew).trans t4
               obtain ⟨v', w5, hr, hA, hT, ho, a5, c5, hv5⟩ := av_app (wd := w4) (base := 0) (((HPE.out.mono (Nat.zero_le _)).touch (HT3.out.trans t34) (fun _ _ => by simp))) (Nat.zero_le _) (by have := HL.out; omega) q u ca N cc
               have z4 : w4.cell? ⟨b, 4, none⟩ = some (.slice qa L qc) := by rw [← HQL.out]; exact (HBA.out _ (HT3.out.trans t34)).1
               have zq : w4.cell? ⟨w.heap.size, 0, none⟩ = some (.int .i64 q) := HBQ.out _ (HT3.out.trans t34)
               have z4a : (w4.alloc (.cells #[.int .i64 q, .slice ca N cc] 58)).cell? ⟨b, 4, none⟩ = some (.slice qa L qc) := by rw [← HQL.out]; exact (HBA.out _ ((HT3.out.trans t34).alloc _)).1
               have hpb : b ∉ p.pv.ownBlock.toList := by
                 intro hm
                 have hnd := HP.out.nd
                 simp [PaP.W, Option.mem_toList.1 hm] at hnd
               have hb5 := (HP.out.blk.touch (HT3.out.trans t34) (by simp)).touch hT hpb
               have y4 := hb5.cell (i := 4) rfl
               have g4 := hb5.free 4
               obtain ⟨F', hfr, hps⟩ := PaS.wait (HP.out.same HT3.out) HOK.out HPD.out HWO.out t34 (hq4.mono (Nat.le_refl _)) hA hT ho
               have hfr2 := (Fr.same (HTA.out.trans HT3.out) HS0.out.lt).trans hfr
               rw [HQL.out] at hr
               rw [hv5] at hr hps hfr2
               have HRN := Lib.hid hr
               have HSC := Lib.hid (scan_s w _ F' b (m.wait q u) hps hfr2)
               clear hq4 t4 t34 hr hA hT ho hv5 hpb hb5 hfr hps hfr2))
          all_goals
            clear z4 zq z4a y4 g4
            go_wp2_with fail
            refine HSC.out.mono ?_
            rintro e w7 ⟨v7, rfl, hs7⟩
            have HF : Hid (ResP w F b (m.cAsk q u).1 (m.cAsk q u).2.1 (.int .i64 (m.cAsk q u).2.2) (.returned (.tuple #[v7, .int .i64 0])) w7) := Lib.hid (by
              rw [HCG.out]
              obtain ⟨F', f1, f2, f3, f4⟩ := hs7
              exact ⟨v7, F', rfl, f1, f2, f3, f4⟩)
            clear hs7
            go_wp2_with fail
            go_ret2
            exact HF.out
  · rw [dF hq] at H1
    have HF : Hid (ResP w F b (m.cAsk q u).1 (m.cAsk q u).2.1 (.int .i64 (m.cAsk q u).2.2) (.returned (.tuple #[.slice none 0 0, .int .i64 3])) (w.alloc (.cells #[.int .i64 q] 3))) := Lib.hid (by
      rw [show m.cAsk q u = (m, [], 3) from by unfold Am.cAsk; rw [if_pos hq]]
      exact ResP.no _ h ta)
    clear h ta ok hp hpd hu bq hN hq
    go_enter Tryz.func35, Tryz.ntmps35
    go_wp2_with fail
    refine H1.out.mono ?_
    rintro e w1 ⟨rfl, rfl⟩
    go_wp2_with fail
    go_ret2
    exact HF.out
end Go.Proofs.YticglfmmjgnicaaGreat

set_option linter.unusedVariables false
namespace Go.Proofs.YticglfmmjgnicaaGreat
open Go Go.RowKit

theorem PaS.enrol {w w4 w5 : World} {F : List Nat} {b : Nat} {m : Am} {p : PaP} {q : Int} {u : List Int} {va : Option Addr} {vn vc : Nat} (h : Pa w F b m p) (ok : m.Ok) (e : p.pd = m.pend) (hw : (m.enrol q u).Ok) (hq : q ∉ m.ps)
    (t4 : Touch [] w w4) (hv : Qu w4 w.heap.size 3 (.slice va vn vc) (u.map (Value.int .i64))) (hm : Mp (Value.int .i64) w5 p.bc (putM p.mc q (.slice va vn vc)) (m.ps.length + 1)) (t5 : Touch [p.bc] w4 w5) :
    ∃ F', Fr F w F' (w5.setCell ⟨b, 5, none⟩ (.pointer none)) ∧ PaS (w5.setCell ⟨b, 5, none⟩ (.pointer none)) F' b (m.enrol q u) := by
  have hnd := h.nd
  have hWe : p.W b = [b, p.bc, p.bh] ++ p.pv.ownBlock.toList := rfl
  unfold PaP.W at hnd
  have n1 : b ≠ p.bc ∧ b ≠ p.bh ∧ p.bc ≠ p.bh := by simp at hnd; exact ⟨hnd.1.1, hnd.1.2.1, hnd.2.1.1⟩
  have n2 : ∀ k, p.pv.ownBlock = some k → b ≠ k ∧ p.bc ≠ k ∧ p.bh ≠ k := fun k hk => by simp [hk] at hnd; exact ⟨hnd.1.2.2, hnd.2.1.2, hnd.2.2⟩
  have t6 : Touch [b] w5 (w5.setCell ⟨b, 5, none⟩ (.pointer none)) := (Touch.refl [b] w5).setCell (by simp) _
  have ta : Touch (p.W b) w (w5.setCell ⟨b, 5, none⟩ (.pointer none)) := by
    rw [hWe]
    exact ((t4.mono (by simp)).trans (t5.mono (fun k hk => by simp at hk; simp [hk]))).trans (t6.mono (fun k hk => by simp at hk; simp [hk]))
  have s4 := t4.size
  have s5 := t5.size
  have s6 := t6.size
  obtain ⟨F', hF'⟩ : ∃ F', F' = grow F w (w5.setCell ⟨b, 5, none⟩ (.pointer none)) := ⟨_, rfl⟩
  have hfr : Fr F w F' (w5.setCell ⟨b, 5, none⟩ (.pointer none)) := by
    rw [hF']
    exact grow_fr h.lt (ta.mono h.fw)
  have hF : ∀ k, k ∈ F → k ∈ F' := fun k hk => by rw [hF']; exact grow_mem.2 (.inl hk)
  have hT : ∀ k, k ∈ p.W b → k ∈ F → k ∈ p.W b := fun k h _ => h
  obtain ⟨p', hp'⟩ : ∃ p' : PaP, p' = { p with sv := .pointer none, mc := putM p.mc q (.slice va vn vc) } := ⟨_, rfl⟩
  have hWp : p'.W b = p.W b := by rw [hp']; rfl
  have hW : ∀ k, k ∈ F → k ∈ p'.W b → k ∈ p.W b := fun k _ hm => by rw [hWp] at hm; exact hm
  have qn3 : ∀ k, (Value.slice va vn vc).ownBlock = some k → w.heap.size ≤ k ∧ k < w4.heap.size := fun k hk => hv.own k hk
  have hps : ∀ r, r ∈ (m.enrol q u).ps ↔ r = q ∨ r ∈ m.ps := fun r => insP_mem
  have hob := (((h.obj.touch t4 (by simp)).touch t5 (by simpa using n1.1)).set 5 (.pointer none))
  obtain ⟨base, hpe⟩ := h.pend
  refine ⟨F', hfr, hw, p', ⟨⟨by rw [hp']; exact hob, hfr.l, fun k hk => by rw [hWp] at hk; exact hF k (h.fw k hk), by rw [hWp]; exact h.nd, ?_, ?_, fun r => ⟨fun hr => ?_, fun hr => ?_⟩, by rw [hp']; exact ((h.mh.touch t4 (by simp)).touch t5 (by simpa using Ne.symm n1.2.2)).touch t6 (by simpa using Ne.symm n1.2.1), fun k => ?_, ⟨base, ?_⟩, fun i hi => ?_⟩, .inl (by rw [hp'])⟩, by rw [hp']; exact e⟩
  · have := h.tot.to ta hT hF hW
    rw [hp'] at this ⊢
    exact this
  · show Mp _ _ p'.bc p'.mc (insP q m.ps).length
    rw [insP_len, hp']
    exact hm.touch t6 (by simpa using Ne.symm n1.1)
  · by_cases er : r = q
    · subst er
      refine ⟨.slice va vn vc, by rw [hp']; simp [putM], ?_⟩
      show Im _ _ _ _ (updF m.claim r u r)
      rw [updF_at]
      refine ⟨((hv.sl).touch t5 (fun k hk hm => ?_)).touch t6 (fun k hk hm => ?_), fun k hk => ⟨?_, fun hm => ?_⟩⟩
      · have h1 := (qn3 k hk).1
        simp at hm
        have h2 := h.lt p.bc (h.fw p.bc (by simp [PaP.W]))
        omega
      · have h1 := (qn3 k hk).1
        simp at hm
        have h2 := h.lt b (h.fw b (by simp [PaP.W]))
        omega
      · rw [hF']
        have := qn3 k hk
        exact grow_mem.2 (.inr ⟨this.1, by omega⟩)
      · rw [hWp] at hm
        have h1 := (qn3 k hk).1
        have h2 := h.lt k (h.fw k hm)
        omega
    · have hr : r ∈ m.ps := by
        rcases (hps r).1 hr with h | h
        · exact absurd h er
        · exact h
      obtain ⟨v, h3, h4⟩ := (h.mcv r).1 hr
      refine ⟨v, by rw [hp']; simp [putM, er]; exact h3, ?_⟩
      show Im _ _ _ _ (updF m.claim q u r)
      rw [updF_ne _ _ er]
      exact h4.to ta hT hF hW
  · have h1 : r ≠ q ∧ r ∉ m.ps := ⟨fun e => hr ((hps r).2 (.inl e)), fun e => hr ((hps r).2 (.inr e))⟩
    rw [hp']
    simp [putM, h1.1]
    exact (h.mcv r).2 h1.2
  · have h0 := h.mhv k
    rw [show p'.mh k = p.mh k from by rw [hp'], h0]
    show _ = if k.1.1 ∈ (m.enrol q u).ps ∧ 0 ≤ k.1.2 ∧ k.1.2 < (m.tot.length : Int) ∧ (updF m.held q (List.replicate m.tot.length 0) k.1.1).getD k.1.2.toNat 0 ≠ 0 then some (Value.int .i64 ((updF m.held q (List.replicate m.tot.length 0) k.1.1).getD k.1.2.toNat 0)) else none
    by_cases er : k.1.1 = q
    · rw [if_neg (fun h => hq (by rw [← er]; exact h.1)), if_neg]
      rintro ⟨_, _, _, h⟩
      rw [er, updF_at, rep_get] at h
      exact h rfl
    · rw [updF_ne _ _ er]
      by_cases hc : k.1.1 ∈ m.ps ∧ 0 ≤ k.1.2 ∧ k.1.2 < (m.tot.length : Int) ∧ (m.held k.1.1).getD k.1.2.toNat 0 ≠ 0
      · rw [if_pos hc, if_pos ⟨(hps _).2 (.inr hc.1), hc.2⟩]
      · rw [if_neg hc, if_neg (fun h => hc ⟨by
          rcases (hps _).1 h.1 with e | e
          · exact absurd e er
          · exact e, h.2⟩)]
  · rw [hp']
    exact ((hpe.touch t4 (fun _ _ => by simp)).touch t5 (fun k hk hm => by simp at hm; exact (n2 k hk).2.1 hm.symm)).touch t6 (fun k hk hm => by simp at hm; exact (n2 k hk).1 hm.symm)
  · rw [hp'] at hi
    have := (h.pu i hi).to (F' := F') (W' := p'.W b) ta hT hF hW
    rw [hp'] at this ⊢
    exact this
theorem eql_mapR (r : Nat) (w : World) : (binOp .eql 69 (.map (some r)) (.map none)).run Tryz.prog w = .ok (.bool false) w := by kernel_rfl
def AdP (w : World) (F : List Nat) (b : Nat) (r : Am × Int) (e : Ending) (w' : World) : Prop := e = .returned (.int .i64 r.2) ∧ ∃ F', Fr F w F' w' ∧ PaS w' F' b r.1
theorem AdP.no {w w' : World} {F : List Nat} {b : Nat} {m : Am} (x : Int) (h : PaS w F b m) (ht : Touch [] w w') : AdP w F b (m, x) (.returned (.int .i64 x)) w' := ⟨rfl, F, Fr.same ht h.lt, h.same ht⟩
set_option maxRecDepth 100000 in
set_option maxHeartbeats 16000000 in
theorem admit_any (w : World) (F : List Nat) (b : Nat) (m : Am) (q : Int) (v : Value) (u : List Int) (h : PaS w F b m) (hqi : InI q) (hu : Sl w v u) :
    Calls Tryz.prog 34 #[.pointer (some ⟨b, 0, none⟩), .int .i64 q, v] w (AdP w F b (m.cAdmit q u)) := by
  have HS := Lib.hid h
  obtain ⟨ok, p, hp, hpd⟩ := h
  have HOK := Lib.hid ok
  have HP := Lib.hid hp
  have HPD := Lib.hid hpd
  have HU := Lib.hid hu
  obtain ⟨ua, uc, huf⟩ := hu.form
  subst huf
  obtain ⟨N, hN⟩ : ∃ N, u.length = N := ⟨_, rfl⟩
  have HN := Lib.hid hN
  have H2 := Lib.hid (areUnits_any w F b m p _ u hp.toPb ok.nt hu)
  have H1 := Lib.hid (isIn_any w F b m p q hp.toPb)
  rw [hN] at H2 HU ⊢
  obtain ⟨B, hB⟩ : ∃ B, isB u m.tot.length = B := ⟨_, rfl⟩
  rw [hB] at H2
  have HB := Lib.hid hB
  obtain ⟨D, hD⟩ : ∃ D, decide (q ∈ m.ps) = D := ⟨_, rfl⟩
  rw [hD] at H1
  have HD := Lib.hid hD
  have c2 : w.cell? ⟨b, 2, none⟩ = some (.map (some p.bc)) := hp.blk.cell (i := 2) rfl
  have hem := eql_mapR p.bc w
  obtain ⟨P, hP⟩ : ∃ P, decide (q < 1) = P := ⟨_, rfl⟩
  have HPP := Lib.hid hP
  have HQI := Lib.hid hqi
  clear ok hp hpd hu hN hB hD hP hqi
  go_enter Tryz.func34, Tryz.ntmps34
  cases P with
  | true =>
    have hlt : q < 1 := by simpa using HPP.out
    have HF : Hid (AdP w F b (m.cAdmit q u) (.returned (.int .i64 1)) w) := Lib.hid (by
      rw [show m.cAdmit q u = (m, 1) from by unfold Am.cAdmit; rw [if_pos (.inl hlt)]]
      exact AdP.no _ HS.out (Touch.refl _ _))
    go_wp2_with fail
    go_ret
    exact HF.out
  | false =>
    have hlt : ¬ q < 1 := by simpa using HPP.out
    go_wp2_with fail
    refine H2.out.mono ?_
    rintro e w1 ⟨rfl, rfl⟩
    cases B with
    | false =>
      have HF : Hid (AdP w F b (m.cAdmit q u) (.returned (.int .i64 1)) w) := Lib.hid (by
        rw [show m.cAdmit q u = (m, 1) from by unfold Am.cAdmit; rw [if_pos (.inr HB.out)]]
        exact AdP.no _ HS.out (Touch.refl _ _))
      go_wp2_with fail
      go_ret
      exact HF.out
    | true =>
      go_wp2_with fail
      refine H1.out.mono ?_
      rintro e w1 ⟨rfl, rfl⟩
      have hn1 : ¬ (q < 1 ∨ isB u m.tot.length = false) := by rw [HB.out]; rintro (h | h); omega; cases h
      have HN1 := Lib.hid hn1
      clear hn1
      cases D with
      | true =>
        have HF : Hid (AdP w F b (m.cAdmit q u) (.returned (.int .i64 4)) w) := Lib.hid (by
          rw [show m.cAdmit q u = (m, 4) from by unfold Am.cAdmit; rw [if_neg HN1.out, if_pos (by simpa using HD.out)]]
          exact AdP.no _ HS.out (Touch.refl _ _))
        go_wp2_with fail
        go_ret
        exact HF.out
      | false =>
        have hnq : q ∉ m.ps := by simpa using HD.out
        have HNQ := Lib.hid hnq
        have hlen := fun ty => HP.out.mc.len Tryz.underlying69 ty
        obtain ⟨M, hM⟩ : ∃ M, m.ps.length = M := ⟨_, rfl⟩
        have HM := Lib.hid hM
        rw [hM] at hlen
        clear hnq hM
        by_cases hM : 32 ≤ M
        · have hge : (32 : Int) ≤ (M : Int) := by omega
          have HF : Hid (AdP w F b (m.cAdmit q u) (.returned (.int .i64 1)) w) := Lib.hid (by
            rw [show m.cAdmit q u = (m, 1) from by unfold Am.cAdmit; rw [if_neg HN1.out, if_neg HNQ.out, if_pos (by rw [HM.out]; exact hM)]]
            exact AdP.no _ HS.out (Touch.refl _ _))
          go_wp2_with fail
          go_ret
          exact HF.out
        · have hge : ¬ (32 : Int) ≤ (M : Int) := by omega
          have HMM := Lib.hid hM
          have c1 : w.cell? ⟨b, 1, none⟩ = some (.bool m.clm) := HP.out.blk.cell (i := 1) rfl
          have c0 : w.cell? ⟨b, 0, none⟩ = some p.tv := HP.out.blk.cell (i := 0) rfl
          obtain ⟨ta, tc, htv⟩ := HP.out.tot.1.form
          obtain ⟨tn, htn⟩ : ∃ n, m.tot.length = n := ⟨_, rfl⟩
          have HTN := Lib.hid htn
          have htt := HP.out.tot.1
          rw [htv] at c0 htt
          rw [htn] at c0 htt
          obtain ⟨C, hC⟩ : ∃ C, fitsB u m.tot = C := ⟨_, rfl⟩
          have HC := Lib.hid hC
          have HFQ := Lib.hid (fits_q (.slice ua N uc) (.slice ta tn tc) u m.tot C w HU.out htt (by have := (isB_iff.1 HB.out).1; have := HOK.out.nt; omega) (by have := HOK.out.nt; omega) hC)
          obtain ⟨cl, hcl⟩ : ∃ cl, m.clm = cl := ⟨_, rfl⟩
          have HCL := Lib.hid hcl
          rw [hcl] at c1
          clear hM htv htn htt hC hcl
          cases cl with
          | true =>
            go_wp2_with fail
            refine HFQ.out.mono ?_
            rintro e w3 ⟨rfl, t3⟩
            have HT3 := Lib.hid t3
            clear t3 c1 c0 c2 hlen
            cases C with
            | false =>
              have HF : Hid (AdP w F b (m.cAdmit q u) (.returned (.int .i64 35)) w3) := Lib.hid (by
                rw [show m.cAdmit q u = (m, 35) from by unfold Am.cAdmit; rw [if_neg HN1.out, if_neg HNQ.out, if_neg (by rw [HM.out]; exact HMM.out), if_pos ⟨HCL.out, HC.out⟩]]
                exact AdP.no _ HS.out HT3.out)
              go_wp2_with fail
              go_ret
              exact HF.out
            | true =>
              have hcg : m.cAdmit q u = (m.enrol q u, 0) := by unfold Am.cAdmit; rw [if_neg HN1.out, if_neg HNQ.out, if_neg (by rw [HM.out]; exact HMM.out), if_neg (by rintro ⟨h1, h2⟩; rw [HC.out] at h2; cases h2)]
              have HCG := Lib.hid hcg
              have HWO : Hid (m.enrol q u).Ok := Lib.hid (HOK.out.enrol ⟨by omega, HQI.out.2⟩ HNQ.out HB.out (by rw [HM.out]; have := HMM.out; omega) (fun h => by exact HC.out))
              have HSU : Hid (Sl w3.drew (.slice ua N uc) u) := Lib.hid (HU.out.touch HT3.out.drew (fun _ _ => by simp))
              have HCN := Lib.hid (clone_any (.slice ua N uc) u w3.drew HSU.out (by have := (isB_iff.1 HB.out).1; have := HOK.out.nt; omega))
              have z2 : w3.drew.cell? ⟨b, 2, none⟩ = some (.map (some p.bc)) := (HP.out.blk.touch HT3.out.drew (by simp)).cell (i := 2) rfl
              clear hcg
              go_wp2_with fail
              go_region_law (go_simp; go_at_call 40; refine HCN.out.mono ?_; rintro e w4 ⟨cv, rfl, hq4, t4⟩
                             obtain ⟨ca, cc, hcf⟩ := hq4.form
                             rw [HN.out] at hcf
                             subst hcf
                             have t34 : Touch [] w3 w4 := ((Touch.refl [] w3).drew).trans t4
                             have z2 : w4.cell? ⟨b, 2, none⟩ = some (.map (some p.bc)) := (HP.out.blk.touch (HT3.out.trans t34) (by simp)).cell (i := 2) rfl
                             have hmc : Mp (Value.int .i64) w4 p.bc p.mc m.ps.length := HP.out.mc.touch (HT3.out.trans t34) (by simp)
                             obtain ⟨w5, hup, m5, t5, _⟩ := Mp.put intKey Tryz.underlying69 Tryz.underlying3 hmc q (.slice ca N cc)
                             have hnone : (p.mc q).isSome = false := by rw [(HP.out.mcv q).2 HNQ.out]; rfl
                             rw [if_neg (by rw [hnone]; simp)] at m5
                             have hbb : b ≠ p.bc := by have hnd := HP.out.nd; simp [PaP.W] at hnd; exact hnd.1.1
                             have hb5 := (HP.out.blk.touch (HT3.out.trans t34) (by simp)).touch t5 (by simpa using hbb)
                             have y5 := hb5.cell (i := 5) rfl
                             have g5 := hb5.free 5
                             obtain ⟨F', hfr, hps⟩ := PaS.enrol (HP.out.same HT3.out) HOK.out HPD.out HWO.out HNQ.out t34 (hq4.mono (Nat.le_refl _)) m5 t5
                             have HFF : Hid (AdP w F b (m.cAdmit q u) (.returned (.int .i64 0)) (w5.setCell ⟨b, 5, none⟩ (.pointer none))) := Lib.hid (by
                               rw [HCG.out]
                               exact ⟨rfl, F', (Fr.same HT3.out HS.out.lt).trans hfr, hps⟩)
                             clear hq4 t4 t34 hmc m5 t5 hnone hbb hb5 hfr hps)
              all_goals
                go_wp2_with fail
                go_ret
                exact HFF.out
          | false =>
            have HT3 := Lib.hid (Touch.refl [] w)
            have hcg : m.cAdmit q u = (m.enrol q u, 0) := by unfold Am.cAdmit; rw [if_neg HN1.out, if_neg HNQ.out, if_neg (by rw [HM.out]; exact HMM.out), if_neg (by rintro ⟨h1, h2⟩; rw [HCL.out] at h1; cases h1)]
            have HCG := Lib.hid hcg
            have HWO : Hid (m.enrol q u).Ok := Lib.hid (HOK.out.enrol ⟨by omega, HQI.out.2⟩ HNQ.out HB.out (by rw [HM.out]; have := HMM.out; omega) (fun h => by rw [HCL.out] at h; cases h))
            have HSU : Hid (Sl w.drew (.slice ua N uc) u) := Lib.hid (HU.out.touch HT3.out.drew (fun _ _ => by simp))
            have HCN := Lib.hid (clone_any (.slice ua N uc) u w.drew HSU.out (by have := (isB_iff.1 HB.out).1; have := HOK.out.nt; omega))
            have z2 : w.drew.cell? ⟨b, 2, none⟩ = some (.map (some p.bc)) := (HP.out.blk.touch HT3.out.drew (by simp)).cell (i := 2) rfl
            clear hcg
            go_wp2_with fail
            go_region_law (go_simp; go_at_call 40; refine HCN.out.mono ?_; rintro e w4 ⟨cv, rfl, hq4, t4⟩
                           obtain ⟨ca, cc, hcf⟩ := hq4.form
                           rw [HN.out] at hcf
                           subst hcf
                           have t34 : Touch [] w w4 := ((Touch.refl [] w).drew).trans t4
                           have z2 : w4.cell? ⟨b, 2, none⟩ = some (.map (some p.bc)) := (HP.out.blk.touch (HT3.out.trans t34) (by simp)).cell (i := 2) rfl
                           have hmc : Mp (Value.int .i64) w4 p.bc p.mc m.ps.length := HP.out.mc.touch (HT3.out.trans t34) (by simp)
                           obtain ⟨w5, hup, m5, t5, _⟩ := Mp.put intKey Tryz.underlying69 Tryz.underlying3 hmc q (.slice ca N cc)
                           have hnone : (p.mc q).isSome = false := by rw [(HP.out.mcv q).2 HNQ.out]; rfl
                           rw [if_neg (by rw [hnone]; simp)] at m5
                           have hbb : b ≠ p.bc := by have hnd := HP.out.nd; simp [PaP.W] at hnd; exact hnd.1.1
                           have hb5 := (HP.out.blk.touch (HT3.out.trans t34) (by simp)).touch t5 (by simpa using hbb)
                           have y5 := hb5.cell (i := 5) rfl
                           have g5 := hb5.free 5
                           obtain ⟨F', hfr, hps⟩ := PaS.enrol (HP.out.same HT3.out) HOK.out HPD.out HWO.out HNQ.out t34 (hq4.mono (Nat.le_refl _)) m5 t5
                           have HFF : Hid (AdP w F b (m.cAdmit q u) (.returned (.int .i64 0)) (w5.setCell ⟨b, 5, none⟩ (.pointer none))) := Lib.hid (by
                             rw [HCG.out]
                             exact ⟨rfl, F', (Fr.same HT3.out HS.out.lt).trans hfr, hps⟩)
                           clear hq4 t4 t34 hmc m5 t5 hnone hbb hb5 hfr hps)
            all_goals
              go_wp2_with fail
              go_ret
              exact HFF.out
end Go.Proofs.YticglfmmjgnicaaGreat

set_option linter.unusedVariables false
namespace Go.Proofs.YticglfmmjgnicaaGreat
open Go Go.RowKit Go.BigFrame

/-- Where it stands: from 0 on, if it is there. -/
def IndexP (is : Bool) (w : World) (e : Ending) (w' : World) : Prop := ∃ i : Int, e = .returned (.int .i64 i) ∧ ((is = true ∧ 0 ≤ i) ∨ (is = false ∧ i = -1)) ∧ w = w'
set_option maxHeartbeats 4000000 in
theorem index_q (v : Value) (xs : List Int) (x : Int) (w : World) (h : Sl w v xs) (hl : xs.length ≤ 1000000) : Calls Tryz.prog 54 #[v, .int .i64 x] w (IndexP (decide (x ∈ xs)) w) := by
  have HS := Lib.hid h
  obtain ⟨a, c, rfl⟩ := h.form
  obtain ⟨L, hL⟩ : ∃ L, xs.length = L := ⟨_, rfl⟩
  have HL := Lib.hid hL
  rw [hL] at HS hl ⊢
  clear h hL
  obtain ⟨is, his⟩ : ∃ is, decide (x ∈ xs) = is := ⟨_, rfl⟩
  have HI := Lib.hid his
  rw [his]
  clear his
  go_enter Tryz.func54, Tryz.ntmps54
  go_wp2_with fail
  go_loopw [8] (fun i wr => ∃ j : Nat, j ≤ L ∧ i = .int .i64 j ∧ (∀ k, k < j → xs.getD k 0 ≠ x) ∧ w = wr) (fun i _ => L + 1 - (intOf i).toNat)
  case atStart => exact ⟨0, by omega, rfl, fun k hk => by omega, rfl⟩
  case round =>
    obtain ⟨j, hj, rfl, hno, rfl⟩ := hrel
    have HNo := Lib.hid hno
    clear hno
    by_cases hjn : j < L
    · have hlt : (j : Int) < (L : Int) := by omega
      obtain ⟨g, off, hg, xo⟩ := HS.out.ix (q := j) (by rw [HL.out]; exact hjn)
      subst hg
      have x1 := xo _ (Touch.refl _ _)
      have HM : Hid (xs.getD j 0 ∈ xs) := Lib.hid (by rw [List.getD_eq_getElem?_getD, List.getElem?_eq_getElem (by rw [HL.out]; exact hjn)]; exact List.getElem_mem _)
      obtain ⟨y, hy⟩ : ∃ x, xs.getD j 0 = x := ⟨_, rfl⟩
      have HY := Lib.hid hy
      rw [hy] at x1 HM
      clear xo hy
      by_cases he : x = y
      · have q1 : (x == y) = true := beqT he
        have HE : Hid (is = true) := Lib.hid (by rw [← HI.out]; exact dT (by rw [he]; exact HM.out))
        clear he
        go_wp2
        go_ret
        exact ⟨_, rfl, .inl ⟨HE.out, by omega⟩, rfl⟩
      · have q1 : (x == y) = false := beqF he
        have HE := Lib.hid he
        clear he
        go_wp2
        go_roundw
        case rel =>
          refine ⟨j + 1, by omega, by go_num, fun k hk => ?_, trivial⟩
          by_cases e : k = j
          · subst e; rw [HY.out]; exact Ne.symm HE.out
          · exact HNo.out k (by omega)
        case measure => simp [intOf]; omega
    · have hlt : ¬ (j : Int) < (L : Int) := by omega
      have HE : Hid (is = false) := Lib.hid (by
        rw [← HI.out]
        refine dF (fun hm => ?_)
        obtain ⟨k, hk, e⟩ := List.getElem_of_mem hm
        refine HNo.out k (by rw [HL.out] at hk; omega) ?_
        rw [List.getD_eq_getElem?_getD, List.getElem?_eq_getElem hk]; exact e)
      go_wp2
      go_ret
      exact ⟨_, rfl, .inr ⟨HE.out, rfl⟩, rfl⟩
set_option maxHeartbeats 4000000 in
theorem contains_q (v : Value) (xs : List Int) (x : Int) (b : Bool) (w : World) (h : Sl w v xs) (hl : xs.length ≤ 1000000) (hb : decide (x ∈ xs) = b) : Calls Tryz.prog 39 #[v, .int .i64 x] w fun e w' => e = .returned (.bool b) ∧ w = w' := by
  have HC := Lib.hid (index_q v xs x w h hl)
  rw [hb] at HC
  obtain ⟨a, c, rfl⟩ := h.form
  clear h hb
  go_enter Tryz.func39, Tryz.ntmps39
  go_wp2_with fail
  refine HC.out.mono ?_
  rintro e w1 ⟨i, rfl, hi, rfl⟩
  rcases hi with ⟨rfl, hi⟩ | ⟨rfl, rfl⟩
  · have q1 : decide (0 ≤ i) = true := dT hi
    go_wp2
    go_ret
    exact ⟨rfl, rfl⟩
  · go_wp2
    go_ret
    exact ⟨rfl, rfl⟩
/-- Totals that may be. -/
def newB (tot : List Int) : Bool := decide (tot.length ≤ 6) && isB tot tot.length && !decide (0 ∈ tot)
def Am.new (tot : List Int) (clm : Bool) : Am := ⟨tot, clm, [], fun _ => [], fun _ => [], []⟩
theorem Am.new_ok {tot : List Int} (h : newB tot = true) (clm : Bool) : (Am.new tot clm).Ok := by
  unfold newB at h
  rw [Bool.and_eq_true, Bool.and_eq_true] at h
  obtain ⟨⟨h1, h2⟩, h3⟩ := h
  have h1 : tot.length ≤ 6 := by simpa using h1
  have h3 : (0 : Int) ∉ tot := by simpa using h3
  have tb : ∀ k, k < tot.length → 1 ≤ tot.getD k 0 ∧ tot.getD k 0 ≤ 1000 := fun k hk => by
    have h4 := (isB_iff.1 h2).2 k hk
    have h5 : tot.getD k 0 ≠ 0 := fun e => h3 (by rw [← e, List.getD_eq_getElem?_getD, List.getElem?_eq_getElem hk]; exact List.getElem_mem hk)
    omega
  exact ⟨h1, tb, List.Pairwise.nil, fun p hp => (by cases hp), (by simp [Am.new]), fun p hp => (by cases hp), (fun p k => by simp [Am.new]), fun p hp => (by cases hp), (fun k hk => by
    show 0 ≤ (avlL tot [] _).getD k 0
    rw [avlL_nil]
    have := tb k hk
    omega), fun _ p hp => (by cases hp), fun x hx => (by cases hx), by simp [Am.new], fun _ x hx => (by cases hx)⟩
theorem newB_iff {tot : List Int} : newB tot = true ↔ tot.length ≤ 6 ∧ ∀ k, k < tot.length → 1 ≤ tot.getD k 0 ∧ tot.getD k 0 ≤ 1000 := by
  constructor
  · intro h
    have := Am.new_ok h true
    exact ⟨this.nt, this.tb⟩
  · rintro ⟨h1, h2⟩
    unfold newB
    rw [Bool.and_eq_true, Bool.and_eq_true]
    refine ⟨⟨dT h1, isB_iff.2 ⟨rfl, fun k hk => by have := h2 k hk; omega⟩⟩, ?_⟩
    rw [Bool.not_eq_true', dF]
    intro hm
    obtain ⟨k, hk, e⟩ := List.getElem_of_mem hm
    have := h2 k hk
    rw [List.getD_eq_getElem?_getD, List.getElem?_eq_getElem hk] at this
    have e : tot[k] = 0 := e
    simp [e] at this
def NewP (w : World) (tot : List Int) (clm : Bool) (e : Ending) (w' : World) : Prop :=
  Touch [] w w' ∧ ((newB tot = false ∧ e = .returned (.tuple #[.pointer none, .int .i64 1])) ∨ (newB tot = true ∧ ∃ b F, e = .returned (.tuple #[.pointer (some ⟨b, 0, none⟩), .int .i64 0]) ∧ PaS w' F b (Am.new tot clm) ∧ ∀ k, k ∈ F → w.heap.size ≤ k))
theorem new_mem {w w1 : World} {tot : List Int} {clm : Bool} (h : newB tot = true) {a : Option Addr} {n c : Nat} (t1 : Touch [] w w1) (hq : Qu w1 w.heap.size 3 (.slice a n c) (tot.map (Value.int .i64))) :
    PaS (((w1.alloc (.map #[] 0)).alloc (.map #[] 0)).alloc (.cells #[.slice a n c, .bool clm, .map (some w1.heap.size), .map (some (w1.heap.size + 1)), .slice none 0 0, .pointer none] 73)) ([w1.heap.size + 1 + 1, w1.heap.size, w1.heap.size + 1] ++ (Value.slice a n c).ownBlock.toList) (w1.heap.size + 1 + 1) (Am.new tot clm) := by
  have tA : Touch [] w1 (w1.alloc (.map #[] 0)) := (Touch.refl _ _).alloc _
  have tB : Touch [] (w1.alloc (.map #[] 0)) ((w1.alloc (.map #[] 0)).alloc (.map #[] 0)) := (Touch.refl _ _).alloc _
  have tC := (Touch.refl [] ((w1.alloc (.map #[] 0)).alloc (.map #[] 0))).alloc (.cells #[.slice a n c, .bool clm, .map (some w1.heap.size), .map (some (w1.heap.size + 1)), .slice none 0 0, .pointer none] 73)
  have sA : (w1.alloc (.map #[] 0)).heap.size = w1.heap.size + 1 := by simp
  have sB : ((w1.alloc (.map #[] 0)).alloc (.map #[] 0)).heap.size = w1.heap.size + 1 + 1 := by simp
  have m1 : Mp (Value.int .i64) (w1.alloc (.map #[] 0)) w1.heap.size (fun _ => none) 0 := Mp.new
  have m2 : Mp shK ((w1.alloc (.map #[] 0)).alloc (.map #[] 0)) (w1.alloc (.map #[] 0)).heap.size (fun _ => none) 0 := Mp.new
  rw [sA] at m2
  have ho : ∀ k, (Value.slice a n c).ownBlock = some k → w.heap.size ≤ k ∧ k < w1.heap.size := fun k hk => hq.own k hk
  refine ⟨Am.new_ok h clm, ⟨.slice a n c, w1.heap.size, w1.heap.size + 1, .slice none 0 0, .pointer none, fun _ => none, fun _ => none, 0, fun _ => .slice none 0 0, []⟩, ⟨⟨Blk.new sB.symm, fun k hk => ?_, fun k hk => ?_, ?_, ?_, (m1.touch tB (by simp)).touch tC (by simp), fun q => ⟨fun hq => (by cases hq), fun _ => rfl⟩, m2.touch tC (by simp), fun k => ?_, ⟨0, Av.nil _ _ _ _ _⟩, fun i hi => (by cases hi)⟩, .inl rfl⟩, rfl⟩
  · have s9 : w1.heap.size + 1 + 1 < (((w1.alloc (.map #[] 0)).alloc (.map #[] 0)).alloc (.cells #[.slice a n c, .bool clm, .map (some w1.heap.size), .map (some (w1.heap.size + 1)), .slice none 0 0, .pointer none] 73)).heap.size := by simp
    rcases List.mem_append.1 hk with hk | hk
    · simp only [List.mem_cons, List.not_mem_nil, or_false] at hk
      omega
    · have := ho k (Option.mem_toList.1 hk)
      omega
  · simp [PaP.W, Value.ownBlock] at hk
    rcases hk with rfl | rfl | rfl <;> simp
  · simp [PaP.W, Value.ownBlock]; omega
  · refine ⟨(((hq.sl).touch tA (fun _ _ => by simp)).touch tB (fun _ _ => by simp)).touch tC (fun _ _ => by simp), fun k hk => ⟨List.mem_append.2 (.inr (Option.mem_toList.2 hk)), fun hm => ?_⟩⟩
    have := ho k hk
    simp [PaP.W, Value.ownBlock] at hm
    omega
  · rw [if_neg]
    rintro ⟨h, _⟩
    cases h
set_option maxRecDepth 100000 in
set_option maxHeartbeats 8000000 in
theorem new_any (w : World) (v : Value) (tot : List Int) (clm : Bool) (h : Sl w v tot) (hl : tot.length ≤ 1000) : Calls Tryz.prog 11 #[v, .bool clm] w (NewP w tot clm) := by
  have HS := Lib.hid h
  obtain ⟨a, c, rfl⟩ := h.form
  obtain ⟨N, hN⟩ : ∃ N, tot.length = N := ⟨_, rfl⟩
  have HN := Lib.hid hN
  have hmm := @run_makeMap Tryz.prog
  have hnb : newB tot = (decide (N ≤ 6) && isB tot (N : Int) && !decide (0 ∈ tot)) := by unfold newB; rw [hN]
  have HNB := Lib.hid hnb
  rw [hN] at HS hl ⊢
  clear h hN hnb
  by_cases h6 : N ≤ 6
  · have hgt : ¬ (6 : Int) < (N : Int) := by omega
    obtain ⟨B, hB⟩ : ∃ B, isB tot (N : Int) = B := ⟨_, rfl⟩
    have HB := Lib.hid hB
    have H1 := Lib.hid (is_w _ tot (N : Int) B w HS.out (by omega) hB)
    obtain ⟨Z, hZ⟩ : ∃ Z, decide ((0 : Int) ∈ tot) = Z := ⟨_, rfl⟩
    have HZ := Lib.hid hZ
    have H2 := Lib.hid (contains_q _ tot 0 Z w HS.out (by rw [HN.out]; omega) hZ)
    have H3 := Lib.hid (clone_any _ tot w HS.out (by rw [HN.out]; omega))
    have HLE : Hid (decide (N ≤ 6) = true) := Lib.hid (dT h6)
    clear hB hZ
    go_enter Tryz.func11, Tryz.ntmps11
    go_wp2_with fail
    refine H1.out.mono ?_
    rintro e w1 ⟨rfl, rfl⟩
    cases B with
    | false =>
      have HF : Hid (NewP w tot clm (.returned (.tuple #[.pointer none, .int .i64 1])) w) := Lib.hid ⟨Touch.refl _ _, .inl ⟨by rw [HNB.out, HB.out]; simp, rfl⟩⟩
      go_wp2_with fail
      go_ret2
      exact HF.out
    | true =>
      go_wp2_with fail
      refine H2.out.mono ?_
      rintro e w1 ⟨rfl, rfl⟩
      cases Z with
      | true =>
        have HF : Hid (NewP w tot clm (.returned (.tuple #[.pointer none, .int .i64 1])) w) := Lib.hid ⟨Touch.refl _ _, .inl ⟨by rw [HNB.out, HZ.out]; simp, rfl⟩⟩
        go_wp2_with fail
        go_ret2
        exact HF.out
      | false =>
        have HT : Hid (newB tot = true) := Lib.hid (by rw [HNB.out, HZ.out, HB.out, HLE.out]; rfl)
        go_wp2_with fail
        refine H3.out.mono ?_
        rintro e w1 ⟨v1, rfl, hq, t1⟩
        obtain ⟨a1, c1, rfl⟩ := hq.form
        have HM := Lib.hid (new_mem (clm := clm) HT.out t1 hq)
        have HT1 := Lib.hid (And.intro hq t1)
        clear hq t1
        have HF : Hid (NewP w tot clm (.returned (.tuple #[.pointer (some ⟨w1.heap.size + 1 + 1, 0, none⟩), .int .i64 0])) (((w1.alloc (.map #[] 0)).alloc (.map #[] 0)).alloc (.cells #[.slice a1 tot.length c1, .bool clm, .map (some w1.heap.size), .map (some (w1.heap.size + 1)), .slice none 0 0, .pointer none] 73))) := Lib.hid ⟨((HT1.out.2.alloc _).alloc _).alloc _, .inr ⟨HT.out, _, _, rfl, HM.out, fun k hk => by
          have := HT1.out.2.size
          rcases List.mem_append.1 hk with hk | hk
          · simp only [List.mem_cons, List.not_mem_nil, or_false] at hk
            omega
          · exact (HT1.out.1.own k (Option.mem_toList.1 hk)).1⟩⟩
        go_wp2_with fail
        go_ret2
        exact HF.out
  · have hgt : (6 : Int) < (N : Int) := by omega
    have HF : Hid (NewP w tot clm (.returned (.tuple #[.pointer none, .int .i64 1])) w) := Lib.hid ⟨Touch.refl _ _, .inl ⟨by rw [HNB.out, dF h6]; simp, rfl⟩⟩
    go_enter Tryz.func11, Tryz.ntmps11
    go_wp2_with fail
    go_ret2
    exact HF.out
end Go.Proofs.YticglfmmjgnicaaGreat

set_option linter.unusedVariables false
namespace Go.Proofs.YticglfmmjgnicaaGreat
open Go Go.RowKit

/-- What its fields hold. -/
structure Rec where
  tot : List Int
  avl : List Int
  clm : Bool
  ps : List Int
  hs : List (List Int)
  cs : List (List Int)
  pd : List (Int × List Int)
def Am.rc (m : Am) : Rec := ⟨m.tot, m.avl, m.clm, m.ps, m.hs, m.cs, m.pend⟩
structure RaV where
  tv : Value
  av : Value
  pv : Value
  hv : Value
  cv : Value
  qv : Value
  qu : Nat → Value
/-- A list of asks that nobody writes. -/
def Imq (w : World) (F W : List Nat) (v : Value) (l : List (Int × List Int)) (qu : Nat → Value) : Prop :=
  (∃ base, Av w base 74 2 v l.length (askF l qu)) ∧ (∀ k, v.ownBlock = some k → k ∈ F ∧ k ∉ W) ∧ ∀ i, i < l.length → Im w F W (qu i) (l.getD i (0, [])).2
theorem Imq.to {w w' : World} {F W F' W' : List Nat} {v : Value} {l : List (Int × List Int)} {qu : Nat → Value} {T : List Nat} (h : Imq w F W v l qu) (ht : Touch T w w') (hT : ∀ k, k ∈ T → k ∈ F → k ∈ W) (hF : ∀ k, k ∈ F → k ∈ F') (hW : ∀ k, k ∈ F → k ∈ W' → k ∈ W) : Imq w' F' W' v l qu := by
  obtain ⟨⟨base, h1⟩, h2, h3⟩ := h
  exact ⟨⟨base, h1.touch ht (fun k hk hm => (h2 k hk).2 (hT k hm (h2 k hk).1))⟩, fun k hk => ⟨hF k (h2 k hk).1, fun hm => (h2 k hk).2 (hW k (h2 k hk).1 hm)⟩, fun i hi => (h3 i hi).to ht hT hF hW⟩
/-- Numbers that nobody writes, as cells. -/
def Imp (w : World) (F W : List Nat) (v : Value) (xs : List Int) : Prop := (∃ base, Qu w base 3 v (xs.map (Value.int .i64))) ∧ ∀ k, v.ownBlock = some k → k ∈ F ∧ k ∉ W
theorem Imp.im {w : World} {F W : List Nat} {v : Value} {xs : List Int} (h : Imp w F W v xs) : Im w F W v xs := by
  obtain ⟨⟨base, h1⟩, h2⟩ := h
  exact ⟨h1.sl, h2⟩
theorem Imp.to {w w' : World} {F W F' W' : List Nat} {v : Value} {xs : List Int} {T : List Nat} (h : Imp w F W v xs) (ht : Touch T w w') (hT : ∀ k, k ∈ T → k ∈ F → k ∈ W) (hF : ∀ k, k ∈ F → k ∈ F') (hW : ∀ k, k ∈ F → k ∈ W' → k ∈ W) : Imp w' F' W' v xs := by
  obtain ⟨⟨base, h1⟩, h2⟩ := h
  exact ⟨⟨base, h1.touch ht (fun k hk hm => (h2 k hk).2 (hT k hm (h2 k hk).1))⟩, fun k hk => ⟨hF k (h2 k hk).1, fun hm => (h2 k hk).2 (hW k (h2 k hk).1 hm)⟩⟩
structure Ra (w : World) (F : List Nat) (b : Nat) (R : Rec) (r : RaV) : Prop where
  obj : Blk w b #[r.tv, r.av, .bool R.clm, r.pv, r.hv, r.cv, r.qv] 48
  lt : ∀ k, k ∈ F → k < w.heap.size
  bF : b ∈ F
  tot : Im w F [b] r.tv R.tot
  av : Im w F [b] r.av R.avl
  ps : Imp w F [b] r.pv R.ps
  hs : Imr w F [b] r.hv R.hs
  cs : Imr w F [b] r.cv R.cs
  pd : Imq w F [b] r.qv R.pd r.qu
section
variable {w w1 w' : World} {F F' F1 T : List Nat} {b : Nat} {R : Rec} {r : RaV}
theorem Ra.grown (h : Ra w F b R r) (ht : Touch [b] w w1) (hF : ∀ k, k ∈ F → k ∈ F1) (hob : Blk w1 b #[r.tv, r.av, .bool R.clm, r.pv, r.hv, r.cv, r.qv] 48) (hl : ∀ k, k ∈ F1 → k < w1.heap.size) : Ra w1 F1 b R r := by
  have hT : ∀ k, k ∈ [b] → k ∈ F → k ∈ [b] := fun k h _ => h
  have hW : ∀ k, k ∈ F → k ∈ [b] → k ∈ [b] := fun k _ h => h
  exact ⟨hob, hl, hF b h.bF, h.tot.to ht hT hF hW, h.av.to ht hT hF hW, h.ps.to ht hT hF hW, h.hs.to ht hT hF hW, h.cs.to ht hT hF hW, h.pd.to ht hT hF hW⟩
theorem Ra.touch (h : Ra w F b R r) (ht : Touch T w w1) (hT : ∀ k, k ∈ T → k ∉ F) : Ra w1 F b R r := by
  have hT' : ∀ k, k ∈ T → k ∈ F → k ∈ [b] := fun k h1 h2 => absurd h2 (hT k h1)
  have hW : ∀ k, k ∈ F → k ∈ [b] → k ∈ [b] := fun k _ h => h
  have hF : ∀ k, k ∈ F → k ∈ F := fun k h => h
  exact ⟨h.obj.touch ht (fun hm => hT b hm h.bF), fun k hk => Nat.lt_of_lt_of_le (h.lt k hk) ht.size, h.bF, h.tot.to ht hT' hF hW, h.av.to ht hT' hF hW, h.ps.to ht hT' hF hW, h.hs.to ht hT' hF hW, h.cs.to ht hT' hF hW, h.pd.to ht hT' hF hW⟩
theorem Ra.same (h : Ra w F b R r) (ht : Touch [] w w1) : Ra w1 F b R r := h.touch ht (by simp)
theorem Ra.more (h : Ra w F b R r) (ht : Touch [] w w1) : Ra w1 (grow F w w1) b R r :=
  h.grown (ht.mono (by simp)) (fun k hk => grow_mem.2 (.inl hk)) (h.obj.touch ht (by simp)) (fun k hk => by rcases grow_mem.1 hk with e | e; exact Nat.lt_of_lt_of_le (h.lt k e) ht.size; exact e.2)
/-- A datum that is new: nobody writes it. -/
theorem Im.new {v : Value} {xs : List Int} (hl : ∀ k, k ∈ F → k < w.heap.size) (hb : b ∈ F) (h : Qu w1 w.heap.size 3 v (xs.map (Value.int .i64))) : Im w1 (grow F w w1) [b] v xs :=
  Own.im h (fun k hk => by simp at hk; rw [hk]; exact hl b hb)
theorem Im.up {v : Value} {xs : List Int} (ht : Touch [] w w1) (h : Im w F [b] v xs) : Im w1 (grow F w w1) [b] v xs := h.to ht (by simp) (fun k hk => grow_mem.2 (.inl hk)) (fun k _ hk => hk)
theorem Imp.new {v : Value} {xs : List Int} (hl : ∀ k, k ∈ F → k < w.heap.size) (hb : b ∈ F) (h : Qu w1 w.heap.size 3 v (xs.map (Value.int .i64))) : Imp w1 (grow F w w1) [b] v xs := ⟨⟨_, h⟩, (Im.new hl hb h).2⟩
/-- Rows that are new: a new list of data that nobody writes. -/
theorem Imr.new {v : Value} {l : List (List Int)} {vs : List Value} (hl : ∀ k, k ∈ F → k < w.heap.size) (hb : b ∈ F) (hlen : vs.length = l.length) (h : Qu w1 w.heap.size 22 v vs) (hr : ∀ i, i < l.length → Im w1 (grow F w w1) [b] (vs.getD i (.slice none 0 0)) (rw_ l i)) : Imr w1 (grow F w w1) [b] v l :=
  ⟨vs, hlen, fun k hk => by
    have := h.own k hk
    exact ⟨grow_mem.2 (.inr this), fun hm => by simp at hm; have := hl b hb; omega⟩, ⟨_, h⟩, hr⟩
theorem Imq.new {v : Value} {l : List (Int × List Int)} {qu : Nat → Value} (hl : ∀ k, k ∈ F → k < w.heap.size) (hb : b ∈ F) (h : Av w1 w.heap.size 74 2 v l.length (askF l qu)) (hr : ∀ i, i < l.length → Im w1 (grow F w w1) [b] (qu i) (l.getD i (0, [])).2) : Imq w1 (grow F w w1) [b] v l qu :=
  ⟨⟨_, h⟩, fun k hk => by
    have := h.own k hk
    exact ⟨grow_mem.2 (.inr this), fun hm => by simp at hm; have := hl b hb; omega⟩, hr⟩
/-- A field is written. -/
theorem Ra.put (h : Ra w F b R r) (i : Nat) (v : Value) : Touch [b] w (w.setCell ⟨b, i, none⟩ v) := (Touch.refl [b] w).setCell (by simp) _
theorem Im.putb {v u : Value} {xs : List Int} {i : Nat} (h : Im w F [b] v xs) : Im (w.setCell ⟨b, i, none⟩ u) F [b] v xs := h.to ((Touch.refl [b] w).setCell (by simp) u) (fun k h _ => h) (fun k h => h) (fun k _ h => h)
theorem Imp.putb {v u : Value} {xs : List Int} {i : Nat} (h : Imp w F [b] v xs) : Imp (w.setCell ⟨b, i, none⟩ u) F [b] v xs := h.to ((Touch.refl [b] w).setCell (by simp) u) (fun k h _ => h) (fun k h => h) (fun k _ h => h)
theorem Imr.putb {v u : Value} {xs : List (List Int)} {i : Nat} (h : Imr w F [b] v xs) : Imr (w.setCell ⟨b, i, none⟩ u) F [b] v xs := h.to ((Touch.refl [b] w).setCell (by simp) u) (fun k h _ => h) (fun k h => h) (fun k _ h => h)
theorem Imq.putb {v u : Value} {xs : List (Int × List Int)} {qu : Nat → Value} {i : Nat} (h : Imq w F [b] v xs qu) : Imq (w.setCell ⟨b, i, none⟩ u) F [b] v xs qu := h.to ((Touch.refl [b] w).setCell (by simp) u) (fun k h _ => h) (fun k h => h) (fun k _ h => h)
theorem Ra.lt' (h : Ra w F b R r) (i : Nat) (v : Value) : ∀ k, k ∈ F → k < (w.setCell ⟨b, i, none⟩ v).heap.size := fun k hk => Nat.lt_of_lt_of_le (h.lt k hk) (h.put i v).size
theorem Ra.setA (h : Ra w F b R r) {v : Value} {xs : List Int} (hv : Im w F [b] v xs) : Ra (w.setCell ⟨b, 1, none⟩ v) F b { R with avl := xs } { r with av := v } := ⟨h.obj.set 1 v, h.lt' 1 v, h.bF, h.tot.putb, hv.putb, h.ps.putb, h.hs.putb, h.cs.putb, h.pd.putb⟩
theorem Ra.setP (h : Ra w F b R r) {v : Value} {xs : List Int} (hv : Imp w F [b] v xs) : Ra (w.setCell ⟨b, 3, none⟩ v) F b { R with ps := xs } { r with pv := v } := ⟨h.obj.set 3 v, h.lt' 3 v, h.bF, h.tot.putb, h.av.putb, hv.putb, h.hs.putb, h.cs.putb, h.pd.putb⟩
theorem Ra.setH (h : Ra w F b R r) {v : Value} {xs : List (List Int)} (hv : Imr w F [b] v xs) : Ra (w.setCell ⟨b, 4, none⟩ v) F b { R with hs := xs } { r with hv := v } := ⟨h.obj.set 4 v, h.lt' 4 v, h.bF, h.tot.putb, h.av.putb, h.ps.putb, hv.putb, h.cs.putb, h.pd.putb⟩
theorem Ra.setC (h : Ra w F b R r) {v : Value} {xs : List (List Int)} (hv : Imr w F [b] v xs) : Ra (w.setCell ⟨b, 5, none⟩ v) F b { R with cs := xs } { r with cv := v } := ⟨h.obj.set 5 v, h.lt' 5 v, h.bF, h.tot.putb, h.av.putb, h.ps.putb, h.hs.putb, hv.putb, h.pd.putb⟩
theorem Ra.setQ (h : Ra w F b R r) {v : Value} {xs : List (Int × List Int)} {qu : Nat → Value} (hv : Imq w F [b] v xs qu) : Ra (w.setCell ⟨b, 6, none⟩ v) F b { R with pd := xs } { r with qv := v, qu := qu } := ⟨h.obj.set 6 v, h.lt' 6 v, h.bF, h.tot.putb, h.av.putb, h.ps.putb, h.hs.putb, h.cs.putb, hv.putb⟩
end
/-- The place of a number, or -1. -/
def FirstI (l : List Int) (q : Int) (k : Int) : Prop := (k = -1 ∧ q ∉ l) ∨ ∃ n : Nat, k = (n : Int) ∧ n < l.length ∧ l.getD n 0 = q ∧ ∀ j, j < n → l.getD j 0 ≠ q
set_option maxHeartbeats 4000000 in
theorem rat_any (w : World) (F : List Nat) (b : Nat) (R : Rec) (r : RaV) (q : Int) (h : Ra w F b R r) (hl : R.ps.length ≤ 1000) :
    Calls Tryz.prog 72 #[.pointer (some ⟨b, 0, none⟩), .int .i64 q] w fun e w' => ∃ k, e = .returned (.int .i64 k) ∧ FirstI R.ps q k ∧ w = w' := by
  obtain ⟨pa, pc, hpv⟩ := h.ps.im.1.form
  have c3 : w.cell? ⟨b, 3, none⟩ = some (.slice pa R.ps.length pc) := by rw [← hpv]; exact h.obj.cell (i := 3) rfl
  have HS : Hid (Sl w (.slice pa R.ps.length pc) R.ps) := Lib.hid (by rw [← hpv]; exact h.ps.im.1)
  obtain ⟨L, hL⟩ : ∃ L, R.ps.length = L := ⟨_, rfl⟩
  have HL := Lib.hid hL
  rw [hL] at c3 HS hl
  clear h hpv hL
  go_enter Tryz.func72, Tryz.ntmps72
  go_wp2_with fail
  go_loop [5] (fun iv => ∃ j : Nat, j ≤ L ∧ iv = .int .i64 (j : Int) ∧ ∀ k, k < j → R.ps.getD k 0 ≠ q) (fun iv => L + 1 - (intOf iv).toNat)
  case atStart => exact ⟨0, by omega, rfl, fun k hk => by omega⟩
  case round =>
    obtain ⟨j, hj, rfl, hno⟩ := hrel
    have HNo := Lib.hid hno
    clear hno
    by_cases hjn : j < L
    · have hlt : (j : Int) < (L : Int) := by omega
      obtain ⟨g, off, hg, xo⟩ := HS.out.ix (q := j) (by rw [HL.out]; exact hjn)
      subst hg
      have x1 := xo _ (Touch.refl _ _)
      obtain ⟨y, hy⟩ : ∃ y, R.ps.getD j 0 = y := ⟨_, rfl⟩
      have HY := Lib.hid hy
      rw [hy] at x1
      obtain ⟨B, hB⟩ : ∃ B, (y == q) = B := ⟨_, rfl⟩
      have HB := Lib.hid hB
      clear xo hy
      cases B with
      | true =>
        go_wp2
        go_ret
        exact ⟨_, rfl, .inr ⟨j, rfl, by rw [HL.out]; exact hjn, by rw [HY.out]; simpa using HB.out, HNo.out⟩, rfl⟩
      | false =>
        go_wp2
        go_round
        case rel =>
          refine ⟨j + 1, by omega, by go_num, fun k hk => ?_⟩
          by_cases e : k = j
          · subst e; rw [HY.out]; simpa using HB.out
          · exact HNo.out k (by omega)
        case measure => simp [intOf]; omega
    · have hlt : ¬ (j : Int) < (L : Int) := by omega
      go_wp2
      go_ret
      refine ⟨_, rfl, .inl ⟨rfl, fun hm => ?_⟩, rfl⟩
      obtain ⟨k, hk, e⟩ := List.getElem_of_mem hm
      exact HNo.out k (by have := HL.out; omega) (by simp [hk, e])
set_option maxHeartbeats 4000000 in
theorem rwait_any (w : World) (F : List Nat) (b : Nat) (R : Rec) (r : RaV) (q : Int) (h : Ra w F b R r) (hl : R.pd.length ≤ 1000) :
    Calls Tryz.prog 74 #[.pointer (some ⟨b, 0, none⟩), .int .i64 q] w fun e w' => ∃ k, e = .returned (.int .i64 k) ∧ FirstQ R.pd q k ∧ w = w' := by
  obtain ⟨⟨base, hA⟩, _, hu⟩ := h.pd
  obtain ⟨pa, pc, hpv, _⟩ := hA.form
  have c3 : w.cell? ⟨b, 6, none⟩ = some (.slice pa R.pd.length pc) := by rw [← hpv]; exact h.obj.cell (i := 6) rfl
  have HS : Hid (Av w base 74 2 (.slice pa R.pd.length pc) R.pd.length (askF R.pd r.qu)) := Lib.hid (by rw [← hpv]; exact hA)
  obtain ⟨L, hL⟩ : ∃ L, R.pd.length = L := ⟨_, rfl⟩
  have HL := Lib.hid hL
  rw [hL] at c3 HS hl
  clear h hpv hL hA hu
  go_enter Tryz.func74, Tryz.ntmps74
  go_wp2_with fail
  go_loop [5] (fun iv => ∃ j : Nat, j ≤ L ∧ iv = .int .i64 (j : Int) ∧ ∀ k, k < j → (R.pd.getD k (0, [])).1 ≠ q) (fun iv => L + 1 - (intOf iv).toNat)
  case atStart => exact ⟨0, by omega, rfl, fun k hk => by omega⟩
  case round =>
    obtain ⟨j, hj, rfl, hno⟩ := hrel
    have HNo := Lib.hid hno
    clear hno
    by_cases hjn : j < L
    · have hlt : (j : Int) < (L : Int) := by omega
      obtain ⟨g, cap, e, _, _, _, _, hc, _, _⟩ := HS.out.at hjn
      cases e
      have x1 : w.cell? ⟨g, j * 2, none⟩ = some (.int .i64 (R.pd.getD j (0, [])).1) := hc 0 (by omega)
      obtain ⟨y, hy⟩ : ∃ y, (R.pd.getD j (0, [])).1 = y := ⟨_, rfl⟩
      have HY := Lib.hid hy
      rw [hy] at x1
      obtain ⟨B, hB⟩ : ∃ B, (y == q) = B := ⟨_, rfl⟩
      have HB := Lib.hid hB
      clear hc hy
      cases B with
      | true =>
        go_wp2
        go_ret
        exact ⟨_, rfl, .inr ⟨j, rfl, by rw [HL.out]; exact hjn, by rw [HY.out]; simpa using HB.out, HNo.out⟩, rfl⟩
      | false =>
        go_wp2
        go_round
        case rel =>
          refine ⟨j + 1, by omega, by go_num, fun k hk => ?_⟩
          by_cases e : k = j
          · subst e; rw [HY.out]; simpa using HB.out
          · exact HNo.out k (by omega)
        case measure => simp [intOf]; omega
    · have hlt : ¬ (j : Int) < (L : Int) := by omega
      go_wp2
      go_ret
      exact ⟨_, rfl, .inl ⟨rfl, fun k hk => HNo.out k (by have := HL.out; omega)⟩, rfl⟩
end Go.Proofs.YticglfmmjgnicaaGreat
