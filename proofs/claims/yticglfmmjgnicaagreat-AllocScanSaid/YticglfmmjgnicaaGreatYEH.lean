/-
  What is pending is gone through once, in order: who is granted.
  The asks of one process are looked for, and taken out.
  The asks of one process are taken out of the list.
  Does the claim cover it? Units are given back; a process leaves.
  Units are given back; a process leaves.
  A process leaves.
  A process asks.
  A process asks: the call.
-/
import Derived.Lib.SliceRun
import Derived.Deep.RegionLaw
import Derived.Deep.RegionHeldLaw
import Derived.Test.YticglfmmjgnicaaGreatYEG
set_option linter.unusedVariables false
set_option linter.unusedSimpArgs false
namespace Go.Proofs.YticglfmmjgnicaaGreat
open Go Go.RowKit

theorem Rd.unP {w w' : World} {F F' : List Nat} {b : Nat} {m : Am} {p : PaP} {q : List (Int × List Int)} (h : Rd w F b (m.withP q) p F' w') : Rd w F b m p F' w' := by
  obtain ⟨sv, h1, h2, h3⟩ := h
  exact ⟨sv, h1, h2, h3.withP m.pend⟩
def GrP (w W1 : World) (F : List Nat) (b : Nat) (p : PaP) (R : Am × List (Int × List Int) × List Int) (rest : List (Int × List Int)) (m1 : Am) (s : List (Int × List Int)) (g : List Int) (gv sv : Value) (qu : Nat → Value) (G : Bool) (e : Ending) (w' : World) : Prop :=
  e = .returned (.bool G) ∧ ∃ F2, ScI w w' F b p R rest F2 m1 s g gv sv qu ∧ Touch [b] W1 w'
theorem ScI.grant {w W1 : World} {F F1 : List Nat} {b : Nat} {p : PaP} {R : Am × List (Int × List Int) × List Int} {rest : List (Int × List Int)} {m1 : Am} {s : List (Int × List Int)} {g : List Int} {gv sv : Value} {qu : Nat → Value} {q : Int} {u : List Int}
    (h : ScI w W1 F b p R ((q, u) :: rest) F1 m1 s g gv sv qu) (B : Bool) {i : Nat} (hi : i < p.pd.length) (hx : p.pd.getD i (0, []) = (q, u)) {ua : Option Addr} {uc : Nat} (hu : p.pu i = .slice ua u.length uc) :
    Calls Tryz.prog 91 #[.pointer (some ⟨b, 0, none⟩), .agg #[.int .i64 q, .slice ua u.length uc], .bool B] W1 (GrP w W1 F b p R ((q, u) :: rest) m1 s g gv sv qu (m1.grant (q, u) B)) := by
  obtain ⟨v, mh, nh, h1⟩ := h.pa
  have hpi := h.ok.pi (q, u) (by show (q, u) ∈ s ++ (q, u) :: rest; simp)
  have him : Im W1 F1 (p.W b) (p.pu i) (p.pd.getD i (0, [])).2 := h1.pu i hi
  rw [hx, hu] at him
  refine (grant_any W1 F1 b (m1.withP (s ++ (q, u) :: rest)) _ q u ua uc B (h1.withP _) h.ok hpi.1 him.1 hpi.2 (fun k hk e => (him.2 k hk).2 (by rw [e]; simp [PaP.W]))).mono ?_
  rintro e w' ⟨rfl, F2, hr⟩
  exact ⟨rfl, F2, h.read hr.unP, by obtain ⟨_, _, ht, _⟩ := hr; exact ht⟩
set_option maxRecDepth 100000 in
set_option maxHeartbeats 16000000 in
theorem scan_any (w : World) (F : List Nat) (b : Nat) (m : Am) (p : PaP) (h : Pa w F b m p) (ok : m.Ok) (hpd : p.pd = m.pend) :
    Calls Tryz.prog 66 #[.pointer (some ⟨b, 0, none⟩)] w (ScP w F b m.scan) := by
  have HS0 := Lib.hid (ScI.start h ok (fun _ => .slice none 0 0))
  have HPD := Lib.hid hpd
  obtain ⟨L, hL⟩ : ∃ L, m.pend.length = L := ⟨_, rfl⟩
  have HL := Lib.hid hL
  have hL32 : L ≤ 32 := by rw [← hL]; exact pend_few ok
  obtain ⟨R, hR⟩ : ∃ R, Am.scanF m.pend m [] [] = R := ⟨_, rfl⟩
  have HR := Lib.hid hR
  rw [hR] at HS0
  obtain ⟨pa, pc, hpv⟩ : ∃ a c, p.pv = .slice a L c := by
    obtain ⟨base, hpe⟩ := h.pend
    obtain ⟨a, c, e, _⟩ := hpe.form
    rw [hpd, hL] at e
    exact ⟨a, c, e⟩
  have HPV := Lib.hid hpv
  have c4 : w.cell? ⟨b, 4, none⟩ = some (.slice pa L pc) := by rw [← hpv]; exact h.blk.cell (i := 4) rfl
  clear h ok hpd hL hR hpv
  go_enter Tryz.func66, Tryz.ntmps66
  go_wp2_with fail
  clear c4
  go_loopw [3, 4, 14] (fun gv sv iv wr => ∃ (i : Nat) (F1 : List Nat) (m1 : Am) (s : List (Int × List Int)) (g : List Int) (qu : Nat → Value), i ≤ L ∧ iv = .int .i64 (i : Int) ∧ ScI w wr F b p R (m.pend.drop i) F1 m1 s g gv sv qu) (fun _ _ iv _ => L + 1 - (intOf iv).toNat)
  case atStart => exact ⟨0, F, m, [], [], _, by omega, rfl, HS0.out⟩
  case round =>
    clear HS0
    obtain ⟨i, F1, m1, s, g, qu, hi, rfl, hs⟩ := hrel
    have HS := Lib.hid hs
    obtain ⟨S, hS⟩ : ∃ S, s.length = S := ⟨_, rfl⟩
    have HSL := Lib.hid hS
    obtain ⟨sa, sc, rfl⟩ : ∃ a c, u4 = .slice a S c := by
      obtain ⟨a, c, e, _⟩ := hs.sa.form
      exact ⟨a, c, by rw [← hS]; exact e⟩
    obtain ⟨ga, gn, gc, rfl⟩ : ∃ a n c, u3 = .slice a n c := by
      obtain ⟨a, c, e, _⟩ := hs.ga.shape
      exact ⟨a, _, c, e⟩
    by_cases hk : i < L
    · have hlt : (i : Int) < (L : Int) := by omega
      have hk2 : i < m.pend.length := by rw [HL.out]; exact hk
      have hk3 : i < p.pd.length := by rw [HPD.out]; exact hk2
      obtain ⟨q, u, hx⟩ : ∃ q u, m.pend.getD i (0, []) = (q, u) := ⟨_, _, rfl⟩
      have hdrop : m.pend.drop i = (q, u) :: m.pend.drop (i + 1) := by
        rw [List.drop_eq_getElem_cons hk2, ← hx, show m.pend.getD i (0, []) = m.pend[i] from by simp [hk2]]
      have hx2 : p.pd.getD i (0, []) = (q, u) := by rw [HPD.out]; exact hx
      have HX := Lib.hid (And.intro hk3 hx2)
      have HDR := Lib.hid hdrop
      obtain ⟨v1, mh1, nh1, hpa⟩ := hs.pa
      obtain ⟨base, hpe⟩ := hpa.pend
      have hpe : Av wr base 58 2 p.pv p.pd.length (askF p.pd p.pu) := hpe
      rw [HPV.out, HPD.out, HL.out] at hpe
      obtain ⟨g0, cap, e, hbg, hg0, hcap, hcm, hc, hfr, _⟩ := hpe.at hk
      cases e
      have him : Im wr F1 (p.W b) (p.pu i) (p.pd.getD i (0, [])).2 := hpa.pu i hk3
      obtain ⟨ua, uc, hue⟩ := him.1.form
      rw [hx2] at hue him
      have hue : p.pu i = .slice ua u.length uc := hue
      have HUE := Lib.hid hue
      have d0 : wr.cell? ⟨g0, i * 2, none⟩ = some (.int .i64 q) := by
        have := hc 0 (by omega)
        rw [Nat.add_zero] at this
        rw [this]
        show some (Value.int .i64 (m.pend.getD i (0, [])).1) = _
        rw [hx]
      have d1 : wr.cell? ⟨g0, i * 2 + 1, none⟩ = some (.slice ua u.length uc) := by rw [← hue]; exact hc 1 (by omega)
      obtain ⟨N, hN⟩ : ∃ N, u.length = N := ⟨_, rfl⟩
      have HN := Lib.hid hN
      obtain ⟨B, hB⟩ : ∃ B, decide (s.length = 0) = B := ⟨_, rfl⟩
      have hB2 : ((S : Int) == 0) = B := by
        rw [← hB, ← hS]
        cases s with
        | nil => rfl
        | cons a l => simp; omega
      have HB := Lib.hid hB
      rw [hdrop] at HS
      have ta : Touch [] wr (wr.alloc (.cells #[.int .i64 q, .slice ua N uc] 58)) := (Touch.refl [] wr).alloc _
      have bx : Blk (wr.alloc (.cells #[.int .i64 q, .slice ua N uc] 58)) wr.heap.size #[.int .i64 q, .slice ua N uc] 58 := Blk.new rfl
      have hbl : b < wr.heap.size ∧ p.bh < wr.heap.size := ⟨HS.out.lt _ HS.out.bF.1, HS.out.lt _ HS.out.bF.2⟩
      have HBX := Lib.hid bx
      have HBL := Lib.hid hbl
      obtain ⟨G, hG⟩ : ∃ G, m1.grant (q, u) B = G := ⟨_, rfl⟩
      have HG := Lib.hid hG
      have HGR := Lib.hid ((HS.out.same ta).grant B hk3 hx2 hue)
      rw [hG, hN] at HGR
      rw [hN] at d1
      clear hs hS hx hdrop hx2 hpa hpe hc hfr him hue hN hB ta bx hbl hG hg0 hbg
      go_wp2_with fail
      refine HGR.out.mono ?_
      rintro e w2 ⟨rfl, F2, hs2, ht2⟩
      have HS2 := Lib.hid hs2
      have HT2 := Lib.hid ht2
      have hbx2 := HBX.out.touch ht2 (by have := HBL.out.1; simp; omega)
      have b0 : w2.cell? ⟨wr.heap.size, 0, none⟩ = some (.int .i64 q) := hbx2.cell (i := 0) rfl
      have b1 : w2.cell? ⟨wr.heap.size, 1, none⟩ = some (.slice ua N uc) := hbx2.cell (i := 1) rfl
      have HBX2 := Lib.hid hbx2
      clear hs2 ht2 HGR d0 d1 hbx2 HBX
      cases G with
      | false =>
        have hsz : w.heap.size ≤ w2.heap.size := HS2.out.t.size
        obtain ⟨sv', w3, hr, hA, hT, ho, a3, c3, rfl⟩ := av_app HS2.out.sa hsz (by have := HS2.out.ln; omega) q u ua N uc
        rw [HSL.out] at hr ho
        have HRN := Lib.hid hr
        have HF : Hid (ScI w w3 F b p R (m.pend.drop (i + 1)) F2 m1 (s ++ [(q, u)]) g (.slice ga gn gc) (.slice a3 (S + 1) c3) (fun j => if j = s.length then p.pu i else qu j)) := Lib.hid (HS2.out.no (by rw [HB.out]; exact HG.out) HX.out.1 HX.out.2 (by rw [HSL.out] at hA; rw [HUE.out, HN.out, HSL.out]; exact hA) hT ho)
        clear hr hA hT ho hsz
        go_wp2_with (at_builtin; refine Lib.wpList_append_run _ rfl _ _ _ _ rfl _ _ rfl rfl _ _ (HRN.out _) ?_)
        go_roundw
        case rel => exact ⟨i + 1, F2, m1, _, _, _, by omega, by go_num, HF.out⟩
        case measure => simp [intOf]; omega
      | true =>
        obtain ⟨v2, mh2, nh2, hp2⟩ := HS2.out.pa
        have HL0 : Hid (LoopP w2 F2 b (m1.moreK q (fun k => u.getD k 0) 0) { p with sv := v2, mh := mh2, nh := nh2 } w2) := Lib.hid (by rw [moreK_zero]; exact ⟨v2, mh2, nh2, hp2, Touch.refl _ _⟩)
        have him2 : Im w2 F2 (p.W b) (p.pu i) (p.pd.getD i (0, [])).2 := hp2.pu i HX.out.1
        rw [HX.out.2, HUE.out, HN.out] at him2
        have HSU : Hid (∀ w', Touch [b, p.bh] w2 w' → Sl w' (.slice ua N uc) u) := Lib.hid (fun w' ht => him2.1.touch ht (fun k hk hm => (him2.2 k hk).2 (by simp at hm; rcases hm with rfl | rfl <;> simp [PaP.W])))
        have hok := HS2.out.ok
        have hpi := hok.pi (q, u) (by show (q, u) ∈ s ++ (q, u) :: m.pend.drop (i + 1); simp)
        have hqm : q ∈ m1.ps := hpi.1
        have hub : u.length = m1.tot.length ∧ ∀ k, k < m1.tot.length → 0 ≤ u.getD k 0 ∧ u.getD k 0 ≤ 1000 := isB_iff.1 hpi.2
        have hhl : (m1.held q).length = m1.tot.length := hok.hl q hqm
        have hul : u.length = m1.tot.length := hub.1
        have hbd : ∀ k, k < m1.tot.length → InI ((m1.held q).getD k 0 + u.getD k 0) := fun k hk => by
          have h1 := hub.2 k hk
          have h2 : 0 ≤ (m1.held q).getD k 0 ∧ (m1.held q).getD k 0 + (m1.withP (s ++ (q, u) :: m.pend.drop (i + 1))).avl.getD k 0 ≤ m1.tot.getD k 0 := hok.le hqm hk
          have h3 : 0 ≤ (m1.withP (s ++ (q, u) :: m.pend.drop (i + 1))).avl.getD k 0 := hok.av k hk
          have h4 : 1 ≤ m1.tot.getD k 0 ∧ m1.tot.getD k 0 ≤ 1000 := hok.tb k hk
          unfold InI
          omega
        have hqi : InI q := by
          have := hok.pos q hqm
          unfold InI
          omega
        have HM : Hid (m1.tot.length ≤ 6 ∧ q ∈ m1.ps ∧ (m1.held q).length = m1.tot.length ∧ InI q ∧ N = m1.tot.length ∧ ∀ k, k < m1.tot.length → InI ((m1.held q).getD k 0 + u.getD k 0)) := Lib.hid ⟨hok.nt, hqm, hhl, hqi, by rw [← HN.out]; exact hul, hbd⟩
        have hn6 : N ≤ 6 := by rw [HM.out.2.2.2.2.1]; exact HM.out.1
        have HKP : Hid (∀ w', Touch [b, p.bh] w2 w' → w'.cell? ⟨wr.heap.size, 0, none⟩ = some (.int .i64 q)) := Lib.hid (fun w' ht => (HBX2.out.touch ht (by have := HBL.out; simp; omega)).cell (i := 0) rfl)
        have HBB : Hid (∀ w', Touch [b, p.bh] w2 w' → Touch [] w2 w2) := Lib.hid (fun _ _ => Touch.refl _ _)
        clear hp2 him2 hok hpi hqm hub hhl hul hbd hqi
        go_wp2_with fail
        clear b0 b1
        go_loopw [32] (fun kv wk => ∃ k : Nat, k ≤ N ∧ kv = .int .i64 (k : Int) ∧ LoopP w2 F2 b (m1.moreK q (fun k => u.getD k 0) k) { p with sv := v2, mh := mh2, nh := nh2 } wk) (fun kv _ => N + 1 - (intOf kv).toNat)
        case atStart => exact ⟨0, by omega, rfl, HL0.out⟩
        case round =>
          clear HL0
          obtain ⟨k, hk, rfl, hl⟩ := hrel
          have HLP := Lib.hid hl
          obtain ⟨v5, mh5, nh5, hp5, ht5⟩ := hl
          have ht5 : Touch [b, p.bh] w2 wr := ht5
          have hb0 := HKP.out _ ht5
          have HT5 := Lib.hid ht5
          by_cases hkn : k < N
          · have hltk : (k : Int) < (N : Int) := by omega
            have hkt : k < m1.tot.length := by rw [← HM.out.2.2.2.2.1]; exact hkn
            obtain ⟨gu, ou, hgu, xu⟩ := (HSU.out _ ht5).ix (q := k) (by rw [HN.out]; exact hkn)
            cases hgu
            have cu := xu _ (Touch.refl _ _)
            have HK := Lib.hid (holdK w2 _ F2 b m1 _ q (fun k => u.getD k 0) k HLP.out HM.out.1 HM.out.2.1 HM.out.2.2.1 HM.out.2.2.2.1 hkt (HM.out.2.2.2.2.2 k hkt))
            obtain ⟨y, hy⟩ : ∃ y, u.getD k 0 = y := ⟨_, rfl⟩
            have HK2 : Hid (Calls Tryz.prog 67 #[.pointer (some ⟨b, 0, none⟩), .int .i64 q, .int .i64 (k : Int), .int .i64 y] wr fun e w' => e = .returned (.tuple #[]) ∧ LoopP w2 F2 b (m1.moreK q (fun k => u.getD k 0) (k + 1)) { p with sv := v2, mh := mh2, nh := nh2 } w') := Lib.hid (by rw [← hy]; exact HK.out)
            rw [hy] at cu
            clear xu hy HK hp5 ht5
            go_wp2_with fail
            refine HK2.out.mono ?_
            rintro e w6 ⟨rfl, hl6⟩
            have HL6 := Lib.hid hl6
            clear hl6 cu hb0
            go_wp2_with fail
            go_roundw
            case rel => exact ⟨k + 1, by omega, by go_num, HL6.out⟩
            case measure => simp [intOf]; omega
          · have hltk : ¬ (k : Int) < (N : Int) := by omega
            obtain rfl : k = N := by omega
            have hsz : w.heap.size ≤ wr.heap.size := Nat.le_trans HS2.out.t.size ht5.size
            have hgv : Qu wr w.heap.size 3 (.slice ga gn gc) (g.map (Value.int .i64)) := HS2.out.ga.touch ht5 (fun z hz hm => by
              have := (HS2.out.go z hz).1
              simp at hm
              rcases hm with rfl | rfl
              · exact this HS2.out.bF.1
              · exact this HS2.out.bF.2)
            obtain ⟨gv', w3, hr, hq3, ht3, ho3⟩ := app_own wr w.heap.size _ g q hgv hsz (by have := HS2.out.ln; omega)
            obtain ⟨g3a, g3n, g3c, rfl⟩ : ∃ a n c, gv' = .slice a n c := by obtain ⟨a, c, e, _⟩ := hq3.shape; exact ⟨a, _, c, e⟩
            have HRN := Lib.hid hr
            have hlg : LoopP w2 F2 b (m1.give q u) { p with sv := v2, mh := mh2, nh := nh2 } wr := by
              rw [← moreK_give m1 q u (by rw [HM.out.2.2.1, HN.out, HM.out.2.2.2.2.1]), HM.out.2.2.1, ← HM.out.2.2.2.2.1]
              exact HLP.out
            have HF : Hid (ScI w w3 F b p R (m.pend.drop (i + 1)) F2 (m1.give q u) s (g ++ [q]) (.slice g3a g3n g3c) (.slice sa S sc) qu) := Lib.hid (HS2.out.yes (by rw [HB.out]; exact HG.out) hlg hq3 ht3 ho3)
            clear hr hq3 ht3 ho3 hlg hgv hsz hp5 ht5
            go_wp2_with (at_builtin; refine Lib.wpList_append_run _ rfl _ _ _ _ rfl _ _ rfl rfl _ _ (HRN.out _) ?_)
            go_roundw
            case rel => exact ⟨i + 1, F2, _, s, _, qu, by omega, by go_num, HF.out⟩
            case measure => simp [intOf]; omega
    · have hlt : ¬ (i : Int) < (L : Int) := by omega
      obtain rfl : i = L := by omega
      have hd0 : m.pend.drop i = [] := List.drop_eq_nil_of_le (by rw [HL.out]; exact Nat.le_refl _)
      rw [hd0, ← HR.out] at HS
      obtain ⟨v1, mh1, nh1, hpa⟩ := hs.pa
      have c4 := hpa.blk.cell (i := 4) rfl
      have f4 := hpa.blk.free 4
      have HF := Lib.hid (HS.out.done)
      clear hs hS hpa hd0
      go_wp2_with fail
      go_ret
      exact HF.out
end Go.Proofs.YticglfmmjgnicaaGreat

set_option linter.unusedVariables false
namespace Go.Proofs.YticglfmmjgnicaaGreat
open Go Go.RowKit

/-- A function of the code that says whether an ask is q's (q lies in block kb). -/
def IsQ (f : Nat) (kb : Nat) (q : Int) : Prop := ∀ (w : World) (x : Int) (a : Option Addr) (n c : Nat), w.cell? ⟨kb, 0, none⟩ = some (.int .i64 q) → kb < w.heap.size →
  Calls Tryz.prog f #[.agg #[.int .i64 x, .slice a n c], .pointer (some ⟨kb, 0, none⟩)] w fun e w' => e = .returned (.bool (x == q)) ∧ Touch [] w w'
theorem ask_isQ (kb : Nat) (q : Int) : IsQ 64 kb q := by
  intro w x a n c h hl
  have c0 : (w.alloc (.cells #[.int .i64 x, .slice a n c] 58)).cell? ⟨kb, 0, none⟩ = some (.int .i64 q) := by rw [World.cell?_alloc_past _ _ _ hl]; exact h
  have HT := Lib.hid ((Touch.refl [] w).alloc (.cells #[.int .i64 x, .slice a n c] 58))
  obtain ⟨B, hB⟩ : ∃ B, (x == q) = B := ⟨_, rfl⟩
  rw [hB]
  go_enter Tryz.func64, Tryz.ntmps64
  go_wp2
  go_ret
  exact ⟨rfl, HT.out⟩
theorem leave_isQ (kb : Nat) (q : Int) : IsQ 69 kb q := by
  intro w x a n c h hl
  have c0 : (w.alloc (.cells #[.int .i64 x, .slice a n c] 58)).cell? ⟨kb, 0, none⟩ = some (.int .i64 q) := by rw [World.cell?_alloc_past _ _ _ hl]; exact h
  have HT := Lib.hid ((Touch.refl [] w).alloc (.cells #[.int .i64 x, .slice a n c] 58))
  obtain ⟨B, hB⟩ : ∃ B, (x == q) = B := ⟨_, rfl⟩
  rw [hB]
  go_enter Tryz.func69, Tryz.ntmps69
  go_wp2
  go_ret
  exact ⟨rfl, HT.out⟩
/-- The first ask of q's, or none. -/
def FirstQ (l : List (Int × List Int)) (q : Int) (k : Int) : Prop := (k = -1 ∧ ∀ j, j < l.length → (l.getD j (0, [])).1 ≠ q) ∨ ∃ n : Nat, k = (n : Int) ∧ n < l.length ∧ (l.getD n (0, [])).1 = q ∧ ∀ j, j < n → (l.getD j (0, [])).1 ≠ q
/-- Whose cells the asks are. -/
def ForQ (l : List (Int × List Int)) (pu : Nat → Value) : Prop := ∀ i, i < l.length → ∃ a n c, pu i = .slice a n c
theorem enters2 (f : Nat) (h : (Tryz.prog.funcs[f]?.map fun fn => (fn.name == "runtime.NumGoroutine", fn.body.isSome)) = some (false, true)) (args : Array Value) (w : World) : (callFunc f args).run Tryz.prog w = .ok (.enter f args) w := by
  cases hf : Tryz.prog.funcs[f]? with
  | none => rw [hf] at h; cases h
  | some fn =>
    rw [hf] at h
    simp at h
    obtain ⟨h1, h2⟩ := h
    obtain ⟨c, hc⟩ := Option.isSome_iff_exists.1 h2
    exact enters hf (by simpa using h1) hc args w
set_option maxHeartbeats 8000000 in
theorem ixf_any (f kb : Nat) (q : Int) (hq : IsQ f kb q) (hent : ∀ args w, (callFunc f args).run Tryz.prog w = .ok (.enter f args) w) (w : World) (base : Nat) (v : Value) (l : List (Int × List Int)) (pu : Nat → Value) (h : Av w base 58 2 v l.length (askF l pu)) (hp : ForQ l pu) (hl : l.length ≤ 1000) (hc : w.cell? ⟨kb, 0, none⟩ = some (.int .i64 q)) (hk : kb < w.heap.size) :
    Calls Tryz.prog 89 #[v, .func (.func f) #[] #[.pointer (some ⟨kb, 0, none⟩)]] w fun e w' => ∃ k, e = .returned (.int .i64 k) ∧ FirstQ l q k ∧ Touch [] w w' := by
  have HQ := Lib.hid hq
  have HA := Lib.hid h
  have HP := Lib.hid hp
  have HK : Hid (∀ w', Touch [] w w' → w'.cell? ⟨kb, 0, none⟩ = some (.int .i64 q) ∧ kb < w'.heap.size) := Lib.hid (fun w' ht => ⟨by rw [World.cell?_of_block (w := w) (a := ⟨kb, 0, none⟩) (ht.block kb hk (by simp))]; exact hc, Nat.lt_of_lt_of_le hk ht.size⟩)
  obtain ⟨a, c, hv, _⟩ := h.form
  obtain ⟨L, hL⟩ : ∃ L, l.length = L := ⟨_, rfl⟩
  have HL := Lib.hid hL
  rw [hL] at hv HA hl
  subst hv
  clear hq h hp hc hk hL
  go_enter Tryz.func89, Tryz.ntmps89
  go_wp2_with fail
  go_loopw [8] (fun iv wr => ∃ j : Nat, j ≤ L ∧ iv = .int .i64 (j : Int) ∧ (∀ k, k < j → (l.getD k (0, [])).1 ≠ q) ∧ Touch [] w wr) (fun iv _ => L + 1 - (intOf iv).toNat)
  case atStart => exact ⟨0, by omega, rfl, fun k hk => by omega, Touch.refl _ _⟩
  case round =>
    obtain ⟨j, hj, rfl, hno, ht⟩ := hrel
    have HNo := Lib.hid hno
    have HT := Lib.hid ht
    by_cases hjn : j < L
    · have hlt : (j : Int) < (L : Int) := by omega
      obtain ⟨g, cap, e, hbg, hg, hcap, hcm, hcc, hfr, _⟩ := (HA.out.touch ht (fun _ _ => by simp)).at hjn
      cases e
      obtain ⟨ua, un, uc, hu⟩ := HP.out j (by rw [HL.out]; exact hjn)
      have d0 : wr.cell? ⟨g, j * 2, none⟩ = some (.int .i64 (l.getD j (0, [])).1) := hcc 0 (by omega)
      have d1 : wr.cell? ⟨g, j * 2 + 1, none⟩ = some (.slice ua un uc) := by rw [← hu]; exact hcc 1 (by omega)
      obtain ⟨x, hx⟩ : ∃ x, (l.getD j (0, [])).1 = x := ⟨_, rfl⟩
      have HX := Lib.hid hx
      rw [hx] at d0
      obtain ⟨B, hB⟩ : ∃ B, (x == q) = B := ⟨_, rfl⟩
      have HB := Lib.hid hB
      have HC := Lib.hid (HQ.out wr x ua un uc (HK.out _ ht).1 (HK.out _ ht).2)
      rw [hB] at HC
      clear hno ht hcc hu hx hB hfr
      go_wp2_with fail
      refine HC.out.mono ?_
      rintro e w3 ⟨rfl, ht3⟩
      have HT3 := Lib.hid (HT.out.trans ht3)
      clear ht3 d0 d1
      cases B with
      | true =>
        go_wp2_with fail
        go_ret
        exact ⟨_, rfl, .inr ⟨j, rfl, by rw [HL.out]; exact hjn, by rw [HX.out]; simpa using HB.out, HNo.out⟩, HT3.out⟩
      | false =>
        go_wp2_with fail
        go_roundw
        case rel =>
          refine ⟨j + 1, by omega, by go_num, fun k hk => ?_, HT3.out⟩
          by_cases e : k = j
          · subst e; rw [HX.out]; simpa using HB.out
          · exact HNo.out k (by omega)
        case measure => simp [intOf]; omega
    · have hlt : ¬ (j : Int) < (L : Int) := by omega
      clear hno ht
      go_wp2_with fail
      go_ret
      exact ⟨_, rfl, .inl ⟨rfl, fun k hk => HNo.out k (by have := HL.out; omega)⟩, HT.out⟩
theorem firstQ_mem {l : List (Int × List Int)} {q k : Int} (h : FirstQ l q k) : decide (0 ≤ k) = decide (q ∈ l.map (·.1)) := by
  rcases h with ⟨rfl, h⟩ | ⟨n, rfl, hn, he, _⟩
  · rw [dF (by omega), dF]
    intro hm
    obtain ⟨x, hx, rfl⟩ := List.mem_map.1 hm
    obtain ⟨j, hj, e⟩ := List.getElem_of_mem hx
    exact h j hj (by simp [hj, e])
  · rw [dT (by omega), dT]
    refine List.mem_map.2 ⟨l[n], List.getElem_mem hn, ?_⟩
    rw [← he]
    simp [hn]
theorem ctf_any (f kb : Nat) (q : Int) (hq : IsQ f kb q) (hent : ∀ args w, (callFunc f args).run Tryz.prog w = .ok (.enter f args) w) (w : World) (base : Nat) (v : Value) (l : List (Int × List Int)) (pu : Nat → Value) (h : Av w base 58 2 v l.length (askF l pu)) (hp : ForQ l pu) (hl : l.length ≤ 1000) (hc : w.cell? ⟨kb, 0, none⟩ = some (.int .i64 q)) (hk : kb < w.heap.size) :
    Calls Tryz.prog 63 #[v, .func (.func f) #[] #[.pointer (some ⟨kb, 0, none⟩)]] w fun e w' => e = .returned (.bool (decide (q ∈ l.map (·.1)))) ∧ Touch [] w w' := by
  have HC := Lib.hid (ixf_any f kb q hq hent w base v l pu h hp hl hc hk)
  obtain ⟨a, c, hv, _⟩ := h.form
  subst hv
  obtain ⟨B, hB⟩ : ∃ B, decide (q ∈ l.map (·.1)) = B := ⟨_, rfl⟩
  rw [hB]
  have HB := Lib.hid hB
  clear hq h hp hc hk hB
  go_enter Tryz.func63, Tryz.ntmps63
  go_wp2_with fail
  refine HC.out.mono ?_
  rintro e w1 ⟨k, rfl, hf, ht⟩
  have HT := Lib.hid ht
  have hm := firstQ_mem hf
  rw [HB.out] at hm
  clear hf ht
  go_wp2_with fail
  go_ret
  exact ⟨rfl, HT.out⟩
end Go.Proofs.YticglfmmjgnicaaGreat

set_option linter.unusedVariables false
namespace Go.Proofs.YticglfmmjgnicaaGreat
open Go Go.RowKit

def clrL (n : Nat) : List Value := (Builtin.zeroCells #[.int .i64 0, .slice none 0 0] n).toList
theorem clrL_len (n : Nat) : (clrL n).length = n * 2 := by simp [clrL, Builtin.zeroCells]
theorem clrL_one (n : Nat) : ∀ u ∈ clrL n, u.oneCell' = true := fun u hu => by
  unfold clrL Builtin.zeroCells at hu
  simp at hu
  obtain ⟨a, _, rfl⟩ := hu
  have : a % 2 = 0 ∨ a % 2 = 1 := by omega
  rcases this with e | e <;> rw [e] <;> rfl
theorem run_clear_ask (w : World) (g o n c : Nat) (cur : Array Value) (hn : 0 < n) (hb : Blk w g cur 58) (ho : o + n * 2 ≤ cur.size) (ty : TypeId) :
    (Builtin.clear_ #[53] ty #[.slice (some ⟨g, o, none⟩) n c]).run Tryz.prog w = .ok (.tuple #[]) (w.setCells g o (clrL n)) := by
  have hv : ∀ w, (zeroValue 58).run Tryz.prog w = .ok (.agg #[.int .i64 0, .slice none 0 0]) w := fun w => by kernel_rfl
  have hst := run_storeCells_cells (P := Tryz.prog) g o (clrL n) 0 w (fun j hj => by rw [Nat.add_zero, hb.cell (Array.getElem?_eq_getElem (show o + j < cur.size by rw [clrL_len] at hj; omega))]; rfl) (fun j hj => hb.free _) (clrL_one n)
  simp only [Nat.add_zero] at hst
  obtain ⟨m, rfl⟩ : ∃ m, n = m + 1 := ⟨n - 1, by omega⟩
  have hz : (Value.agg #[.int .i64 0, .slice none 0 0]).cells = #[.int .i64 0, .slice none 0 0] := rfl
  have hst2 : Sem.run Tryz.prog (storeCells ⟨g, o, none⟩ (Builtin.zeroCells #[.int .i64 0, .slice none 0 0] (m + 1)).toList) w = .ok () (w.setCells g o (clrL (m + 1))) := hst
  simp [Builtin.clear_, run_underlying Tryz.underlying53, hv, hz, hst2]
def keptL (l : List (Int × List Int)) (q : Int) (j : Nat) : List (Int × List Int) := (l.take j).filter fun x => decide (x.1 ≠ q)
theorem keptL_step {l : List (Int × List Int)} {q : Int} {j : Nat} (hj : j < l.length) : keptL l q (j + 1) = if (l.getD j (0, [])).1 = q then keptL l q j else keptL l q j ++ [l.getD j (0, [])] := by
  have e : l.getD j (0, []) = l[j] := by simp [hj]
  unfold keptL
  rw [List.take_succ_eq_append_getElem hj, List.filter_append, e]
  by_cases h : l[j].1 = q
  · rw [if_pos h]; simp [h]
  · rw [if_neg h]; simp [h]
theorem keptL_all {l : List (Int × List Int)} {q : Int} : ∀ {j : Nat}, j ≤ l.length → (∀ k, k < j → (l.getD k (0, [])).1 ≠ q) → keptL l q j = l.take j := fun {j} hj h => by
  unfold keptL
  refine List.filter_eq_self.2 (fun x hx => ?_)
  obtain ⟨k, hk, rfl⟩ := List.getElem_of_mem hx
  rw [List.length_take] at hk
  have := h k (by omega)
  rw [List.getD_eq_getElem?_getD, List.getElem?_eq_getElem (by omega)] at this
  simpa using this
structure Df (w wr : World) (g cap base : Nat) (l : List (Int × List Int)) (pu : Nat → Value) (q : Int) (j : Nat) (ps : Nat → Nat → Value) : Prop where
  a : Av wr base 58 2 (.slice (some ⟨g, 0, none⟩) l.length cap) l.length ps
  t : Touch [g] w wr
  k : (keptL l q j).length < j
  lo : ∀ a, a < (keptL l q j).length → ∃ a0, a0 < l.length ∧ (keptL l q j).getD a (0, []) = l.getD a0 (0, []) ∧ ps a 0 = .int .i64 (l.getD a0 (0, [])).1 ∧ ps a 1 = pu a0
  hi : ∀ a, j ≤ a → a < l.length → ∀ c, c < 2 → ps a c = askF l pu a c
section
variable {w wr w' : World} {g cap base : Nat} {l : List (Int × List Int)} {pu : Nat → Value} {q : Int} {j : Nat} {ps : Nat → Nat → Value}
theorem Df.same (h : Df w wr g cap base l pu q j ps) (ht : Touch [] wr w') : Df w w' g cap base l pu q j ps :=
  ⟨h.a.touch ht (fun _ _ => by simp), h.t.trans (ht.mono (by simp)), h.k, h.lo, h.hi⟩
theorem Df.start (h : Av w base 58 2 (.slice (some ⟨g, 0, none⟩) l.length cap) l.length (askF l pu)) {n : Nat} (hn : n < l.length) (he : (l.getD n (0, [])).1 = q) (hno : ∀ k, k < n → (l.getD k (0, [])).1 ≠ q) (ht : Touch [] w w') : Df w w' g cap base l pu q (n + 1) (askF l pu) ∧ (keptL l q (n + 1)).length = n := by
  have e : keptL l q (n + 1) = l.take n := by rw [keptL_step hn, if_pos he, keptL_all (by omega) hno]
  have el : (keptL l q (n + 1)).length = n := by rw [e, List.length_take]; omega
  refine ⟨⟨h.touch ht (fun _ _ => by simp), ht.mono (by simp), by omega, fun a ha => ⟨a, by omega, ?_, rfl, rfl⟩, fun a _ _ c _ => rfl⟩, el⟩
  rw [e]
  rw [List.getD_eq_getElem?_getD, List.getD_eq_getElem?_getD, List.getElem?_take_of_lt (by omega)]
theorem Df.drop (h : Df w wr g cap base l pu q j ps) (hj : j < l.length) (he : (l.getD j (0, [])).1 = q) (ht : Touch [] wr w') : Df w w' g cap base l pu q (j + 1) ps ∧ (keptL l q (j + 1)).length = (keptL l q j).length := by
  have e : keptL l q (j + 1) = keptL l q j := by rw [keptL_step hj, if_pos he]
  refine ⟨⟨h.a.touch ht (fun _ _ => by simp), h.t.trans (ht.mono (by simp)), by rw [e]; have := h.k; omega, by rw [e]; exact h.lo, fun a h1 h2 => h.hi a (by omega) h2⟩, by rw [e]⟩
theorem Df.keep (h : Df w wr g cap base l pu q j ps) (hj : j < l.length) (he : (l.getD j (0, [])).1 ≠ q) :
    (∀ k, wr.frozen? ⟨g, k, none⟩ = false) ∧ (∃ v0, wr.cell? ⟨g, (keptL l q j).length * 2, none⟩ = some v0) ∧ (∃ v1, wr.cell? ⟨g, (keptL l q j).length * 2 + 1, none⟩ = some v1) ∧
    Df w ((wr.setCell ⟨g, (keptL l q j).length * 2, none⟩ (.int .i64 (l.getD j (0, [])).1)).setCell ⟨g, (keptL l q j).length * 2 + 1, none⟩ (pu j)) g cap base l pu q (j + 1) (setV (setV ps (keptL l q j).length 0 (.int .i64 (l.getD j (0, [])).1)) (keptL l q j).length 1 (pu j)) ∧ (keptL l q (j + 1)).length = (keptL l q j).length + 1 := by
  have e : keptL l q (j + 1) = keptL l q j ++ [l.getD j (0, [])] := by rw [keptL_step hj, if_neg he]
  have hk := h.k
  obtain ⟨K, hK⟩ : ∃ K, (keptL l q j).length = K := ⟨_, rfl⟩
  rw [hK] at hk ⊢
  obtain ⟨g1, c1, e1, hb, hg, h1, h2, hc, hf, hs⟩ := h.a.at (i := K) (by omega)
  cases e1
  obtain ⟨g2, c2, e2, hb2, hg2, _, _, hc2, hf2, hs2⟩ := (hs 0 (.int .i64 (l.getD j (0, [])).1) (by omega)).at (i := K) (by omega)
  cases e2
  have el : (keptL l q (j + 1)).length = K + 1 := by rw [e, List.length_append, hK]; rfl
  refine ⟨hf, ⟨_, hc 0 (by omega)⟩, ⟨_, hc 1 (by omega)⟩, ⟨hs2 1 (pu j) (by omega), (h.t.setCell (by simp) _).setCell (by simp) _, by omega, fun a ha => ?_, fun a h3 h4 c hc3 => ?_⟩, el⟩
  · rw [el] at ha
    by_cases ea : a = K
    · subst ea
      refine ⟨j, hj, ?_, ?_, ?_⟩
      · rw [e, List.getD_eq_getElem?_getD, List.getElem?_append_right (by omega), hK]; simp
      · simp [setV]
      · simp [setV]
    · obtain ⟨a0, q1, q2, q3, q4⟩ := h.lo a (by omega)
      refine ⟨a0, q1, ?_, ?_, ?_⟩
      · rw [← q2, e]; simp only [List.getD_eq_getElem?_getD]; rw [List.getElem?_append_left (by omega)]
      · simp [setV, ea, q3]
      · simp [setV, ea, q4]
  · have ea : a ≠ K := by omega
    rw [← h.hi a (by omega) h4 c hc3]
    simp [setV, ea]
/-- What is left of the list. -/
def DelP (w : World) (base : Nat) (v : Value) (l : List (Int × List Int)) (pu : Nat → Value) (l' : List (Int × List Int)) (e : Ending) (w' : World) : Prop :=
  ∃ v' pu', e = .returned v' ∧ Av w' base 58 2 v' l'.length (askF l' pu') ∧ Touch v.ownBlock.toList w w' ∧ (∀ k, v'.ownBlock = some k → v.ownBlock = some k) ∧ ∀ a, a < l'.length → ∃ a0, a0 < l.length ∧ pu' a = pu a0 ∧ l'.getD a (0, []) = l.getD a0 (0, [])
theorem Df.done (h : Df w wr g cap base l pu q l.length ps) : ∃ cur, Blk wr g cur 58 ∧ (keptL l q l.length).length * 2 + (l.length - (keptL l q l.length).length) * 2 ≤ cur.size ∧
    DelP w base (.slice (some ⟨g, 0, none⟩) l.length cap) l pu (l.filter fun x => decide (x.1 ≠ q)) (.returned (.slice (some ⟨g, 0, none⟩) (keptL l q l.length).length cap)) (wr.setCells g ((keptL l q l.length).length * 2) (clrL (l.length - (keptL l q l.length).length))) := by
  have hk := h.k
  have e : keptL l q l.length = l.filter fun x => decide (x.1 ≠ q) := by unfold keptL; rw [List.take_length]
  have hlo := h.lo
  have ht := h.t
  obtain ⟨K, hK⟩ : ∃ K, (keptL l q l.length).length = K := ⟨_, rfl⟩
  rw [hK] at hk hlo ⊢
  rcases h.a with ⟨e0, _⟩ | ⟨g1, cap1, cur, e1, hb, hg, h1, h2, h3, h4⟩
  · cases e0
  cases e1
  have hs : K * 2 + (l.length - K) * 2 ≤ cur.size := by omega
  obtain ⟨cur', hb', hs', hin, hout⟩ := hg.setCells (clrL (l.length - K)) _ (K * 2) _ (by rw [clrL_len]; exact hs)
  obtain ⟨q1, q2, q3, q4, q5⟩ := setCells_blocks g (clrL (l.length - K)) wr (K * 2)
  refine ⟨cur, hg, hs, _, fun a => ps a 1, rfl, .inr ⟨g, cap, cur', by rw [← e, hK], hb, hb', by rw [← e, hK]; omega, h2, by omega, fun i hi c hc => ?_⟩, ht.trans ⟨q1, q2, q3, Nat.le_of_eq q4.symm, fun i _ hi => q5 i (by simpa using hi)⟩, fun k hk => hk, fun a ha => ?_⟩
  · rw [← e, hK] at hi
    rw [hout _ (.inl (by omega)), h4 i (by omega) c hc]
    obtain ⟨a0, x1, x2, x3, x4⟩ := hlo i hi
    rw [e] at x2
    have : c = 0 ∨ c = 1 := by omega
    rcases this with rfl | rfl
    · rw [x3]; unfold askF; rw [if_pos rfl, x2]
    · rfl
  · rw [← e, hK] at ha
    obtain ⟨a0, x1, x2, x3, x4⟩ := hlo a ha
    rw [e] at x2
    exact ⟨a0, x1, x4, x2⟩
end
set_option maxRecDepth 100000 in
set_option maxHeartbeats 16000000 in
theorem delf_any (f kb : Nat) (q : Int) (hq : IsQ f kb q) (hent : ∀ args w, (callFunc f args).run Tryz.prog w = .ok (.enter f args) w) (w : World) (base : Nat) (v : Value) (l : List (Int × List Int)) (pu : Nat → Value) (h : Av w base 58 2 v l.length (askF l pu)) (hp : ForQ l pu) (hl : l.length ≤ 1000) (hc : w.cell? ⟨kb, 0, none⟩ = some (.int .i64 q)) (hk : kb < w.heap.size) (hne : v.ownBlock ≠ some kb) :
    Calls Tryz.prog 68 #[v, .func (.func f) #[] #[.pointer (some ⟨kb, 0, none⟩)]] w (DelP w base v l pu (l.filter fun x => decide (x.1 ≠ q))) := by
  have HI := Lib.hid (ixf_any f kb q hq hent w base v l pu h hp hl hc hk)
  have HQ := Lib.hid hq
  have HA := Lib.hid h
  have HP := Lib.hid hp
  have HK := Lib.hid (And.intro hc (And.intro hk hne))
  obtain ⟨a, c, hv, _⟩ := h.form
  obtain ⟨L, hL⟩ : ∃ L, l.length = L := ⟨_, rfl⟩
  have HL := Lib.hid hL
  rw [hL] at hv HA hl
  subst hv
  obtain ⟨l', hl'⟩ : ∃ l', l.filter (fun x => decide (x.1 ≠ q)) = l' := ⟨_, rfl⟩
  have HLF := Lib.hid hl'
  rw [hl']
  clear hq h hp hc hk hL hne hl'
  go_enter Tryz.func68, Tryz.ntmps68
  go_wp2_with fail
  refine HI.out.mono ?_
  rintro e w1 ⟨k, rfl, hf, ht⟩
  rcases hf with ⟨rfl, hno⟩ | ⟨n, rfl, hn, he, hno⟩
  · have HF : Hid (DelP w base (.slice a L c) l pu l' (.returned (.slice a L c)) w1) := Lib.hid (by
      have e : l.filter (fun x => decide (x.1 ≠ q)) = l := by
        have := keptL_all (l := l) (q := q) (j := l.length) (Nat.le_refl _) hno
        unfold keptL at this
        rwa [List.take_length] at this
      rw [← HLF.out, e]
      exact ⟨_, pu, rfl, by rw [HL.out]; exact HA.out.touch ht (fun _ _ => by simp), ht.mono (by simp), fun k hk => hk, fun a ha => ⟨a, ha, rfl, rfl⟩⟩)
    clear ht hno
    go_wp2_with fail
    go_ret
    exact HF.out
  · have hnL : n < L := by rw [← HL.out]; exact hn
    obtain ⟨g, cap, e, hbg, hg, hcap, hcm, _, _, _⟩ := HA.out.at hnL
    cases e
    obtain ⟨hd, hkl⟩ := Df.start (by rw [HL.out]; exact HA.out) hn he hno ht
    have HD := Lib.hid (And.intro hd hkl)
    have hkg : kb ≠ g := fun e => HK.out.2.2 (by rw [e]; rfl)
    have HKG := Lib.hid hkg
    have HKC : Hid (∀ w', Touch [g] w w' → w'.cell? ⟨kb, 0, none⟩ = some (.int .i64 q) ∧ kb < w'.heap.size) := Lib.hid (fun w' ht => ⟨by rw [World.cell?_of_block (w := w) (a := ⟨kb, 0, none⟩) (ht.block kb HK.out.2.1 (by simpa using HKG.out))]; exact HK.out.1, Nat.lt_of_lt_of_le HK.out.2.1 ht.size⟩)
    have hne1 : ((n : Int) == -1) = false := beqF (by omega)
    clear hd hkl hkg hn he hno ht
    go_wp2_with fail
    go_loopw [5, 6] (fun iv jv wr => ∃ (j : Nat) (K : Nat) (ps : Nat → Nat → Value), j ≤ L ∧ K < L ∧ iv = .int .i64 (K : Int) ∧ jv = .int .i64 (j : Int) ∧ (keptL l q j).length = K ∧ Df w wr g c base l pu q j ps) (fun _ jv _ => L + 1 - (intOf jv).toNat)
    case atStart => exact ⟨n + 1, n, askF l pu, by omega, hnL, rfl, by go_num, HD.out.2, HD.out.1⟩
    case round =>
      clear HD
      obtain ⟨j, K, ps, hj, hKL, rfl, rfl, hKe, hd⟩ := hrel
      have HD := Lib.hid hd
      have HKE := Lib.hid hKe
      by_cases hjn : j < L
      · have hlt : (j : Int) < (L : Int) := by omega
        have hjl : j < l.length := by rw [HL.out]; exact hjn
        have hda := hd.a
        rw [HL.out] at hda
        obtain ⟨g1, cap1, e, _, _, _, _, hcc, hfr, _⟩ := hda.at hjn
        cases e
        obtain ⟨ua, un, uc, hu⟩ := HP.out j hjl
        have d0 : wr.cell? ⟨g, j * 2, none⟩ = some (.int .i64 (l.getD j (0, [])).1) := by have := hcc 0 (by omega); rw [hd.hi j (Nat.le_refl _) hjl 0 (by omega)] at this; exact this
        have d1 : wr.cell? ⟨g, j * 2 + 1, none⟩ = some (.slice ua un uc) := by have := hcc 1 (by omega); rw [hd.hi j (Nat.le_refl _) hjl 1 (by omega)] at this; rw [← hu]; exact this
        obtain ⟨x, hx⟩ : ∃ x, (l.getD j (0, [])).1 = x := ⟨_, rfl⟩
        have HX := Lib.hid hx
        have HU := Lib.hid hu
        rw [hx] at d0
        have ta : Touch [] wr (wr.alloc (.cells #[.int .i64 x, .slice ua un uc] 58)) := (Touch.refl _ _).alloc _
        have bx : Blk (wr.alloc (.cells #[.int .i64 x, .slice ua un uc] 58)) wr.heap.size #[.int .i64 x, .slice ua un uc] 58 := Blk.new rfl
        obtain ⟨B, hB⟩ : ∃ B, (x == q) = B := ⟨_, rfl⟩
        have HB := Lib.hid hB
        have HC := Lib.hid (HQ.out _ x ua un uc (HKC.out _ (hd.t.trans (ta.mono (by simp)))).1 (HKC.out _ (hd.t.trans (ta.mono (by simp)))).2)
        rw [hB] at HC
        have HTA := Lib.hid ta
        have HBX := Lib.hid bx
        clear hd hda hcc hu hx hB hfr hKe ta bx
        go_wp2_with fail
        refine HC.out.mono ?_
        rintro e w3 ⟨rfl, ht3⟩
        have HT3 := Lib.hid (HTA.out.trans ht3)
        have hb3 := HBX.out.touch ht3 (by simp)
        have b0 : w3.cell? ⟨wr.heap.size, 0, none⟩ = some (.int .i64 x) := hb3.cell (i := 0) rfl
        have b1 : w3.cell? ⟨wr.heap.size, 1, none⟩ = some (.slice ua un uc) := hb3.cell (i := 1) rfl
        clear ht3 d0 d1 hb3 HBX HC HTA
        cases B with
        | true =>
          obtain ⟨hd2, hk2⟩ := HD.out.drop hjl (by rw [HX.out]; simpa using HB.out) HT3.out
          have HD2 := Lib.hid (And.intro hd2 hk2)
          clear hd2 hk2
          go_wp2_with fail
          go_roundw
          case rel => exact ⟨j + 1, K, ps, by omega, hKL, rfl, by go_num, HD2.out.2.trans HKE.out, HD2.out.1⟩
          case measure => simp [intOf]; omega
        | false =>
          have hKj : K < j := by rw [← HKE.out]; exact HD.out.k
          obtain ⟨f1, ⟨v0, f2⟩, ⟨v1, f3⟩, hd2, hk2⟩ := (HD.out.same HT3.out).keep hjl (by rw [HX.out]; simpa using HB.out)
          rw [HKE.out, HX.out, HU.out] at hd2
          rw [HKE.out] at f2 f3 hk2
          have HD2 := Lib.hid (And.intro hd2 hk2)
          have f4 := f1 (K * 2)
          have f5 := f1 (K * 2 + 1)
          clear hd2 hk2 f1
          go_wp2_with fail
          go_roundw
          case rel => exact ⟨j + 1, K + 1, _, by omega, by omega, by go_num, by go_num, HD2.out.2, HD2.out.1⟩
          case measure => simp [intOf]; omega
      · have hlt : ¬ (j : Int) < (L : Int) := by omega
        obtain rfl : j = L := by omega
        have hd2 := hd
        rw [show Df w wr g c base l pu q j ps = Df w wr g c base l pu q l.length ps from by rw [HL.out]] at hd2
        obtain ⟨cur, hcb, hcs, hdp⟩ := hd2.done
        rw [HL.out, HKE.out] at hcs hdp
        rw [HLF.out] at hdp
        have hcl := run_clear_ask wr g (K * 2) (j - K) (c - K) cur (by omega) hcb hcs
        have HF := Lib.hid hdp
        clear hd hd2 hdp hcb hcs hKe
        go_wp2_with fail
        go_ret
        exact HF.out
end Go.Proofs.YticglfmmjgnicaaGreat

set_option linter.unusedVariables false
namespace Go.Proofs.YticglfmmjgnicaaGreat
open Go Go.RowKit

/-- The program's allocator, whole: m, its blocks F. -/
def PaS (w : World) (F : List Nat) (b : Nat) (m : Am) : Prop := m.Ok ∧ ∃ p, Pa w F b m p ∧ p.pd = m.pend
theorem PaS.lt {w : World} {F : List Nat} {b : Nat} {m : Am} (h : PaS w F b m) : ∀ k, k ∈ F → k < w.heap.size := by obtain ⟨_, p, h, _⟩ := h; exact h.lt
theorem PaS.bF {w : World} {F : List Nat} {b : Nat} {m : Am} (h : PaS w F b m) : b ∈ F := by obtain ⟨_, p, h, _⟩ := h; exact h.fw b (by simp [PaP.W])
theorem PaS.touch {w w' : World} {F : List Nat} {b : Nat} {m : Am} {T : List Nat} (h : PaS w F b m) (ht : Touch T w w') (hT : ∀ k, k ∈ T → k ∉ F) : PaS w' F b m := by
  obtain ⟨ok, p, h, e⟩ := h
  exact ⟨ok, p, h.touch ht hT (fun k hk => hk) (fun k hk => Nat.lt_of_lt_of_le (h.lt k hk) ht.size), e⟩
theorem PaS.same {w w' : World} {F : List Nat} {b : Nat} {m : Am} (h : PaS w F b m) (ht : Touch [] w w') : PaS w' F b m := h.touch ht (by simp)
theorem Rd.paS {w w' : World} {F F' : List Nat} {b : Nat} {m : Am} {p : PaP} (ok : m.Ok) (e : p.pd = m.pend) (h : Rd w F b m p F' w') : Fr F w F' w' ∧ PaS w' F' b m := by
  obtain ⟨sv, h1, h2, h3⟩ := h
  exact ⟨h1, ok, _, h3, e⟩
/-- A call has answered a list of its own and one thing more. -/
def ResP (w : World) (F : List Nat) (b : Nat) (m' : Am) (l : List Int) (X : Value) (e : Ending) (w' : World) : Prop :=
  ∃ v F', e = .returned (.tuple #[v, X]) ∧ Fr F w F' w' ∧ PaS w' F' b m' ∧ Qu w' w.heap.size 3 v (l.map (Value.int .i64)) ∧ ∀ k, v.ownBlock = some k → k ∉ F'
theorem ResP.no {w w' : World} {F : List Nat} {b : Nat} {m : Am} (X : Value) (h : PaS w F b m) (ht : Touch [] w w') : ResP w F b m [] X (.returned (.tuple #[.slice none 0 0, X])) w' :=
  ⟨_, F, rfl, Fr.same ht h.lt, h.same ht, Qu.nil _ _ _, fun k hk => by simp [Value.ownBlock] at hk⟩
def ScS (w w0 : World) (F : List Nat) (b : Nat) (r : Am × List Int) (v : Value) (w' : World) : Prop := ∃ F', Fr F w0 F' w' ∧ PaS w' F' b r.1 ∧ Qu w' w0.heap.size 3 v (r.2.map (Value.int .i64)) ∧ ∀ k, v.ownBlock = some k → k ∉ F'
theorem scan_s (w0 w : World) (F : List Nat) (b : Nat) (m : Am) {F0 : List Nat} (h : PaS w F b m) (hf : Fr F0 w0 F w) : Calls Tryz.prog 66 #[.pointer (some ⟨b, 0, none⟩)] w fun e w' => ∃ v, e = .returned v ∧ ScS w w0 F0 b m.scan v w' := by
  obtain ⟨ok, p, hp, e⟩ := h
  refine (scan_any w F b m p hp ok e).mono ?_
  rintro e w' ⟨v, F', p', rfl, h1, h2, h3, h4, h5⟩
  exact ⟨v, rfl, F', hf.trans h1, ⟨ok.scan, p', h2, h3⟩, h4.mono hf.t.size, h5⟩
set_option maxHeartbeats 4000000 in
theorem covers_any (w : World) (F : List Nat) (b : Nat) (m : Am) (p : PaP) (q : Int) (v : Value) (u : List Int) (h : Pb w F b m p) (ok : m.Ok) (hq : q ∈ m.ps) (hu : Sl w v u) (hb : isB u m.tot.length = true) :
    Calls Tryz.prog 65 #[.pointer (some ⟨b, 0, none⟩), .int .i64 q, v] w fun e w' => e = .returned (.bool (fitsB (addW (m.held q) u) (m.claim q))) ∧ Touch [] w w' := by
  have hnt := ok.nt
  have hul : u.length = m.tot.length := (isB_iff.1 hb).1
  have hhl := ok.hl q hq
  have hcl := (isB_iff.1 (ok.cl q hq)).1
  have hqi : InI q := by have := ok.pos q hq; unfold InI; omega
  have H1 := Lib.hid (held_in w F b m p q h hnt hq hhl hqi)
  have HC : Hid (((mergeL true (m.held q) u).any fun s => fitsB s (m.claim q)) = fitsB (addW (m.held q) u) (m.claim q)) := Lib.hid (covers_iff (ok.hB hq) hb (ok.cl q hq))
  obtain ⟨cv, hcv, hci⟩ := (h.mcv q).1 hq
  have HU := Lib.hid hu
  have HK : Hid (∀ w', Touch [] w w' → w'.cell? ⟨b, 2, none⟩ = some (.map (some p.bc)) ∧ (Instr.lookup 69 (.map (some p.bc)) (.int .i64 q) false).run Tryz.prog w' = .ok cv w') := Lib.hid (fun w' ht => ⟨(h.blk.touch ht (by simp)).cell (i := 2) rfl, by
    have := (h.mc.touch ht (by simp)).lookR q
    rw [hcv] at this
    exact this⟩)
  have HCI := Lib.hid hci.1
  obtain ⟨ca, cc, hcf⟩ := hci.1.form
  obtain ⟨R, hR⟩ : ∃ R, fitsB (addW (m.held q) u) (m.claim q) = R := ⟨_, rfl⟩
  rw [hR] at HC ⊢
  have HL : Hid ((m.held q).length ≤ 6 ∧ u.length ≤ 6 ∧ (m.claim q).length ≤ 6) := Lib.hid ⟨by omega, by omega, by omega⟩
  obtain ⟨ua, uc, huf⟩ := hu.form
  subst hcf huf
  clear h ok hq hu hb hnt hul hhl hcl hqi hcv hci hR
  go_enter Tryz.func65, Tryz.ntmps65
  go_wp2_with fail
  refine H1.out.mono ?_
  rintro e w1 ⟨hv, rfl, hq1, ht1⟩
  obtain ⟨ha, hc, rfl⟩ := hq1.form
  have HT1 := Lib.hid ht1
  have HP := Lib.hid (plus_q _ _ (m.held q) u w1 hq1.sl (HU.out.touch ht1 (fun _ _ => by simp)) (by have := HL.out; omega) (by have := HL.out; omega))
  clear hq1 ht1 H1
  go_wp2_with fail
  refine HP.out.mono ?_
  rintro e w2 ⟨sa, sc, rfl, hq2, ht2⟩
  have HT2 := Lib.hid (HT1.out.trans ht2)
  cases hm : mergeL true (m.held q) u with
  | none =>
    try rw [hm] at HC
    try rw [hm] at hq2
    have hRf : R = false := by have := HC.out; simpa using this.symm
    subst hRf
    clear hq2 ht2
    simp only [Option.isSome_none, Option.getD_none, List.length_nil]
    go_wp2_with fail
    go_ret
    exact ⟨rfl, HT2.out⟩
  | some s =>
    try rw [hm] at HC
    try rw [hm] at hq2
    have hRf : fitsB s (m.claim q) = R := by have := HC.out; simpa using this
    simp only [Option.isSome_some, Option.getD_some] at hq2 ⊢
    have hsl : s.length ≤ 6 := by
      have h1 := mergeL_len (s := true) (xs := m.held q) (ys := u)
      rw [hm] at h1
      have h1 : s.length ≤ (m.held q).length := h1
      have h2 := HL.out
      omega
    have HFQ := Lib.hid (fits_q (.slice sa s.length sc) (.slice ca (m.claim q).length cc) s (m.claim q) R w2 hq2.sl (HCI.out.touch HT2.out (fun _ _ => by simp)) (by omega) (by have := HL.out; omega) hRf)
    have c2 := (HK.out _ HT2.out).1
    have hk := (HK.out _ HT2.out).2
    clear hq2 ht2 hm hRf hsl
    go_wp2_with fail
    refine HFQ.out.mono ?_
    rintro e w3 ⟨rfl, ht3⟩
    have HT3 := Lib.hid (HT2.out.trans ht3)
    clear ht3 c2 hk
    go_wp2_with fail
    go_ret
    exact ⟨rfl, HT3.out⟩
end Go.Proofs.YticglfmmjgnicaaGreat

set_option linter.unusedVariables false
namespace Go.Proofs.YticglfmmjgnicaaGreat
open Go Go.RowKit

theorem LoopP.fr {w wr : World} {F : List Nat} {b : Nat} {m : Am} {p : PaP} (hb : b ∈ F) (hh : p.bh ∈ F) (hl : ∀ k, k ∈ F → k < w.heap.size) (h : LoopP w F b m p wr) : Fr F w F wr := by
  obtain ⟨_, _, _, _, ht⟩ := h
  exact ⟨ht.mono (fun k hk => by simp at hk; rcases hk with rfl | rfl; exact hb; exact hh), fun k hk => .inl hk, fun k hk => Nat.lt_of_lt_of_le (hl k hk) ht.size⟩
theorem LoopP.paS {w wr : World} {F : List Nat} {b : Nat} {m : Am} {p : PaP} (ok : m.Ok) (e : p.pd = m.pend) (h : LoopP w F b m p wr) : PaS wr F b m := by
  obtain ⟨_, _, _, h, _⟩ := h
  exact ⟨ok, _, h, e⟩
/-- Of an empty list nothing can turn. -/
theorem Sl.keep {w w' : World} {v : Value} {xs : List Int} {S : List Nat} (h : Sl w v xs) (ht : Touch S w w') (hs : xs ≠ [] → ∀ k, v.ownBlock = some k → k ∉ S) : Sl w' v xs := by
  by_cases e : xs = []
  · subst e
    obtain ⟨a, c, rfl, _⟩ := h
    exact ⟨a, c, rfl, .inl rfl⟩
  · exact h.touch ht (hs e)
set_option maxRecDepth 100000 in
set_option maxHeartbeats 16000000 in
theorem give_any (w : World) (F : List Nat) (b : Nat) (m : Am) (q : Int) (v : Value) (u : List Int) (h : PaS w F b m) (hu : Sl w v u) (hv : u ≠ [] → ∀ k, v.ownBlock = some k → k ∉ F) :
    Calls Tryz.prog 36 #[.pointer (some ⟨b, 0, none⟩), .int .i64 q, v] w (ResP w F b (m.cGive q u).1 (m.cGive q u).2.1 (.int .i64 (m.cGive q u).2.2)) := by
  have HS := Lib.hid h
  obtain ⟨ok, p, hp, hpd⟩ := h
  have HOK := Lib.hid ok
  have HP := Lib.hid hp
  have HPD := Lib.hid hpd
  have HU := Lib.hid hu
  have HV := Lib.hid hv
  obtain ⟨ua, uc, huf⟩ := hu.form
  subst huf
  obtain ⟨N, hN⟩ : ∃ N, u.length = N := ⟨_, rfl⟩
  have HN := Lib.hid hN
  have H1 := Lib.hid (isIn_any w F b m p q hp.toPb)
  have H2 := Lib.hid (areUnits_any w F b m p _ u hp.toPb ok.nt hu)
  rw [hN] at H2 HU HV ⊢
  clear ok hp hpd hu hv hN
  by_cases hq : q ∈ m.ps
  · rw [dT hq] at H1
    have HQ := Lib.hid hq
    obtain ⟨B, hB⟩ : ∃ B, isB u m.tot.length = B := ⟨_, rfl⟩
    rw [hB] at H2
    have HB := Lib.hid hB
    clear hq hB
    go_enter Tryz.func36, Tryz.ntmps36
    go_wp2_with fail
    refine H1.out.mono ?_
    rintro e w1 ⟨rfl, rfl⟩
    go_wp2_with fail
    refine H2.out.mono ?_
    rintro e w1 ⟨rfl, rfl⟩
    cases B with
    | false =>
      have HF : Hid (ResP w F b (m.cGive q u).1 (m.cGive q u).2.1 (.int .i64 (m.cGive q u).2.2) (.returned (.tuple #[.slice none 0 0, .int .i64 1])) w) := Lib.hid (by
        rw [show m.cGive q u = (m, [], 1) from by unfold Am.cGive; rw [if_neg (by simpa using HQ.out), if_pos HB.out]]
        exact ResP.no _ HS.out (Touch.refl _ _))
      go_wp2_with fail
      go_ret2
      exact HF.out
    | true =>
      have hul : u.length = m.tot.length := (isB_iff.1 HB.out).1
      have hn6 : N ≤ 6 := by have := HOK.out.nt; have := HN.out; omega
      have hhl := HOK.out.hl q HQ.out
      have hqi : InI q := by have := HOK.out.pos q HQ.out; unfold InI; omega
      have H3 := Lib.hid (held_in w F b m p q HP.out.toPb HOK.out.nt HQ.out hhl hqi)
      have HHL := Lib.hid (And.intro hul (And.intro hhl hqi))
      clear hul hhl hqi
      go_wp2_with fail
      refine H3.out.mono ?_
      rintro e w1 ⟨hv1, rfl, hq1, ht1⟩
      obtain ⟨ha, hc, rfl⟩ := hq1.form
      obtain ⟨C, hC⟩ : ∃ C, fitsB u (m.held q) = C := ⟨_, rfl⟩
      have HC := Lib.hid hC
      have HT1 := Lib.hid ht1
      have HFQ := Lib.hid (fits_q (.slice ua N uc) (.slice ha (m.held q).length hc) u (m.held q) C w1 (HU.out.touch ht1 (fun _ _ => by simp)) hq1.sl (by have := HN.out; omega) (by have := HHL.out; have := HN.out; omega) hC)
      clear hq1 ht1 hC
      go_wp2_with fail
      refine HFQ.out.mono ?_
      rintro e w2 ⟨rfl, ht2⟩
      have HT2 := Lib.hid (HT1.out.trans ht2)
      clear ht2
      cases C with
      | false =>
        have HF : Hid (ResP w F b (m.cGive q u).1 (m.cGive q u).2.1 (.int .i64 (m.cGive q u).2.2) (.returned (.tuple #[.slice none 0 0, .int .i64 36])) w2) := Lib.hid (by
          rw [show m.cGive q u = (m, [], 36) from by unfold Am.cGive; rw [if_neg (by simpa using HQ.out), if_neg (by rw [HB.out]; simp), if_pos HC.out]]
          exact ResP.no _ HS.out HT2.out)
        go_wp2_with fail
        go_ret2
        exact HF.out
      | true =>
        have hcg : m.cGive q u = ((m.back q u).scan.1, (m.back q u).scan.2, 0) := by unfold Am.cGive; rw [if_neg (by simpa using HQ.out), if_neg (by rw [HB.out]; simp), if_neg (by rw [HC.out]; simp)]
        have HCG := Lib.hid hcg
        have hub : ∀ k, k < N → 0 ≤ u.getD k 0 ∧ u.getD k 0 ≤ 1000 ∧ InI ((m.held q).getD k 0 + - u.getD k 0) := fun k hk => by
          have h0 : k < m.tot.length := by have := HHL.out; have := HN.out; omega
          have h1 := (isB_iff.1 HB.out).2 k h0
          have h2 := HOK.out.le HQ.out h0
          have h3 := HOK.out.tb k h0
          have h4 := HOK.out.av k h0
          refine ⟨h1.1, h1.2, ?_⟩
          unfold InI
          omega
        have HUB := Lib.hid hub
        have HL0 : Hid (LoopP w2 F b (m.moreK q (fun k => - u.getD k 0) 0) p w2) := Lib.hid (by rw [moreK_zero]; exact ⟨p.sv, p.mh, p.nh, HP.out.same HT2.out, Touch.refl _ _⟩)
        have HSU : Hid (∀ w', Touch [b, p.bh] w2 w' → Sl w' (.slice ua N uc) u) := Lib.hid (fun w' ht => (HU.out.touch HT2.out (fun _ _ => by simp)).keep ht (fun hne k hk hm => HV.out hne k hk (by
          simp at hm
          rcases hm with rfl | rfl
          · exact HP.out.fw _ (by simp [PaP.W])
          · exact HP.out.fw _ (by simp [PaP.W]))))
        clear hcg hub
        go_wp2_with fail
        go_loopw [29] (fun kv wr => ∃ k : Nat, k ≤ N ∧ kv = .int .i64 (k : Int) ∧ LoopP w2 F b (m.moreK q (fun k => - u.getD k 0) k) p wr) (fun kv _ => N + 1 - (intOf kv).toNat)
        case atStart => exact ⟨0, by omega, rfl, HL0.out⟩
        case round =>
          clear HL0
          obtain ⟨k, hk, rfl, hl⟩ := hrel
          have HLP := Lib.hid hl
          by_cases hkn : k < N
          · have hltk : (k : Int) < (N : Int) := by omega
            obtain ⟨v5, mh5, nh5, hp5, ht5⟩ := hl
            have ht5 : Touch [b, p.bh] w2 wr := ht5
            have hkt : k < m.tot.length := by have := HHL.out; have := HN.out; omega
            obtain ⟨gu, ou, hgu, xu⟩ := (HSU.out _ ht5).ix (q := k) (by rw [HN.out]; exact hkn)
            cases hgu
            have cu := xu _ (Touch.refl _ _)
            obtain ⟨b1, b2, b3⟩ := HUB.out k hkn
            have HK := Lib.hid (holdK w2 wr F b m p q (fun k => - u.getD k 0) k HLP.out HOK.out.nt HQ.out HHL.out.2.1 HHL.out.2.2 hkt b3)
            obtain ⟨y, hy⟩ : ∃ y, u.getD k 0 = y := ⟨_, rfl⟩
            have HK2 : Hid (Calls Tryz.prog 67 #[.pointer (some ⟨b, 0, none⟩), .int .i64 q, .int .i64 (k : Int), .int .i64 (-y)] wr fun e w' => e = .returned (.tuple #[]) ∧ LoopP w2 F b (m.moreK q (fun k => - u.getD k 0) (k + 1)) p w') := Lib.hid (by rw [← hy]; exact HK.out)
            rw [hy] at cu b1 b2
            have v1 : IntKind.i64.wrap (-y) = -y := IntWalk.i64_in _ (by omega)
            clear xu hy HK hp5 ht5 b3
            go_wp2_with fail
            refine HK2.out.mono ?_
            rintro e w6 ⟨rfl, hl6⟩
            have HL6 := Lib.hid hl6
            clear hl6 cu v1
            go_wp2_with fail
            go_roundw
            case rel => exact ⟨k + 1, by omega, by go_num, HL6.out⟩
            case measure => simp [intOf]; omega
          · have hltk : ¬ (k : Int) < (N : Int) := by omega
            obtain rfl : k = N := by omega
            have hlb : LoopP w2 F b (m.back q u) p wr := by
              rw [← moreK_back m q u (by rw [HHL.out.2.1]; exact HHL.out.1), HHL.out.2.1, ← HHL.out.1, HN.out]
              exact hl
            have HSC := Lib.hid (scan_s w wr F b (m.back q u) (hlb.paS (HOK.out.back HQ.out HB.out HC.out) HPD.out) ((Fr.same HT2.out HS.out.lt).trans (hlb.fr HS.out.bF (HP.out.fw _ (by simp [PaP.W])) (HP.out.same HT2.out).lt)))
            clear hl hlb
            go_wp2_with fail
            refine HSC.out.mono ?_
            rintro e w7 ⟨v7, rfl, hs7⟩
            have HF : Hid (ResP w F b (m.cGive q u).1 (m.cGive q u).2.1 (.int .i64 (m.cGive q u).2.2) (.returned (.tuple #[v7, .int .i64 0])) w7) := Lib.hid (by
              rw [HCG.out]
              obtain ⟨F', f1, f2, f3, f4⟩ := hs7
              exact ⟨v7, F', rfl, f1, f2, f3, f4⟩)
            clear hs7
            go_wp2_with fail
            go_ret2
            exact HF.out
  · rw [dF hq] at H1
    have HF : Hid (ResP w F b (m.cGive q u).1 (m.cGive q u).2.1 (.int .i64 (m.cGive q u).2.2) (.returned (.tuple #[.slice none 0 0, .int .i64 3])) w) := Lib.hid (by
      rw [show m.cGive q u = (m, [], 3) from by unfold Am.cGive; rw [if_pos hq]]
      exact ResP.no _ HS.out (Touch.refl _ _))
    clear hq
    go_enter Tryz.func36, Tryz.ntmps36
    go_wp2_with fail
    refine H1.out.mono ?_
    rintro e w1 ⟨rfl, rfl⟩
    go_wp2_with fail
    go_ret2
    exact HF.out
end Go.Proofs.YticglfmmjgnicaaGreat

set_option linter.unusedVariables false
namespace Go.Proofs.YticglfmmjgnicaaGreat
open Go Go.RowKit

theorem subW_self (h : List Int) (k : Nat) : (subW h h).getD k 0 = 0 := by
  by_cases hk : k < h.length
  · rw [subW_get _ _ _ hk]; omega
  · rw [getD_over (by rw [subW_length]; omega)]
theorem len_filter_ne {q : Int} : ∀ {l : List Int}, l.Nodup → q ∈ l → (l.filter fun p => decide (p ≠ q)).length = l.length - 1
  | [], _, h => by simp at h
  | a :: l, hn, h => by
    rw [List.nodup_cons] at hn
    by_cases e : a = q
    · subst e
      rw [List.filter_cons_of_neg (by simp), List.filter_eq_self.2 (fun b hb => by simp; intro e; exact hn.1 (e ▸ hb))]
      simp
    · have hq : q ∈ l := by rcases List.mem_cons.1 h with h | h; exact absurd h.symm e; exact h
      rw [List.filter_cons_of_pos (by simp [e]), List.length_cons, len_filter_ne hn.2 hq, List.length_cons]
      have : 0 < l.length := List.length_pos_of_mem hq
      omega
theorem Pb.quit {w w5 w9 : World} {F : List Nat} {b base : Nat} {m : Am} {p : PaP} {q : Int} {v' : Value} {pu' : Nat → Value} (h : Pb w F b (m.back q (m.held q)) p) (ok : m.Ok) (hq : q ∈ m.ps) (e : p.pd = m.pend)
    (hA : Av w5 base 58 2 v' (m.quit q).pend.length (askF (m.quit q).pend pu')) (t5 : Touch p.pv.ownBlock.toList w w5) (ho : ∀ k, v'.ownBlock = some k → p.pv.ownBlock = some k)
    (hi : ∀ a, a < (m.quit q).pend.length → ∃ a0, a0 < m.pend.length ∧ pu' a = p.pu a0 ∧ (m.quit q).pend.getD a (0, []) = m.pend.getD a0 (0, []))
    (hm : Mp (Value.int .i64) w9 p.bc (dropM p.mc q) (m.ps.length - 1)) (t9 : Touch [p.bc] (w5.setCell ⟨b, 4, none⟩ v') w9) :
    Pb (w9.setCell ⟨b, 5, none⟩ (.pointer none)) F b (m.quit q) { p with pv := v', pu := pu', pd := (m.quit q).pend, mc := dropM p.mc q, sv := .pointer none } := by
  have hnd := h.nd
  unfold PaP.W at hnd
  have hWe : p.W b = [b, p.bc, p.bh] ++ p.pv.ownBlock.toList := rfl
  have n1 : b ≠ p.bc ∧ b ≠ p.bh ∧ p.bc ≠ p.bh := by simp at hnd; exact ⟨hnd.1.1, hnd.1.2.1, hnd.2.1.1⟩
  have n2 : ∀ k, p.pv.ownBlock = some k → b ≠ k ∧ p.bc ≠ k ∧ p.bh ≠ k := fun k hk => by simp [hk] at hnd; exact ⟨hnd.1.2.2, hnd.2.1.2, hnd.2.2⟩
  have n3 : b ∉ p.pv.ownBlock.toList := fun hm => (n2 b (Option.mem_toList.1 hm)).1 rfl
  have n4 : p.bc ∉ p.pv.ownBlock.toList := fun hm => (n2 _ (Option.mem_toList.1 hm)).2.1 rfl
  have n5 : p.bh ∉ p.pv.ownBlock.toList := fun hm => (n2 _ (Option.mem_toList.1 hm)).2.2 rfl
  have t6 : Touch [b] w5 (w5.setCell ⟨b, 4, none⟩ v') := (Touch.refl [b] w5).setCell (by simp) _
  have t10 : Touch [b] w9 (w9.setCell ⟨b, 5, none⟩ (.pointer none)) := (Touch.refl [b] w9).setCell (by simp) _
  have ta : Touch (p.W b) w (w9.setCell ⟨b, 5, none⟩ (.pointer none)) := by
    rw [hWe]
    refine ((t5.mono (fun k hk => ?_)).trans (t6.mono (fun k hk => ?_))).trans ((t9.mono (fun k hk => ?_)).trans (t10.mono (fun k hk => ?_)))
    · exact List.mem_append.2 (.inr hk)
    · simp at hk; simp [hk]
    · simp at hk; simp [hk]
    · simp at hk; simp [hk]
  have hT : ∀ k, k ∈ p.W b → k ∈ F → k ∈ p.W b := fun k h _ => h
  have hF : ∀ k, k ∈ F → k ∈ F := fun k h => h
  obtain ⟨p', hp'⟩ : ∃ p' : PaP, p' = { p with pv := v', pu := pu', pd := (m.quit q).pend, mc := dropM p.mc q, sv := .pointer none } := ⟨_, rfl⟩
  have hWs : ∀ k, k ∈ p'.W b → k ∈ p.W b := fun k hk => by
    rw [hp'] at hk
    rw [hWe]
    have hk : k ∈ [b, p.bc, p.bh] ++ v'.ownBlock.toList := hk
    rcases List.mem_append.1 hk with hk | hk
    · exact List.mem_append.2 (.inl hk)
    · exact List.mem_append.2 (.inr (Option.mem_toList.2 (ho k (Option.mem_toList.1 hk))))
  have hW : ∀ k, k ∈ F → k ∈ p'.W b → k ∈ p.W b := fun k _ hk => hWs k hk
  have vown : ∀ k, v'.ownBlock = some k → k ∉ [b] ∧ k ∉ [p.bc] := fun k hk => by
    have := n2 k (ho k hk)
    simp
    exact ⟨Ne.symm this.1, Ne.symm this.2.1⟩
  have hob : Blk (w9.setCell ⟨b, 5, none⟩ (.pointer none)) b #[p.tv, .bool m.clm, .map (some p.bc), .map (some p.bh), v', .pointer none] 73 :=
    (((h.obj.touch t5 n3).set 4 v').touch t9 (by simpa using n1.1)).set 5 (.pointer none)
  rw [← hp']
  have hmh : Mp shK (w9.setCell ⟨b, 5, none⟩ (.pointer none)) p.bh p.mh p.nh := (((h.mh.touch t5 n5).touch t6 (by simpa using Ne.symm n1.2.1)).touch t9 (by simpa using Ne.symm n1.2.2)).touch t10 (by simpa using Ne.symm n1.2.1)
  have hqp : ∀ r, r ∈ (m.quit q).ps ↔ r ∈ m.ps ∧ r ≠ q := fun r => by
    show r ∈ m.ps.filter (fun p => decide (p ≠ q)) ↔ _
    rw [List.mem_filter]; simp
  have hlen : (m.quit q).ps.length = m.ps.length - 1 := len_filter_ne (rise_nd ok.rise) hq
  refine ⟨by rw [hp']; exact hob, fun k hk => Nat.lt_of_lt_of_le (h.lt k hk) ta.size, fun k hk => h.fw k (hWs k hk), ?_, by rw [hp']; rw [← hp']; exact (by rw [hp'] at hW ⊢; exact h.tot.to ta hT hF hW), by rw [hlen, hp']; exact hm.touch t10 (by simpa using Ne.symm n1.1), fun r => ⟨fun hr => ?_, fun hr => ?_⟩, by rw [hp']; exact hmh, fun k => ?_, ⟨base, ?_⟩, fun i hi2 => ?_⟩
  · rw [hp']
    show ([b, p.bc, p.bh] ++ v'.ownBlock.toList).Nodup
    cases hv : v'.ownBlock with
    | none => simp [n1]
    | some k =>
      have := ho k hv
      rw [this] at hnd
      exact hnd
  · obtain ⟨hr1, hr2⟩ := (hqp r).1 hr
    obtain ⟨v, h3, h4⟩ := (h.mcv r).1 hr1
    refine ⟨v, by rw [hp']; simp [dropM, hr2]; exact h3, h4.to ta hT hF hW⟩
  · rw [hp']
    show dropM p.mc q r = none
    by_cases e : r = q
    · simp [dropM, e]
    · rw [dropM, if_neg e]
      exact (h.mcv r).2 (fun hm => hr ((hqp r).2 ⟨hm, e⟩))
  · have h0 := h.mhv k
    rw [hp']
    show p.mh k = if k.1.1 ∈ (m.quit q).ps ∧ 0 ≤ k.1.2 ∧ k.1.2 < (m.tot.length : Int) ∧ (m.held k.1.1).getD k.1.2.toNat 0 ≠ 0 then _ else _
    rw [h0]
    show (if k.1.1 ∈ m.ps ∧ 0 ≤ k.1.2 ∧ k.1.2 < (m.tot.length : Int) ∧ (updF m.held q (subW (m.held q) (m.held q)) k.1.1).getD k.1.2.toNat 0 ≠ 0 then some (Value.int .i64 ((updF m.held q (subW (m.held q) (m.held q)) k.1.1).getD k.1.2.toNat 0)) else none) = _
    by_cases e : k.1.1 = q
    · rw [if_neg (by
        rintro ⟨_, _, _, h⟩
        rw [e, updF_at, subW_self] at h
        exact h rfl), if_neg (fun h => ((hqp _).1 h.1).2 e)]
    · rw [updF_ne _ _ e]
      by_cases hc : k.1.1 ∈ m.ps ∧ 0 ≤ k.1.2 ∧ k.1.2 < (m.tot.length : Int) ∧ (m.held k.1.1).getD k.1.2.toNat 0 ≠ 0
      · rw [if_pos hc, if_pos ⟨(hqp _).2 ⟨hc.1, e⟩, hc.2⟩]; rfl
      · rw [if_neg hc, if_neg (fun h => hc ⟨((hqp _).1 h.1).1, h.2⟩)]
  · rw [hp']
    exact ((hA.touch t6 (fun k hk => (vown k hk).1)).touch t9 (fun k hk => (vown k hk).2)).touch t10 (fun k hk => (vown k hk).1)
  · have hi2 : i < (m.quit q).pend.length := by rw [hp'] at hi2; exact hi2
    obtain ⟨a0, x1, x2, x3⟩ := hi i hi2
    have := (h.pu a0 (by rw [e]; exact x1)).to (W' := p'.W b) ta hT hF hW
    rw [e] at this
    rw [show p'.pu i = p.pu a0 from by rw [hp']; exact x2, show p'.pd = (m.quit q).pend from by rw [hp'], x3]
    exact this
theorem im_form {w : World} {F W : List Nat} {v : Value} {xs : List Int} (h : Im w F W v xs) : ∃ a n c, v = .slice a n c := by
  obtain ⟨a, c, e⟩ := h.1.form
  exact ⟨a, _, c, e⟩
theorem Pb.forQ {w : World} {F : List Nat} {b : Nat} {m : Am} {p : PaP} (h : Pb w F b m p) : ForQ p.pd p.pu := fun i hi => im_form (h.pu i hi)
set_option maxRecDepth 100000 in
set_option maxHeartbeats 16000000 in
theorem leave_any (w : World) (F : List Nat) (b : Nat) (m : Am) (q : Int) (h : PaS w F b m) :
    Calls Tryz.prog 37 #[.pointer (some ⟨b, 0, none⟩), .int .i64 q] w (ResP w F b (m.cLeave q).1 (m.cLeave q).2.1 (.bool (m.cLeave q).2.2)) := by
  have ta : Touch [] w (w.alloc (.cells #[.int .i64 q] 3)) := (Touch.refl _ _).alloc _
  have HTA := Lib.hid ta
  have HS0 := Lib.hid h
  have HS := Lib.hid (h.same ta)
  obtain ⟨ok, p, hp, hpd⟩ := h.same ta
  have HOK := Lib.hid ok
  have HP := Lib.hid hp
  have HPD := Lib.hid hpd
  have bq : Blk (w.alloc (.cells #[.int .i64 q] 3)) w.heap.size #[.int .i64 q] 3 := Blk.new rfl
  have HBQ : Hid (∀ T w', Touch T (w.alloc (.cells #[.int .i64 q] 3)) w' → (∀ k, k ∈ T → k ∈ F) → w'.cell? ⟨w.heap.size, 0, none⟩ = some (.int .i64 q)) := Lib.hid (fun T w' ht hT => (bq.touch ht (fun hm => by have := h.lt _ (hT _ hm); omega)).cell (i := 0) rfl)
  have x0 := HBQ.out [] _ (Touch.refl _ _) (by simp)
  have H1 := Lib.hid (isIn_any _ F b m p q hp.toPb)
  by_cases hq : q ∈ m.ps
  · rw [dT hq] at H1
    have HQ := Lib.hid hq
    have hhl := ok.hl q hq
    have hqi : InI q := by have := ok.pos q hq; unfold InI; omega
    have H3 := Lib.hid (held_in _ F b m p q hp.toPb ok.nt hq hhl hqi)
    have HHL := Lib.hid (And.intro hhl hqi)
    have hcg : m.cLeave q = ((m.quit q).scan.1, (m.quit q).scan.2, true) := by unfold Am.cLeave; rw [if_neg (by simpa using hq)]
    have HCG := Lib.hid hcg
    obtain ⟨N, hN⟩ : ∃ N, (m.held q).length = N := ⟨_, rfl⟩
    have HN := Lib.hid hN
    have hn6 : N ≤ 6 := by have := ok.nt; omega
    clear h ta ok hp hpd bq hq hhl hqi hcg hN
    go_enter Tryz.func37, Tryz.ntmps37
    go_wp2_with fail
    refine H1.out.mono ?_
    rintro e w1 ⟨rfl, rfl⟩
    go_wp2_with fail
    refine H3.out.mono ?_
    rintro e w2 ⟨hv1, rfl, hq1, ht1⟩
    obtain ⟨ha, hc, hvf⟩ := hq1.form
    rw [HN.out] at hvf
    subst hvf
    have HT2 := Lib.hid ht1
    have HQV := Lib.hid hq1
    have HUB : Hid (∀ k, k < N → 0 ≤ (m.held q).getD k 0 ∧ (m.held q).getD k 0 ≤ 1000 ∧ InI ((m.held q).getD k 0 + - (m.held q).getD k 0)) := Lib.hid (fun k hk => by
      have h0 : k < m.tot.length := by have := HHL.out.1; have := HN.out; omega
      have h2 := HOK.out.le HQ.out h0
      have h3 := HOK.out.tb k h0
      have h4 := HOK.out.av k h0
      refine ⟨h2.1, by omega, ?_⟩
      unfold InI
      omega)
    have HL0 : Hid (LoopP w2 F b (m.moreK q (fun k => - (m.held q).getD k 0) 0) p w2) := Lib.hid (by rw [moreK_zero]; exact ⟨p.sv, p.mh, p.nh, HP.out.same HT2.out, Touch.refl _ _⟩)
    have HBF : Hid (∀ k, k ∈ [b, p.bh] → k ∈ F) := Lib.hid (fun k hk => by
      simp at hk
      rcases hk with rfl | rfl
      · exact HP.out.fw _ (by simp [PaP.W])
      · exact HP.out.fw _ (by simp [PaP.W]))
    have HSU : Hid (∀ w', Touch [b, p.bh] w2 w' → Sl w' (.slice ha N hc) (m.held q)) := Lib.hid (fun w' ht => HQV.out.sl.touch ht (fun k hk hm => by
      have h1 := (HQV.out.own k hk).1
      have h2 := HP.out.lt _ (HBF.out k hm)
      omega))
    have HX : Hid (∀ w', Touch [b, p.bh] w2 w' → w'.cell? ⟨w.heap.size, 0, none⟩ = some (.int .i64 q)) := Lib.hid (fun w' ht => HBQ.out [b, p.bh] w' ((HT2.out.mono (by simp)).trans ht) HBF.out)
    clear hq1 ht1 x0
    go_wp2_with fail
    go_loopw [16] (fun kv wr => ∃ k : Nat, k ≤ N ∧ kv = .int .i64 (k : Int) ∧ LoopP w2 F b (m.moreK q (fun k => - (m.held q).getD k 0) k) p wr) (fun kv _ => N + 1 - (intOf kv).toNat)
    case atStart => exact ⟨0, by omega, rfl, HL0.out⟩
    case round =>
      clear HL0
      obtain ⟨k, hk, rfl, hl⟩ := hrel
      have HLP := Lib.hid hl
      obtain ⟨v5, mh5, nh5, hp5, ht5⟩ := hl
      have ht5 : Touch [b, p.bh] w2 wr := ht5
      have xb := HX.out wr ht5
      by_cases hkn : k < N
      · have hltk : (k : Int) < (N : Int) := by omega
        have hkt : k < m.tot.length := by have := HHL.out.1; have := HN.out; omega
        obtain ⟨gu, ou, hgu, xu⟩ := (HSU.out _ ht5).ix (q := k) (by rw [HN.out]; exact hkn)
        cases hgu
        have cu := xu _ (Touch.refl _ _)
        obtain ⟨b1, b2, b3⟩ := HUB.out k hkn
        have HK := Lib.hid (holdK w2 wr F b m p q (fun k => - (m.held q).getD k 0) k HLP.out HOK.out.nt HQ.out HHL.out.1 HHL.out.2 hkt b3)
        obtain ⟨y, hy⟩ : ∃ y, (m.held q).getD k 0 = y := ⟨_, rfl⟩
        have HK2 : Hid (Calls Tryz.prog 67 #[.pointer (some ⟨b, 0, none⟩), .int .i64 q, .int .i64 (k : Int), .int .i64 (-y)] wr fun e w' => e = .returned (.tuple #[]) ∧ LoopP w2 F b (m.moreK q (fun k => - (m.held q).getD k 0) (k + 1)) p w') := Lib.hid (by rw [← hy]; exact HK.out)
        rw [hy] at cu b1 b2
        have v1 : IntKind.i64.wrap (-y) = -y := IntWalk.i64_in _ (by omega)
        clear xu hy HK hp5 ht5 b3
        go_wp2_with fail
        refine HK2.out.mono ?_
        rintro e w6 ⟨rfl, hl6⟩
        have HL6 := Lib.hid hl6
        clear hl6 cu v1 xb
        go_wp2_with fail
        go_roundw
        case rel => exact ⟨k + 1, by omega, by go_num, HL6.out⟩
        case measure => simp [intOf]; omega
      · have hltk : ¬ (k : Int) < (N : Int) := by omega
        obtain rfl : k = N := by omega
        have hlb : LoopP w2 F b (m.back q (m.held q)) p wr := by
          rw [← moreK_back m q (m.held q) rfl, HN.out]
          exact HLP.out
        clear hp5 HLP
        obtain ⟨v6, mh6, nh6, hp6, _⟩ := hlb
        have hp6 : Pa wr F b (m.back q (m.held q)) { p with sv := v6, mh := mh6, nh := nh6 } := hp6
        have HP6 := Lib.hid hp6
        have HT6 := Lib.hid ht5
        obtain ⟨base, hpe⟩ := hp6.pend
        have hpe : Av wr base 58 2 p.pv p.pd.length (askF p.pd p.pu) := hpe
        have hfq : ForQ p.pd p.pu := hp6.toPb.forQ
        have hpl : m.pend.length ≤ 32 := pend_few HOK.out
        have hkb : w.heap.size < wr.heap.size := by
          have h1 := HT2.out.size
          have h2 := ht5.size
          simp at h1
          omega
        have hpo : p.pv.ownBlock ≠ some w.heap.size := fun e => by
          have h1 := HP.out.fw w.heap.size (by simp [PaP.W, e])
          have := HS0.out.lt _ h1
          omega
        rw [HPD.out] at hpe hfq
        have HD := Lib.hid (delf_any 69 w.heap.size q (leave_isQ _ q) (enters2 _ (by kernel_rfl)) wr base p.pv m.pend p.pu hpe hfq (by omega) xb hkb hpo)
        have c4 : wr.cell? ⟨b, 4, none⟩ = some p.pv := hp6.blk.cell (i := 4) rfl
        obtain ⟨qa, qn, qc, hqv⟩ : ∃ a n c, p.pv = .slice a n c := by obtain ⟨a, c, e, _⟩ := hpe.form; exact ⟨a, _, c, e⟩
        have HQV2 := Lib.hid hqv
        have HKB := Lib.hid (And.intro hkb hpo)
        rw [hqv] at HD c4
        clear hpe hfq hpl hkb hpo hqv hp6 ht5
        go_wp2_with fail
        refine HD.out.mono ?_
        rintro e w5 ⟨v', pu', rfl, hA, t5, ho, hi⟩
        obtain ⟨va, vn, vc, hvf⟩ : ∃ a n c, v' = .slice a n c := by obtain ⟨a, c, e, _⟩ := hA.form; exact ⟨a, _, c, e⟩
        subst hvf
        have hnd := HP6.out.nd
        have hWF : ∀ k, p.pv.ownBlock = some k → k ∈ F := fun k hk => HP6.out.fw k (by simp [PaP.W, hk])
        have hbn : b ∉ p.pv.ownBlock.toList := by
          intro hm
          simp [PaP.W, Option.mem_toList.1 hm] at hnd
        have hbc : p.bc ∉ p.pv.ownBlock.toList := by
          intro hm
          simp [PaP.W, Option.mem_toList.1 hm] at hnd
        have hbb : b ≠ p.bc := by simp [PaP.W] at hnd; exact hnd.1.1
        rw [← HQV2.out] at t5 ho
        have hob := HP6.out.blk.touch t5 hbn
        have c4 := hob.cell (i := 4) rfl
        have f4 := hob.free 4
        have t6 : Touch [b] w5 (w5.setCell ⟨b, 4, none⟩ (.slice va vn vc)) := (Touch.refl [b] w5).setCell (by simp) _
        have hob6 := hob.set 4 (.slice va vn vc)
        have d2 : (World.drew (w5.setCell ⟨b, 4, none⟩ (.slice va vn vc))).cell? ⟨b, 2, none⟩ = some (.map (some p.bc)) := hob6.cell (i := 2) rfl
        have tall : Touch F wr (World.drew (w5.setCell ⟨b, 4, none⟩ (.slice va vn vc))) := ((t5.mono (fun k hk => hWF k (Option.mem_toList.1 hk))).trans (t6.mono (fun k hk => by simp at hk; rw [hk]; exact HS0.out.bF))).drew
        have dq : (World.drew (w5.setCell ⟨b, 4, none⟩ (.slice va vn vc))).cell? ⟨w.heap.size, 0, none⟩ = some (.int .i64 q) := HBQ.out F _ (((HT2.out.mono (by simp)).trans (HT6.out.mono HBF.out)).trans tall) (fun k h => h)
        have hmc : Mp (Value.int .i64) (World.drew (w5.setCell ⟨b, 4, none⟩ (.slice va vn vc))) p.bc p.mc m.ps.length := (show Mp (Value.int .i64) (w5.setCell ⟨b, 4, none⟩ (.slice va vn vc)) p.bc p.mc m.ps.length from (HP6.out.mc.touch t5 hbc).touch t6 (by simpa using Ne.symm hbb))
        obtain ⟨w9, hdel, m9, t9, _⟩ := Mp.drop intKey Tryz.underlying69 Tryz.underlying3 hmc q
        have hsome : (p.mc q).isSome = true := by
          obtain ⟨v, e, _⟩ := (HP.out.mcv q).1 HQ.out
          rw [e]; rfl
        rw [if_pos hsome] at m9
        have t9' : Touch [p.bc] (w5.setCell ⟨b, 4, none⟩ (.slice va vn vc)) w9 := ((Touch.refl _ _).drew).trans t9
        have hq9 := Pb.quit HP6.out.toPb HOK.out HQ.out HPD.out hA t5 ho hi m9 t9'
        have hob9 := hob6.touch t9' (by simpa using hbb)
        have c5 := hob9.cell (i := 5) rfl
        have f5 := hob9.free 5
        have tF : Touch F w (w9.setCell ⟨b, 5, none⟩ (.pointer none)) := (((((HTA.out.trans HT2.out).mono (by simp)).trans (HT6.out.mono HBF.out)).trans tall).trans (t9.mono (fun k hk => by simp at hk; rw [hk]; exact HP6.out.fw _ (by simp [PaP.W])))).setCell HS0.out.bF _
        have hfr : Fr F w F (w9.setCell ⟨b, 5, none⟩ (.pointer none)) := ⟨tF, fun k hk => .inl hk, fun k hk => Nat.lt_of_lt_of_le (HS0.out.lt k hk) tF.size⟩
        have HSC := Lib.hid (scan_s w (w9.setCell ⟨b, 5, none⟩ (.pointer none)) F b (m.quit q) ⟨HOK.out.quit HQ.out, _, ⟨hq9, .inl rfl⟩, rfl⟩ hfr)
        have HDL := Lib.hid hdel
        have HDC := Lib.hid (And.intro d2 dq)
        have HDC9 : Hid (w9.cell? ⟨b, 2, none⟩ = some (.map (some p.bc)) ∧ w9.cell? ⟨w.heap.size, 0, none⟩ = some (.int .i64 q)) := Lib.hid ⟨hob9.cell (i := 2) rfl, HBQ.out F _ ((((HT2.out.mono (by simp)).trans (HT6.out.mono HBF.out)).trans tall).trans (t9.mono (fun k hk => by simp at hk; rw [hk]; exact HP6.out.fw _ (by simp [PaP.W])))) (fun k h => h)⟩
        clear hA t5 ho hi hnd hWF hbn hbc hbb hob t6 hob6 tall hmc hdel m9 t9 hsome t9' hq9 hob9 tF hfr d2 dq
        go_wp2_with fail
        go_region_held_law (fun w' => w'.cell? ⟨b, 2, none⟩ = some (.map (some p.bc)) ∧ w'.cell? ⟨w.heap.size, 0, none⟩ = some (.int .i64 q)) (first | exact HDC.out | exact HDC9.out) (refine step_delete_run rfl _ _ _ _ rfl _ _ rfl rfl _ _ (HDL.out _) ?_)
        all_goals
          clear c4 f4
          go_wp2_with fail
          refine HSC.out.mono ?_
          rintro e w7 ⟨v7, rfl, hs7⟩
          have HF : Hid (ResP w F b (m.cLeave q).1 (m.cLeave q).2.1 (.bool (m.cLeave q).2.2) (.returned (.tuple #[v7, .bool true])) w7) := Lib.hid (by
            rw [HCG.out]
            obtain ⟨F', f1, f2, f3, f4⟩ := hs7
            exact ⟨v7, F', rfl, f1, f2, f3, f4⟩)
          clear hs7
          go_wp2_with fail
          go_ret2
          exact HF.out
  · rw [dF hq] at H1
    have HF : Hid (ResP w F b (m.cLeave q).1 (m.cLeave q).2.1 (.bool (m.cLeave q).2.2) (.returned (.tuple #[.slice none 0 0, .bool false])) (w.alloc (.cells #[.int .i64 q] 3))) := Lib.hid (by
      rw [show m.cLeave q = (m, [], false) from by unfold Am.cLeave; rw [if_pos hq]]
      exact ResP.no _ h ta)
    clear h ta ok hp hpd bq hq
    go_enter Tryz.func37, Tryz.ntmps37
    go_wp2_with fail
    refine H1.out.mono ?_
    rintro e w1 ⟨rfl, rfl⟩
    go_wp2_with fail
    go_ret2
    exact HF.out
end Go.Proofs.YticglfmmjgnicaaGreat

set_option linter.unusedVariables false
namespace Go.Proofs.YticglfmmjgnicaaGreat
open Go Go.RowKit

/-- One more ask, in memory: the list is longer, the field is written. -/
theorem PaS.wait {w w3 w4 : World} {F : List Nat} {b : Nat} {m : Am} {p : PaP} {q : Int} {u : List Int} {v' : Value} {qa : Option Addr} {qn qc : Nat} (h : Pa w F b m p) (ok : m.Ok) (e : p.pd = m.pend) (hw : (m.wait q u).Ok)
    (t3 : Touch [] w w3) (hq : Qu w3 w.heap.size 3 (.slice qa qn qc) (u.map (Value.int .i64)))
    (hA : Av w4 0 58 2 v' (m.pend ++ [(q, u)]).length (askF (m.pend ++ [(q, u)]) (fun i => if i = m.pend.length then .slice qa qn qc else p.pu i))) (t4 : Touch p.pv.ownBlock.toList w3 w4) (ho : ∀ k, v'.ownBlock = some k → p.pv.ownBlock = some k ∨ w3.heap.size ≤ k) :
    ∃ F', Fr F w F' (w4.setCell ⟨b, 4, none⟩ v') ∧ PaS (w4.setCell ⟨b, 4, none⟩ v') F' b (m.wait q u) := by
  have hnd := h.nd
  have hWe : p.W b = [b, p.bc, p.bh] ++ p.pv.ownBlock.toList := rfl
  unfold PaP.W at hnd
  have n1 : b ≠ p.bc ∧ b ≠ p.bh ∧ p.bc ≠ p.bh := by simp at hnd; exact ⟨hnd.1.1, hnd.1.2.1, hnd.2.1.1⟩
  have n2 : ∀ k, p.pv.ownBlock = some k → b ≠ k ∧ p.bc ≠ k ∧ p.bh ≠ k := fun k hk => by simp [hk] at hnd; exact ⟨hnd.1.2.2, hnd.2.1.2, hnd.2.2⟩
  have n3 : b ∉ p.pv.ownBlock.toList := fun hm => (n2 b (Option.mem_toList.1 hm)).1 rfl
  have n4 : p.bc ∉ p.pv.ownBlock.toList := fun hm => (n2 _ (Option.mem_toList.1 hm)).2.1 rfl
  have n5 : p.bh ∉ p.pv.ownBlock.toList := fun hm => (n2 _ (Option.mem_toList.1 hm)).2.2 rfl
  have t5 : Touch [b] w4 (w4.setCell ⟨b, 4, none⟩ v') := (Touch.refl [b] w4).setCell (by simp) _
  have ta : Touch (p.W b) w (w4.setCell ⟨b, 4, none⟩ v') := by
    rw [hWe]
    exact ((t3.mono (by simp)).trans (t4.mono (fun k hk => List.mem_append.2 (.inr hk)))).trans (t5.mono (fun k hk => by simp at hk; simp [hk]))
  have s3 := t3.size
  have s4 := t4.size
  have s5 := t5.size
  obtain ⟨F', hF'⟩ : ∃ F', F' = grow F w (w4.setCell ⟨b, 4, none⟩ v') := ⟨_, rfl⟩
  have hfr : Fr F w F' (w4.setCell ⟨b, 4, none⟩ v') := by
    rw [hF']
    exact grow_fr h.lt (ta.mono h.fw)
  have hF : ∀ k, k ∈ F → k ∈ F' := fun k hk => by rw [hF']; exact grow_mem.2 (.inl hk)
  have hT : ∀ k, k ∈ p.W b → k ∈ F → k ∈ p.W b := fun k h _ => h
  obtain ⟨p', hp'⟩ : ∃ p' : PaP, p' = { p with pv := v', pd := m.pend ++ [(q, u)], pu := fun i => if i = m.pend.length then .slice qa qn qc else p.pu i } := ⟨_, rfl⟩
  have hWp : p'.W b = [b, p.bc, p.bh] ++ v'.ownBlock.toList := by rw [hp']; rfl
  have vF : ∀ k, v'.ownBlock = some k → k ∈ F → p.pv.ownBlock = some k := fun k hk hm => by
    rcases ho k hk with e | e
    · exact e
    · have := h.lt k hm; omega
  have hW : ∀ k, k ∈ F → k ∈ p'.W b → k ∈ p.W b := fun k hk hm => by
    rw [hWp] at hm
    rw [hWe]
    rcases List.mem_append.1 hm with e | e
    · exact List.mem_append.2 (.inl e)
    · exact List.mem_append.2 (.inr (Option.mem_toList.2 (vF k (Option.mem_toList.1 e) hk)))
  have vlt : ∀ k, v'.ownBlock = some k → k < w4.heap.size := fun k hk => (hA.own k hk).2
  have vn : ∀ k, v'.ownBlock = some k → b ≠ k ∧ p.bc ≠ k ∧ p.bh ≠ k := fun k hk => by
    rcases ho k hk with e | e
    · exact n2 k e
    · have h1 := h.lt b (h.fw b (by simp [PaP.W]))
      have h2 := h.lt p.bc (h.fw p.bc (by simp [PaP.W]))
      have h3 := h.lt p.bh (h.fw p.bh (by simp [PaP.W]))
      exact ⟨by omega, by omega, by omega⟩
  have qn3 : ∀ k, (Value.slice qa qn qc).ownBlock = some k → w.heap.size ≤ k ∧ k < w3.heap.size := fun k hk => hq.own k hk
  have hob := (((h.obj.touch t3 (by simp)).touch t4 n3).set 4 v')
  refine ⟨F', hfr, hw, p', ⟨⟨by rw [hp']; exact hob, hfr.l, fun k hk => ?_, ?_, ?_, by rw [hp']; exact ((h.mc.touch t3 (by simp)).touch t4 n4).touch t5 (by simpa using Ne.symm n1.1), fun r => ⟨fun hr => ?_, fun hr => ?_⟩, by rw [hp']; exact ((h.mh.touch t3 (by simp)).touch t4 n5).touch t5 (by simpa using Ne.symm n1.2.1), by rw [hp']; exact h.mhv, ⟨0, ?_⟩, fun i hi => ?_⟩, ?_⟩, by rw [hp']; rfl⟩
  · rw [hWp] at hk
    rcases List.mem_append.1 hk with e | e
    · exact hF k (h.fw k (by rw [hWe]; exact List.mem_append.2 (.inl e)))
    · rcases ho k (Option.mem_toList.1 e) with e2 | e2
      · exact hF k (h.fw k (by rw [hWe]; exact List.mem_append.2 (.inr (Option.mem_toList.2 e2))))
      · rw [hF']
        have := vlt k (Option.mem_toList.1 e)
        exact grow_mem.2 (.inr ⟨by omega, by omega⟩)
  · rw [hWp]
    cases hv : v'.ownBlock with
    | none => simp [n1]
    | some k => have := vn k hv; simp [n1, this]
  · have := h.tot.to ta hT hF hW
    rw [hp'] at this ⊢
    exact this
  · obtain ⟨v, h3, h4⟩ := (h.mcv r).1 hr
    exact ⟨v, by rw [hp']; exact h3, h4.to ta hT hF hW⟩
  · rw [hp']; exact (h.mcv r).2 hr
  · rw [hp']
    exact hA.touch t5 (fun k hk hm => by simp at hm; exact (vn k hk).1 hm.symm)
  · rw [hp'] at hi
    have hi : i < (m.pend ++ [(q, u)]).length := hi
    rw [List.length_append, List.length_singleton] at hi
    rw [show p'.pd = m.pend ++ [(q, u)] from by rw [hp'], show p'.pu i = if i = m.pend.length then .slice qa qn qc else p.pu i from by rw [hp']]
    by_cases ei : i = m.pend.length
    · rw [if_pos ei, ei, show (m.pend ++ [(q, u)]).getD m.pend.length (0, []) = (q, u) from by rw [List.getD_eq_getElem?_getD, List.getElem?_append_right (Nat.le_refl _)]; simp]
      refine ⟨((hq.sl).touch t4 (fun k hk hm => ?_)).touch t5 (fun k hk hm => ?_), fun k hk => ⟨?_, fun hm => ?_⟩⟩
      · have h1 := (qn3 k hk).1
        have h2 := h.lt k (h.fw k (by rw [hWe]; exact List.mem_append.2 (.inr hm)))
        omega
      · have h1 := (qn3 k hk).1
        simp at hm
        have h2 := h.lt b (h.fw b (by simp [PaP.W]))
        omega
      · rw [hF']
        have := qn3 k hk
        exact grow_mem.2 (.inr ⟨this.1, by omega⟩)
      · have h1 := qn3 k hk
        rw [hWp] at hm
        rcases List.mem_append.1 hm with e | e
        · have h2 := h.lt k (h.fw k (by rw [hWe]; exact List.mem_append.2 (.inl e)))
          omega
        · rcases ho k (Option.mem_toList.1 e) with e2 | e2
          · have h2 := h.lt k (h.fw k (by rw [hWe]; exact List.mem_append.2 (.inr (Option.mem_toList.2 e2))))
            omega
          · omega
    · rw [if_neg ei, show (m.pend ++ [(q, u)]).getD i (0, []) = m.pend.getD i (0, []) from by rw [List.getD_eq_getElem?_getD, List.getD_eq_getElem?_getD, List.getElem?_append_left (by omega)]]
      have := (h.pu i (by rw [e]; omega)).to (F' := F') (W' := p'.W b) ta hT hF hW
      rw [e] at this
      exact this
  · rw [hp']
    rcases h.seen with e | ⟨s, pv, av, hv, cv, e, h1⟩
    · exact .inl e
    · refine .inr ⟨s, pv, av, hv, cv, e, ?_⟩
      have := h1.to (F' := F') (W' := p'.W b) ta hT hF hW
      rw [hp'] at this
      exact ⟨this.obj, this.f, this.ps, this.av, this.hs, this.cs⟩
end Go.Proofs.YticglfmmjgnicaaGreat

set_option linter.unusedVariables false
namespace Go.Proofs.YticglfmmjgnicaaGreat
open Go Go.RowKit

set_option maxRecDepth 100000 in
set_option maxHeartbeats 16000000 in
theorem ask_any (w : World) (F : List Nat) (b : Nat) (m : Am) (q : Int) (v : Value) (u : List Int) (h : PaS w F b m) (hu : Sl w v u) :
    Calls Tryz.prog 35 #[.pointer (some ⟨b, 0, none⟩), .int .i64 q, v] w (ResP w F b (m.cAsk q u).1 (m.cAsk q u).2.1 (.int .i64 (m.cAsk q u).2.2)) := by
  have ta : Touch [] w (w.alloc (.cells #[.int .i64 q] 3)) := (Touch.refl _ _).alloc _
  have HTA := Lib.hid ta
  have HS0 := Lib.hid h
  have HS := Lib.hid (h.same ta)
  obtain ⟨ok, p, hp, hpd⟩ := h.same ta
  have HOK := Lib.hid ok
  have HP := Lib.hid hp
  have HPD := Lib.hid hpd
  have HU := Lib.hid (hu.touch ta (fun _ _ => by simp))
  have bq : Blk (w.alloc (.cells #[.int .i64 q] 3)) w.heap.size #[.int .i64 q] 3 := Blk.new rfl
  have hbw : b < w.heap.size := h.lt b h.bF
  have HBQ : Hid (∀ w', Touch [] (w.alloc (.cells #[.int .i64 q] 3)) w' → w'.cell? ⟨w.heap.size, 0, none⟩ = some (.int .i64 q)) := Lib.hid (fun w' ht => (bq.touch ht (by simp)).cell (i := 0) rfl)
  have HBA : Hid (∀ w', Touch [] (w.alloc (.cells #[.int .i64 q] 3)) w' → w'.cell? ⟨b, 4, none⟩ = some p.pv ∧ w'.cell? ⟨b, 1, none⟩ = some (.bool m.clm) ∧ w'.frozen? ⟨b, 4, none⟩ = false) := Lib.hid (fun w' ht => ⟨(hp.blk.touch ht (by simp)).cell (i := 4) rfl, (hp.blk.touch ht (by simp)).cell (i := 1) rfl, (hp.blk.touch ht (by simp)).free 4⟩)
  have x0 := HBQ.out _ (Touch.refl _ _)
  obtain ⟨ua, uc, huf⟩ := hu.form
  subst huf
  obtain ⟨N, hN⟩ : ∃ N, u.length = N := ⟨_, rfl⟩
  have HN := Lib.hid hN
  have H1 := Lib.hid (isIn_any _ F b m p q hp.toPb)
  have H2 := Lib.hid (areUnits_any _ F b m p _ u hp.toPb ok.nt (hu.touch ta (fun _ _ => by simp)))
  rw [hN] at H2 HU ⊢
  by_cases hq : q ∈ m.ps
  · rw [dT hq] at H1
    have HQ := Lib.hid hq
    obtain ⟨B, hB⟩ : ∃ B, isB u m.tot.length = B := ⟨_, rfl⟩
    rw [hB] at H2
    have HB := Lib.hid hB
    clear h ta ok hp hpd hu bq hN hq hB
    go_enter Tryz.func35, Tryz.ntmps35
    go_wp2_with fail
    refine H1.out.mono ?_
    rintro e w1 ⟨rfl, rfl⟩
    go_wp2_with fail
    refine H2.out.mono ?_
    rintro e w1 ⟨rfl, rfl⟩
    cases B with
    | false =>
      have HF : Hid (ResP w F b (m.cAsk q u).1 (m.cAsk q u).2.1 (.int .i64 (m.cAsk q u).2.2) (.returned (.tuple #[.slice none 0 0, .int .i64 1])) (w.alloc (.cells #[.int .i64 q] 3))) := Lib.hid (by
        rw [show m.cAsk q u = (m, [], 1) from by unfold Am.cAsk; rw [if_neg (by simpa using HQ.out), if_pos HB.out]]
        exact ResP.no _ HS0.out HTA.out)
      go_wp2_with fail
      go_ret2
      exact HF.out
    | true =>
      obtain ⟨base, hpe⟩ := HP.out.pend
      have hfq : ForQ p.pd p.pu := HP.out.toPb.forQ
      rw [HPD.out] at hpe hfq
      have hpl : m.pend.length ≤ 32 := pend_few HOK.out
      obtain ⟨qa, qc, hqv⟩ : ∃ a c, p.pv = .slice a m.pend.length c := by obtain ⟨a, c, e, _⟩ := hpe.form; exact ⟨a, c, e⟩
      obtain ⟨L, hL⟩ : ∃ L, m.pend.length = L := ⟨_, rfl⟩
      have HCF := Lib.hid (ctf_any 64 w.heap.size q (ask_isQ _ q) (enters2 _ (by kernel_rfl)) _ base p.pv m.pend p.pu hpe hfq (by omega) (HBQ.out _ (Touch.refl _ _)) (by simp))
      have hc4 := (HBA.out _ (Touch.refl _ _)).1
      have HPE := Lib.hid hpe
      have HQV := Lib.hid hqv
      have HQL : Hid (p.pv = .slice qa L qc) := Lib.hid (by rw [← hL]; exact hqv)
      have HL := Lib.hid (And.intro hL hpl)
      rw [hqv, hL] at HCF hc4
      obtain ⟨D, hD⟩ : ∃ D, decide (q ∈ m.pend.map (·.1)) = D := ⟨_, rfl⟩
      have HD := Lib.hid hD
      rw [hD] at HCF
      clear hpe hfq hpl hqv hL hD
      go_wp2_with fail
      refine HCF.out.mono ?_
      rintro e w2 ⟨rfl, t2⟩
      have HT2 := Lib.hid t2
      clear t2 hc4
      cases D with
      | true =>
        have HF : Hid (ResP w F b (m.cAsk q u).1 (m.cAsk q u).2.1 (.int .i64 (m.cAsk q u).2.2) (.returned (.tuple #[.slice none 0 0, .int .i64 4])) w2) := Lib.hid (by
          rw [show m.cAsk q u = (m, [], 4) from by unfold Am.cAsk; rw [if_neg (by simpa using HQ.out), if_neg (by rw [HB.out]; simp), if_pos (by simpa using HD.out)]]
          exact ResP.no _ HS0.out (HTA.out.trans HT2.out))
        go_wp2_with fail
        go_ret2
        exact HF.out
      | false =>
        have hnd : q ∉ m.pend.map (·.1) := by simpa using HD.out
        have HND := Lib.hid hnd
        have c1 := (HBA.out _ HT2.out).2.1
        have y0 := HBQ.out _ HT2.out
        -- behind the claim's test, whatever way
        have HREST : Hid (∀ w3, Touch [] (w.alloc (.cells #[.int .i64 q] 3)) w3 → (m.clm = true → fitsB (addW (m.held q) u) (m.claim q) = true) → True) := Lib.hid (fun _ _ _ => trivial)
        obtain ⟨C, hC⟩ : ∃ C, fitsB (addW (m.held q) u) (m.claim q) = C := ⟨_, rfl⟩
        have HC := Lib.hid hC
        have HCV := Lib.hid (covers_any w2 F b m p q (.slice ua N uc) u (HP.out.same HT2.out).toPb HOK.out HQ.out (HU.out.touch HT2.out (fun _ _ => by simp)) HB.out)
        rw [hC] at HCV
        obtain ⟨cl, hcl⟩ : ∃ cl, m.clm = cl := ⟨_, rfl⟩
        have HCL := Lib.hid hcl
        rw [hcl] at c1
        clear hnd hC hcl
        cases cl with
        | true =>
          go_wp2_with fail
          refine HCV.out.mono ?_
          rintro e w3 ⟨rfl, t3⟩
          have HT3 := Lib.hid (HT2.out.trans t3)
          clear t3 c1 y0
          cases C with
          | false =>
            have HF : Hid (ResP w F b (m.cAsk q u).1 (m.cAsk q u).2.1 (.int .i64 (m.cAsk q u).2.2) (.returned (.tuple #[.slice none 0 0, .int .i64 35])) w3) := Lib.hid (by
              rw [show m.cAsk q u = (m, [], 35) from by unfold Am.cAsk; rw [if_neg (by simpa using HQ.out), if_neg (by rw [HB.out]; simp), if_neg HND.out, if_pos ⟨HCL.out, HC.out⟩]]
              exact ResP.no _ HS0.out (HTA.out.trans HT3.out))
            go_wp2_with fail
            go_ret2
            exact HF.out
          | true =>
            have hcg : m.cAsk q u = ((m.wait q u).scan.1, (m.wait q u).scan.2, 0) := by unfold Am.cAsk; rw [if_neg (by simpa using HQ.out), if_neg (by rw [HB.out]; simp), if_neg HND.out, if_neg (by rintro ⟨h1, h2⟩; rw [HC.out] at h2; cases h2)]
            have HCG := Lib.hid hcg
            have HWO : Hid (m.wait q u).Ok := Lib.hid (HOK.out.wait HQ.out HB.out HND.out (fun h => by exact HC.out))
            have HSU : Hid (Sl w3.drew (.slice ua N uc) u) := Lib.hid (HU.out.touch HT3.out.drew (fun _ _ => by simp))
            have HCN := Lib.hid (clone_any (.slice ua N uc) u w3.drew HSU.out (by have := (isB_iff.1 HB.out).1; have := HOK.out.nt; omega))
            have z4 : w3.drew.cell? ⟨b, 4, none⟩ = some (.slice qa L qc) := by rw [← HQL.out]; exact (HBA.out _ HT3.out.drew).1
            have zq : w3.drew.cell? ⟨w.heap.size, 0, none⟩ = some (.int .i64 q) := HBQ.out _ HT3.out.drew
            clear hcg
            go_wp2_with fail
            go_region_law (first
              | (refine step_append_run rfl _ _ _ _ rfl _ _ rfl rfl _ _ (HRN.out _) ?_)
              | (go_simp; go_at_call 40; refine HCN.out.mono ?_; rintro e w4 ⟨cv, rfl, hq4, t4⟩
                 obtain ⟨ca, cc, hcf⟩ := hq4.form
                 rw [HN.out] at hcf
                 subst hcf
                 have t34 : Touch [] w3 w4 := ((Touch.refl [] w3).drew).trans t4
                 obtain ⟨v', w5, hr, hA, hT, ho, a5, c5, hv5⟩ := av_app (wd := w4) (base := 0) (((HPE.out.mono (Nat.zero_le _)).touch (HT3.out.trans t34) (fun _ _ => by simp))) (Nat.zero_le _) (by have := HL.out; omega) q u ca N cc
                 have z4 : w4.cell? ⟨b, 4, none⟩ = some (.slice qa L qc) := by rw [← HQL.out]; exact (HBA.out _ (HT3.out.trans t34)).1
                 have zq : w4.cell? ⟨w.heap.size, 0, none⟩ = some (.int .i64 q) := HBQ.out _ (HT3.out.trans t34)
                 have z4a : (w4.alloc (.cells #[.int .i64 q, .slice ca N cc] 58)).cell? ⟨b, 4, none⟩ = some (.slice qa L qc) := by rw [← HQL.out]; exact (HBA.out _ ((HT3.out.trans t34).alloc _)).1
                 have hpb : b ∉ p.pv.ownBlock.toList := by
                   intro hm
                   have hnd := HP.out.nd
                   simp [PaP.W, Option.mem_toList.1 hm] at hnd
                 have hb5 := (HP.out.blk.touch (HT3.out.trans t34) (by simp)).touch hT hpb
                 have y4 := hb5.cell (i := 4) rfl
                 have g4 := hb5.free 4
                 obtain ⟨F', hfr, hps⟩ := PaS.wait (HP.out.same HT3.out) HOK.out HPD.out HWO.out t34 (hq4.mono (Nat.le_refl _)) hA hT ho
                 have hfr2 := (Fr.same (HTA.out.trans HT3.out) HS0.out.lt).trans hfr
                 rw [HQL.out] at hr
                 rw [hv5] at hr hps hfr2
                 have HRN := Lib.hid hr
                 have HSC := Lib.hid (scan_s w _ F' b (m.wait q u) hps hfr2)
                 clear hq4 t4 t34 hr hA hT ho hv5 hpb hb5 hfr hps hfr2))
            all_goals
              clear z4 zq z4a y4 g4
              go_wp2_with fail
              refine HSC.out.mono ?_
              rintro e w7 ⟨v7, rfl, hs7⟩
              have HF : Hid (ResP w F b (m.cAsk q u).1 (m.cAsk q u).2.1 (.int .i64 (m.cAsk q u).2.2) (.returned (.tuple #[v7, .int .i64 0])) w7) := Lib.hid (by
                rw [HCG.out]
                obtain ⟨F', f1, f2, f3, f4⟩ := hs7
                exact ⟨v7, F', rfl, f1, f2, f3, f4⟩)
              clear hs7
              go_wp2_with fail
              go_ret2
              exact HF.out
        | false =>
          have HT3 := HT2
          have hcg : m.cAsk q u = ((m.wait q u).scan.1, (m.wait q u).scan.2, 0) := by unfold Am.cAsk; rw [if_neg (by simpa using HQ.out), if_neg (by rw [HB.out]; simp), if_neg HND.out, if_neg (by rintro ⟨h1, h2⟩; rw [HCL.out] at h1; cases h1)]
          have HCG := Lib.hid hcg
          have HWO : Hid (m.wait q u).Ok := Lib.hid (HOK.out.wait HQ.out HB.out HND.out (fun h => by rw [HCL.out] at h; cases h))
          have HSU : Hid (Sl w2.drew (.slice ua N uc) u) := Lib.hid (HU.out.touch HT3.out.drew (fun _ _ => by simp))
          have HCN := Lib.hid (clone_any (.slice ua N uc) u w2.drew HSU.out (by have := (isB_iff.1 HB.out).1; have := HOK.out.nt; omega))
          have z4 : w2.drew.cell? ⟨b, 4, none⟩ = some (.slice qa L qc) := by rw [← HQL.out]; exact (HBA.out _ HT3.out.drew).1
          have zq : w2.drew.cell? ⟨w.heap.size, 0, none⟩ = some (.int .i64 q) := HBQ.out _ HT3.out.drew
          clear hcg
          go_wp2_with fail
          go_region_law (first
            | (refine step_append_run rfl _ _ _ _ rfl _ _ rfl rfl _ _ (HRN.out _) ?_)
            | (go_simp; go_at_call 40; refine HCN.out.mono ?_; rintro e w4 ⟨cv, rfl, hq4, t4⟩
               obtain ⟨ca, cc, hcf⟩ := hq4.form
               rw [HN.out] at hcf
               subst hcf
               have t34 : Touch [] w2 w4 := ((Touch.refl [] w2).drew).trans t4
               obtain ⟨v', w5, hr, hA, hT, ho, a5, c5, hv5⟩ := av_app (wd := w4) (base := 0) (((HPE.out.mono (Nat.zero_le _)).touch (HT3.out.trans t34) (fun _ _ => by simp))) (Nat.zero_le _) (by have := HL.out; omega) q u ca N cc
               have z4 : w4.cell? ⟨b, 4, none⟩ = some (.slice qa L qc) := by rw [← HQL.out]; exact (HBA.out _ (HT3.out.trans t34)).1
               have zq : w4.cell? ⟨w.heap.size, 0, none⟩ = some (.int .i64 q) := HBQ.out _ (HT3.out.trans t34)
               have z4a : (w4.alloc (.cells #[.int .i64 q, .slice ca N cc] 58)).cell? ⟨b, 4, none⟩ = some (.slice qa L qc) := by rw [← HQL.out]; exact (HBA.out _ ((HT3.out.trans t34).alloc _)).1
               have hpb : b ∉ p.pv.ownBlock.toList := by
                 intro hm
                 have hnd := HP.out.nd
                 simp [PaP.W, Option.mem_toList.1 hm] at hnd
               have hb5 := (HP.out.blk.touch (HT3.out.trans t34) (by simp)).touch hT hpb
               have y4 := hb5.cell (i := 4) rfl
               have g4 := hb5.free 4
               obtain ⟨F', hfr, hps⟩ := PaS.wait (HP.out.same HT3.out) HOK.out HPD.out HWO.out t34 (hq4.mono (Nat.le_refl _)) hA hT ho
               have hfr2 := (Fr.same (HTA.out.trans HT3.out) HS0.out.lt).trans hfr
               rw [HQL.out] at hr
               rw [hv5] at hr hps hfr2
               have HRN := Lib.hid hr
               have HSC := Lib.hid (scan_s w _ F' b (m.wait q u) hps hfr2)
               clear hq4 t4 t34 hr hA hT ho hv5 hpb hb5 hfr hps hfr2))
          all_goals
            clear z4 zq z4a y4 g4
            go_wp2_with fail
            refine HSC.out.mono ?_
            rintro e w7 ⟨v7, rfl, hs7⟩
            have HF : Hid (ResP w F b (m.cAsk q u).1 (m.cAsk q u).2.1 (.int .i64 (m.cAsk q u).2.2) (.returned (.tuple #[v7, .int .i64 0])) w7) := Lib.hid (by
              rw [HCG.out]
              obtain ⟨F', f1, f2, f3, f4⟩ := hs7
              exact ⟨v7, F', rfl, f1, f2, f3, f4⟩)
            clear hs7
            go_wp2_with fail
            go_ret2
            exact HF.out
  · rw [dF hq] at H1
    have HF : Hid (ResP w F b (m.cAsk q u).1 (m.cAsk q u).2.1 (.int .i64 (m.cAsk q u).2.2) (.returned (.tuple #[.slice none 0 0, .int .i64 3])) (w.alloc (.cells #[.int .i64 q] 3))) := Lib.hid (by
      rw [show m.cAsk q u = (m, [], 3) from by unfold Am.cAsk; rw [if_pos hq]]
      exact ResP.no _ h ta)
    clear h ta ok hp hpd hu bq hN hq
    go_enter Tryz.func35, Tryz.ntmps35
    go_wp2_with fail
    refine H1.out.mono ?_
    rintro e w1 ⟨rfl, rfl⟩
    go_wp2_with fail
    go_ret2
    exact HF.out
end Go.Proofs.YticglfmmjgnicaaGreat
