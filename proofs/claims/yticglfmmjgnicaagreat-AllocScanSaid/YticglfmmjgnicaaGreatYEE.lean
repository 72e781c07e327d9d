/-
  Is it a state? The program's answer.
  The reduction's inner function.
  Who is stuck: the program's answer.
  Who is stuck: the reference's answer.
  The reference's Completes.
  The reference's Has: is it in the list?
  The reference's Order.
  Maps of the call's own over keys of whatever kind the reader reads: structs too.
  The program's allocator in memory.
  The program's allocator: who is in, whether units, what one holds, what one has claimed.
  Lists of lists that the call makes itself: a pair of numbers is appended.
-/
import Derived.Deep.Cut
import Derived.Laws.EntriesVeiled
import Derived.Maps.Keyed
import Derived.DeepKeys5
import Derived.Test.YticglfmmjgnicaaGreatYED
set_option linter.unusedVariables false
set_option linter.unusedSimpArgs false
namespace Go.Proofs.YticglfmmjgnicaaGreat
open Go.RowKit Go.BigFrame

set_option maxRecDepth 100000 in
set_option maxHeartbeats 8000000 in
theorem hmay_any (va vh vc : Value) (xs : List Int) (hs cs : List (List Int)) (b : Bool) (w : World) (ha : Sl w va xs) (hh : Rws w vh hs) (hc : Rws w vc cs) (hb : rowsB xs hs cs = b) :
    Calls Tryz.prog 56 #[va, vh, vc] w fun e w' => e = .returned (.bool b) ∧ w = w' := by
  have HB : Hid (rowsB xs hs cs = b) := Lib.hid hb
  have HD : Hid (rowsB xs hs cs = (!decide (6 < xs.length) && (isB xs xs.length && (decide (hs.length = cs.length) && (!decide (32 < hs.length) && (List.range hs.length).all (rrow xs.length hs cs)))))) := Lib.hid rfl
  clear hb
  have HA := Lib.hid ha
  have HH := Lib.hid hh
  have HC := Lib.hid hc
  obtain ⟨aa, ca, rfl⟩ := ha.form
  obtain ⟨ah, ch, rfl⟩ := hh.form
  obtain ⟨ac, cc, rfl⟩ := hc.form
  obtain ⟨L, hL⟩ : ∃ L, xs.length = L := ⟨_, rfl⟩
  obtain ⟨H, hH⟩ : ∃ L, hs.length = L := ⟨_, rfl⟩
  obtain ⟨C, hC⟩ : ∃ L, cs.length = L := ⟨_, rfl⟩
  have HL := Lib.hid hL
  have HHl := Lib.hid hH
  have HCl := Lib.hid hC
  rw [hL] at HA HD ⊢
  rw [hH] at HH HD ⊢
  rw [hC] at HC HD ⊢
  clear ha hh hc hL hH hC
  by_cases h1 : 6 < L
  · have q1 : decide (6 < (L : Int)) = true := dT (by omega)
    rw [dT h1] at HD
    have HE : Hid (b = false) := Lib.hid (by rw [← HB.out, HD.out]; rfl)
    clear h1
    go_enter Tryz.func56, Tryz.ntmps56
    go_wp2
    go_ret
    exact ⟨by rw [HE.out]; rfl, rfl⟩
  have q1 : decide (6 < (L : Int)) = false := dF (by omega)
  have HL6 : Hid (L ≤ 6) := Lib.hid (by omega)
  rw [dF h1, Bool.not_false, Bool.true_and] at HD
  clear h1
  obtain ⟨bi, hbi⟩ : ∃ bi, isB xs L = bi := ⟨_, rfl⟩
  have HI : Hid (isB xs (L : Int) = bi) := Lib.hid hbi
  rw [hbi] at HD
  clear hbi
  cases bi with
  | false =>
    have HE : Hid (b = false) := Lib.hid (by rw [← HB.out, HD.out]; rfl)
    go_enter Tryz.func56, Tryz.ntmps56
    go_wp2_with fail
    refine (is_w _ xs _ false _ HA.out (by have := HL6.out; omega) HI.out).mono ?_
    rintro e w' ⟨rfl, rfl⟩
    go_wp2
    go_ret
    exact ⟨by rw [HE.out]; rfl, rfl⟩
  | true =>
  rw [Bool.true_and] at HD
  by_cases h2 : H = C
  case neg =>
    have q2 : ((H : Int) != (C : Int)) = true := bneT (by omega)
    rw [dF h2] at HD
    have HE : Hid (b = false) := Lib.hid (by rw [← HB.out, HD.out]; rfl)
    clear h2
    go_enter Tryz.func56, Tryz.ntmps56
    go_wp2_with fail
    refine (is_w _ xs _ true _ HA.out (by have := HL6.out; omega) HI.out).mono ?_
    rintro e w' ⟨rfl, rfl⟩
    go_wp2
    go_ret
    exact ⟨by rw [HE.out]; rfl, rfl⟩
  subst h2
  have q2 : ((H : Int) != (H : Int)) = false := bneF rfl
  rw [dT rfl, Bool.true_and] at HD
  by_cases h3 : 32 < H
  · have q3 : decide (32 < (H : Int)) = true := dT (by omega)
    rw [dT h3] at HD
    have HE : Hid (b = false) := Lib.hid (by rw [← HB.out, HD.out]; rfl)
    clear h3
    go_enter Tryz.func56, Tryz.ntmps56
    go_wp2_with fail
    refine (is_w _ xs _ true _ HA.out (by have := HL6.out; omega) HI.out).mono ?_
    rintro e w' ⟨rfl, rfl⟩
    go_wp2
    go_ret
    exact ⟨by rw [HE.out]; rfl, rfl⟩
  have q3 : decide (32 < (H : Int)) = false := dF (by omega)
  have h32 : (H : Int) ≤ 32 := by omega
  rw [dF h3, Bool.not_false, Bool.true_and] at HD
  clear h3
  go_enter Tryz.func56, Tryz.ntmps56
  go_wp2_with fail
  refine (is_w _ xs _ true _ HA.out (by have := HL6.out; omega) HI.out).mono ?_
  rintro e w' ⟨rfl, rfl⟩
  go_wp2_with fail
  go_loopw [33] (fun i wr => ∃ j : Nat, j ≤ H ∧ i = .int .i64 j ∧ (∀ k, k < j → rrow L hs cs k = true) ∧ w = wr) (fun i _ => H + 1 - (intOf i).toNat)
  case atStart => exact ⟨0, by omega, rfl, fun k hk => by omega, rfl⟩
  case round =>
    obtain ⟨j, hj, rfl, hno, rfl⟩ := hrel
    have HNo := Lib.hid hno
    clear hno
    by_cases hjn : j < H
    · have hlt : (j : Int) < (H : Int) := by omega
      obtain ⟨gh, oh, rfl, rah, rch, sh, xh⟩ := HH.out.at (i := j) (by rw [HHl.out]; exact hjn)
      obtain ⟨gc, oc, rfl, rac, rcc, sc, xc⟩ := HC.out.at (i := j) (by rw [HCl.out]; exact hjn)
      have x1 := xh _ (Touch.refl _ _)
      have x2 := xc _ (Touch.refl _ _)
      have SH := Lib.hid sh
      have SC := Lib.hid sc
      have HR : Hid (rrow L hs cs j = (isB (rw_ hs j) L && isB (rw_ cs j) L)) := Lib.hid rfl
      clear sh sc xh xc
      obtain ⟨b1, hb1⟩ : ∃ b, isB (rw_ hs j) L = b := ⟨_, rfl⟩
      have H1 : Hid (isB (rw_ hs j) (L : Int) = b1) := Lib.hid hb1
      obtain ⟨b2, hb2⟩ : ∃ b, isB (rw_ cs j) L = b := ⟨_, rfl⟩
      have H2 : Hid (isB (rw_ cs j) (L : Int) = b2) := Lib.hid hb2
      rw [hb1, hb2] at HR
      clear hb1 hb2
      cases b1 with
      | false =>
        have HE : Hid (b = false) := Lib.hid (by rw [← HB.out, HD.out, List.all_eq_false]; exact ⟨j, by simpa using hjn, by rw [HR.out]; simp⟩)
        go_wp2_with fail
        refine (is_w _ (rw_ hs j) _ false _ SH.out (by have := HL6.out; omega) H1.out).mono ?_
        rintro e w' ⟨rfl, rfl⟩
        go_wp2
        go_ret
        exact ⟨by rw [HE.out]; rfl, rfl⟩
      | true =>
      cases b2 with
      | false =>
        have HE : Hid (b = false) := Lib.hid (by rw [← HB.out, HD.out, List.all_eq_false]; exact ⟨j, by simpa using hjn, by rw [HR.out]; simp⟩)
        go_wp2_with fail
        refine (is_w _ (rw_ hs j) _ true _ SH.out (by have := HL6.out; omega) H1.out).mono ?_
        rintro e w' ⟨rfl, rfl⟩
        go_wp2_with fail
        refine (is_w _ (rw_ cs j) _ false _ SC.out (by have := HL6.out; omega) H2.out).mono ?_
        rintro e w' ⟨rfl, rfl⟩
        go_wp2
        go_ret
        exact ⟨by rw [HE.out]; rfl, rfl⟩
      | true =>
        go_wp2_with fail
        refine (is_w _ (rw_ hs j) _ true _ SH.out (by have := HL6.out; omega) H1.out).mono ?_
        rintro e w' ⟨rfl, rfl⟩
        go_wp2_with fail
        refine (is_w _ (rw_ cs j) _ true _ SC.out (by have := HL6.out; omega) H2.out).mono ?_
        rintro e w' ⟨rfl, rfl⟩
        go_wp2
        go_roundw
        case rel =>
          refine ⟨j + 1, by omega, by go_num, fun k hk => ?_, trivial⟩
          by_cases e : k = j
          · subst e; rw [HR.out]; rfl
          · exact HNo.out k (by omega)
        case measure => simp [intOf]; omega
    · have hlt : ¬ (j : Int) < (H : Int) := by omega
      have HE : Hid (b = true) := Lib.hid (by rw [← HB.out, HD.out, List.all_eq_true]; exact fun k hk => HNo.out k (by have := List.mem_range.1 hk; omega))
      go_wp2
      go_ret
      exact ⟨by rw [HE.out]; rfl, rfl⟩

end Go.Proofs.YticglfmmjgnicaaGreat

set_option linter.unusedVariables false
namespace Go.Proofs.YticglfmmjgnicaaGreat
open Go.RowKit Go.BigFrame

theorem isB_at' {xs : List Int} {n k : Nat} (h : isB xs n = true) (hk : k < n) : 0 ≤ xs.getD k 0 ∧ xs.getD k 0 ≤ 1000 := by
  have hl := isB_len h
  unfold isB at h
  rw [Bool.and_eq_true] at h
  exact mayB_of (all_at h.2 (by omega))
structure RMay (xs : List Int) (hs qs : List (List Int)) : Prop where
  l : xs.length ≤ 6
  x : ∀ k, k < xs.length → 0 ≤ xs.getD k 0 ∧ xs.getD k 0 ≤ 1000
  e : hs.length = qs.length
  m : hs.length ≤ 32
  h : ∀ i : Int, 0 ≤ i → i < hs.length → (rw_ hs i.toNat).length = xs.length ∧ ∀ k, k < xs.length → 0 ≤ (rw_ hs i.toNat).getD k 0 ∧ (rw_ hs i.toNat).getD k 0 ≤ 1000
  q : ∀ i : Int, 0 ≤ i → i < hs.length → (rw_ qs i.toNat).length = xs.length
theorem rmay_of {xs : List Int} {hs qs : List (List Int)} (h : rowsB xs hs qs = true) : RMay xs hs qs := by
  obtain ⟨h1, h2, h3, h4, h5⟩ := rows_iff.1 h
  refine ⟨h1, fun k hk => mayB_of (all_at h2 hk), h3, h4, fun i h0 hi => ?_, fun i h0 hi => ?_⟩
  · have hr := h5 i.toNat (by omega)
    have hl := rrow_len hr
    unfold rrow at hr
    rw [Bool.and_eq_true] at hr
    exact ⟨hl.1, fun k hk => isB_at' hr.1 hk⟩
  · exact (rrow_len (h5 i.toNat (by omega))).2
theorem RMay.work {xs : List Int} {hs qs : List (List Int)} (h : RMay xs hs qs) {out : List Int} (ho : ∀ i, i ∈ out → 0 ≤ i ∧ i < hs.length) (hl : out.length ≤ 32) (k : Nat) (hk : k < xs.length) : 0 ≤ (workL xs hs out).getD k 0 ∧ (workL xs hs out).getD k 0 ≤ 1000000 := by
  have := workL_bd (n := 0) (fun k hk => h.x k hk) (fun i hi k hk => (h.h i (ho i hi).1 (ho i hi).2).2 k hk) k hk
  omega
/-- The blocks of the reduction's variables. -/
structure RdB where
  r : Nat
  h : Nat
  g : Nat
  q : Nat
  t : Nat
  f : Nat
  mr : Nat
  mg : Nat
def RdB.list (b : RdB) : List Nat := [b.r, b.h, b.g, b.q, b.t, b.f]
def RdB.fn (b : RdB) : Value := .func (.func 57) #[] #[.pointer (some ⟨b.r, 0, none⟩), .pointer (some ⟨b.h, 0, none⟩), .pointer (some ⟨b.g, 0, none⟩), .pointer (some ⟨b.q, 0, none⟩), .pointer (some ⟨b.t, 0, none⟩), .pointer (some ⟨b.f, 0, none⟩)]
/-- Between two steps of the reduction: out are reduced, r of them in this round. -/
structure RdI (w0 w : World) (b : RdB) (vh vq vt : Value) (xs : List Int) (hs : List (List Int)) (out : List Int) (r : Nat) : Prop where
  cR : Blk w b.r #[.map (some b.mr)] 94
  cH : Blk w b.h #[vh] 45
  cG : Blk w b.g #[.map (some b.mg)] 94
  cQ : Blk w b.q #[vq] 45
  cT : Blk w b.t #[vt] 22
  cF : Blk w b.f #[b.fn] 1
  mG : ∃ n, Sm w b.mg (fun i => decide (i ∈ out)) n
  mR : ∃ S, Sm w b.mr S r ∧ ∀ k, S k = true → k ∈ out
  av : Qu w w0.heap.size 3 vt ((workL xs hs out).map (Value.int .i64))
  tn : ∀ k, vt.ownBlock = some k → k ∉ b.list ∧ k ≠ b.mr ∧ k ≠ b.mg
  mn : b.mr ≠ b.mg ∧ b.mr ∉ b.list ∧ b.mg ∉ b.list
  t : Touch [] w0 w
  lo : w0.heap.size ≤ b.mr ∧ w0.heap.size ≤ b.mg
theorem RdI.touch {w0 w w' : World} {b : RdB} {vh vq vt : Value} {xs : List Int} {hs : List (List Int)} {out : List Int} {r : Nat} (h : RdI w0 w b vh vq vt xs hs out r) (ht : Touch [] w w') : RdI w0 w' b vh vq vt xs hs out r := by
  obtain ⟨n, hn⟩ := h.mG
  obtain ⟨S, hS, hS2⟩ := h.mR
  exact ⟨h.cR.touch ht (by simp), h.cH.touch ht (by simp), h.cG.touch ht (by simp), h.cQ.touch ht (by simp), h.cT.touch ht (by simp), h.cF.touch ht (by simp), ⟨n, hn.touch ht (by simp)⟩, ⟨S, hS.touch ht (by simp), hS2⟩, h.av.touch ht (fun _ _ => by simp), h.tn, h.mn, h.t.trans ht, h.lo⟩
section
variable {w0 w w' : World} {b : RdB} {vh vq vt : Value} {xs : List Int} {hs : List (List Int)} {out : List Int} {r : Nat}
/-- The round is cleared. -/
theorem RdI.clear (h : RdI w0 w b vh vq vt xs hs out r) : ∃ w', (∀ ty, (Builtin.clear_ #[94] ty #[.map (some b.mr)]).run Tryz.prog w = .ok (.tuple #[]) w') ∧ RdI w0 w' b vh vq vt xs hs out 0 := by
  obtain ⟨n, hn⟩ := h.mG
  obtain ⟨S, hS, hS2⟩ := h.mR
  obtain ⟨w', h1, h2, ht, _⟩ := hS.clear
  obtain ⟨m1, m2, m3⟩ := h.mn
  have hl : ∀ k, k ∈ b.list → k ∉ [b.mr] := fun k hk hm => by simp at hm; subst hm; exact m2 hk
  exact ⟨w', h1, h.cR.touch ht (hl _ (by simp [RdB.list])), h.cH.touch ht (hl _ (by simp [RdB.list])), h.cG.touch ht (hl _ (by simp [RdB.list])), h.cQ.touch ht (hl _ (by simp [RdB.list])), h.cT.touch ht (hl _ (by simp [RdB.list])), h.cF.touch ht (hl _ (by simp [RdB.list])),
    ⟨n, hn.touch ht (by simpa using Ne.symm m1)⟩, ⟨_, h2, fun k hk => by cases hk⟩, h.av.touch ht (fun k hk => by simpa using (h.tn k hk).2.1), h.tn, h.mn, h.t.transF ht (fun i hi hlt => by have := h.lo; simp at hi; omega), h.lo⟩
/-- One more is gone, and put to what is there. -/
theorem RdI.gone (h : RdI w0 w b vh vq vt xs hs out r) {i : Int} (hi : i ∉ out) : ∃ w1 w2, (Instr.mapUpdate 94 (.map (some b.mg)) (.int .i64 i) (.bool true)).run Tryz.prog w = .ok () w1 ∧ (Instr.mapUpdate 94 (.map (some b.mr)) (.int .i64 i) (.bool true)).run Tryz.prog w1 = .ok () w2 ∧
    Touch [b.mg] w w1 ∧ Touch [b.mg, b.mr] w w2 ∧ (∃ n, Sm w2 b.mg (fun k => decide (k ∈ out ++ [i])) n) ∧ (∃ S, Sm w2 b.mr S (r + 1) ∧ ∀ k, S k = true → k ∈ out ++ [i]) := by
  obtain ⟨n, hn⟩ := h.mG
  obtain ⟨S, hS, hS2⟩ := h.mR
  obtain ⟨m1, m2, m3⟩ := h.mn
  obtain ⟨w1, p1, p2, p3, p4⟩ := hn.put i (dF hi)
  have hSi : S i = false := by
    cases hs : S i with
    | false => rfl
    | true => exact absurd (hS2 i hs) hi
  obtain ⟨w2, q1, q2, q3, q4⟩ := (hS.touch p3 (by simpa using m1)).put i hSi
  refine ⟨w1, w2, p1, q1, p3, (p3.mono (by simp)).trans (q3.mono (by simp)), ⟨_, (p2.touch q3 (by simpa using Ne.symm m1)).congr (fun k => ?_)⟩, ⟨_, q2, fun k hk => ?_⟩⟩
  · by_cases e : k = i
    · subst e; simp
    · simp [e]
  · by_cases e : k = i
    · subst e; simp
    · rw [if_neg e] at hk
      exact List.mem_append_left _ (hS2 k hk)
theorem RdI.turn (h : RdI w0 w b vh vq vt xs hs out r) {out' : List Int} {r' : Nat} (ht : Touch [b.mg, b.mr] w w') (hg : ∃ n, Sm w' b.mg (fun k => decide (k ∈ out')) n) (hr : ∃ S, Sm w' b.mr S r' ∧ ∀ k, S k = true → k ∈ out') {w2 : World} (ht2 : Touch vt.ownBlock.toList w' w2) (hq : Qu w2 w0.heap.size 3 vt ((workL xs hs out').map (Value.int .i64))) : RdI w0 w2 b vh vq vt xs hs out' r' := by
  obtain ⟨m1, m2, m3⟩ := h.mn
  have hl : ∀ k, k ∈ b.list → k ∉ [b.mg, b.mr] := fun k hk hm => by
    simp at hm
    rcases hm with rfl | rfl
    · exact m3 hk
    · exact m2 hk
  have hl2 : ∀ k, k ∈ b.list → k ∉ vt.ownBlock.toList := fun k hk hm => (h.tn k (Option.mem_toList.1 hm)).1 hk
  obtain ⟨n, hn⟩ := hg
  obtain ⟨S, hS, hS2⟩ := hr
  have c : ∀ {k : Nat} {v : Array Value} {t : TypeId}, k ∈ b.list → Blk w k v t → Blk w2 k v t := fun hk hb => (hb.touch ht (hl _ hk)).touch ht2 (hl2 _ hk)
  exact ⟨c (by simp [RdB.list]) h.cR, c (by simp [RdB.list]) h.cH, c (by simp [RdB.list]) h.cG, c (by simp [RdB.list]) h.cQ, c (by simp [RdB.list]) h.cT, c (by simp [RdB.list]) h.cF,
    ⟨n, hn.touch ht2 (fun hm => (h.tn _ (Option.mem_toList.1 hm)).2.2 rfl)⟩, ⟨S, hS.touch ht2 (fun hm => (h.tn _ (Option.mem_toList.1 hm)).2.1 rfl), hS2⟩, hq, h.tn, h.mn,
    (h.t.transF ht (fun i hi hlt => by have := h.lo; simp at hi; omega)).transF ht2 (fun i hi hlt => by have := (h.av.own i (Option.mem_toList.1 hi)).1; omega), h.lo⟩
end
def RedP (w0 : World) (b : RdB) (vh vq vt : Value) (xs : List Int) (hs : List (List Int)) (out : List Int) (e : Ending) (w' : World) : Prop := e = .returned (.tuple #[]) ∧ ∃ r, RdI w0 w' b vh vq vt xs hs out r
set_option maxRecDepth 100000 in
set_option maxHeartbeats 16000000 in
theorem red_any (w0 : World) (b : RdB) (vh vq vt : Value) (xs : List Int) (hs qs : List (List Int)) (hm : rowsB xs hs qs = true) (hh : Rws w0 vh hs) (hq : Rws w0 vq qs) :
    ∀ (f : Nat) (out : List Int) (r : Nat) (w : World), GoodR xs hs qs out → hs.length - out.length < f → RdI w0 w b vh vq vt xs hs out r →
      Calls Tryz.prog 57 #[.pointer (some ⟨b.r, 0, none⟩), .pointer (some ⟨b.h, 0, none⟩), .pointer (some ⟨b.g, 0, none⟩), .pointer (some ⟨b.q, 0, none⟩), .pointer (some ⟨b.t, 0, none⟩), .pointer (some ⟨b.f, 0, none⟩)] w (RedP w0 b vh vq vt xs hs (redR xs hs qs f out))
  | 0, out, r, w, hg, hf, hi => by omega
  | f + 1, out, r, w, hg, hf, hi => by
    have HREC := Lib.hid (red_any w0 b vh vq vt xs hs qs hm hh hq f)
    have HG := Lib.hid hg
    have HF := Lib.hid hf
    have HM := Lib.hid (rmay_of hm)
    have HH := Lib.hid hh
    have HQ := Lib.hid hq
    obtain ⟨w1, hcl, hi1⟩ := hi.clear
    have HI := Lib.hid hi1
    have xR : w.cell? ⟨b.r, 0, none⟩ = some (.map (some b.mr)) := hi.cR.cell (i := 0) rfl
    obtain ⟨ah, ch, hvh⟩ := hh.form
    obtain ⟨aq, cq, hvq⟩ := hq.form
    obtain ⟨at', ct, hvt⟩ := hi.av.form
    rw [workL_length] at hvt
    obtain ⟨H, hH⟩ : ∃ L, hs.length = L := ⟨_, rfl⟩
    have HHl := Lib.hid hH
    have hql : qs.length = H := by rw [← HM.out.e]; exact hH
    have HQl := Lib.hid hql
    rw [hH] at hvh
    rw [hql] at hvq
    subst hvh hvq hvt
    have h32 : (H : Int) ≤ 32 := by have := HM.out.m; omega
    have xH : w1.cell? ⟨b.h, 0, none⟩ = some (.slice ah H ch) := hi1.cH.cell (i := 0) rfl
    clear hg hf hm hh hq hi hi1 hH hql
    go_enter Tryz.func57, Tryz.ntmps57
    go_wp2_with fail
    go_loopw [10] (fun i wr => ∃ j : Nat, j ≤ H ∧ i = .int .i64 j ∧ RdI w0 wr b (.slice ah H ch) (.slice aq H cq) (.slice at' xs.length ct) xs hs (sweepR xs hs qs out j) ((sweepR xs hs qs out j).length - out.length)) (fun i _ => H + 1 - (intOf i).toNat)
    case atStart => exact ⟨0, by omega, rfl, by show RdI _ _ _ _ _ _ _ _ out (out.length - out.length); rw [Nat.sub_self]; exact HI.out⟩
    case round =>
      clear HI
      obtain ⟨j, hj, rfl, hi⟩ := hrel
      have HI := Lib.hid hi
      by_cases hjn : j < H
      · have hlt : (j : Int) < (H : Int) := by omega
        have HGJ := Lib.hid (sweepR_good HG.out j (by rw [HHl.out]; omega))
        have HSR : Hid (sweepR xs hs qs out (j + 1) = stepR xs hs qs (sweepR xs hs qs out j) j) := Lib.hid rfl
        have HML := Lib.hid (sweepR_len (xs := xs) (hs := hs) (qs := qs) out j)
        obtain ⟨o, ho⟩ : ∃ o, sweepR xs hs qs out j = o := ⟨_, rfl⟩
        rw [ho] at hi HI HGJ HSR HML
        have HOl : Hid (o.length ≤ 32) := Lib.hid (by have := good_len HGJ.out; have := HM.out.m; omega)
        have HLT : Hid (0 ≤ (j : Int) ∧ (j : Int) < hs.length) := Lib.hid ⟨by omega, by rw [HHl.out]; omega⟩
        have HLq : Hid ((rw_ qs j).length ≤ 1000000) := Lib.hid (by have := HM.out.q (j : Int) HLT.out.1 HLT.out.2; rw [Int.toNat_natCast] at this; have := HM.out.l; omega)
        have HLw : Hid ((workL xs hs o).length ≤ 1000000) := Lib.hid (by rw [workL_length]; have := HM.out.l; omega)
        clear ho
        obtain ⟨nG, hnG⟩ := hi.mG
        obtain ⟨gq, oq, hgq, raq, rcq, sq, xq⟩ := HQ.out.at (i := j) (by rw [HQl.out]; exact hjn)
        subst hgq
        have SQ := Lib.hid (sq.touch hi.t (by simp))
        have SW := Lib.hid (Qu.sl hi.av)
        have yG : ∀ q : Later wr, q.world.cell? ⟨b.g, 0, none⟩ = some (.map (some b.mg)) := fun q => (hi.cG.touch q.ok (by simp)).cell (i := 0) rfl
        have yQ : ∀ q : Later wr, q.world.cell? ⟨b.q, 0, none⟩ = some (.slice (some ⟨gq, oq, none⟩) H cq) := fun q => (hi.cQ.touch q.ok (by simp)).cell (i := 0) rfl
        have yT : ∀ q : Later wr, q.world.cell? ⟨b.t, 0, none⟩ = some (.slice at' xs.length ct) := fun q => (hi.cT.touch q.ok (by simp)).cell (i := 0) rfl
        have yr : ∀ q : Later wr, q.world.cell? ⟨gq, oq + j, none⟩ = some (.slice raq (rw_ qs j).length rcq) := fun q => xq _ (hi.t.trans q.ok)
        have hlk : ∀ q : Later wr, (Instr.lookup 94 (.map (some b.mg)) (.int .i64 (j : Int)) false).run Tryz.prog q.world = .ok (.bool (decide ((j : Int) ∈ o))) q.world := fun q => (hnG.touch q.ok (by simp)).look (j : Int)
        by_cases hin : (j : Int) ∈ o
        · have hS : Hid (sweepR xs hs qs out (j + 1) = o) := Lib.hid (by rw [HSR.out]; unfold stepR; rw [if_pos hin])
          rw [dT hin] at hlk
          clear hi hnG sq xq hin
          go_wp2_with fail
          refine wp_region_later (by kernel_rfl) (by kernel_rfl) ?_
          repeat (first
            | (go_big_quiet_step ((first | (with_reducible rfl))))
            | (quiet_step (fail)))
          refine wpQuiet_nil ?_
          intro wq hw'
          obtain ⟨⟨wq', hwq⟩, hwe⟩ := hw'
          have hwe : wq = wq' := hwe
          subst hwe
          have HT := Lib.hid hwq
          clear hwe hwq yG yQ yT yr hlk
          have HI := Lib.hid (HI.out.touch HT.out)
          go_wp2
          go_roundw
          case rel => exact ⟨j + 1, by omega, by go_num, by rw [hS.out]; exact HI.out⟩
          case measure => simp [intOf]; omega
        · rw [dF hin] at hlk
          cases hft : fitsB (rw_ qs j) (workL xs hs o) with
          | false =>
            have HFT := Lib.hid hft
            have hS : Hid (sweepR xs hs qs out (j + 1) = o) := Lib.hid (by rw [HSR.out]; unfold stepR; rw [if_neg hin, hft]; rfl)
            clear hi hnG sq xq hin hft
            go_wp2_with fail
            refine wp_region_later (by kernel_rfl) (by kernel_rfl) ?_
            repeat (first
              | (go_big_quiet_step ((first | (with_reducible rfl) | exact Later.met (fits_q _ _ (rw_ qs j) (workL xs hs o) false _ (SQ.out.later _) (SW.out.later _) HLq.out HLw.out HFT.out))))
              | (quiet_step (fail)))
            refine wpQuiet_nil ?_
            intro wq hw'
            obtain ⟨⟨wq', hwq⟩, hwe⟩ := hw'
            have hwe : wq = wq' := hwe
            subst hwe
            have HT := Lib.hid hwq
            clear hwe hwq yG yQ yT yr hlk
            have HI := Lib.hid (HI.out.touch HT.out)
            go_wp2
            go_roundw
            case rel => exact ⟨j + 1, by omega, by go_num, by rw [hS.out]; exact HI.out⟩
            case measure => simp [intOf]; omega
          | true =>
            have HFT := Lib.hid hft
            have hS : Hid (sweepR xs hs qs out (j + 1) = o ++ [(j : Int)]) := Lib.hid (by rw [HSR.out]; unfold stepR; rw [if_neg hin, if_pos hft])
            have HIN := Lib.hid hin
            clear hi hnG sq xq hin hft
            go_wp2_with fail
            refine wp_region_later (by kernel_rfl) (by kernel_rfl) ?_
            repeat (first
              | (go_big_quiet_step ((first | (with_reducible rfl) | exact Later.met (fits_q _ _ (rw_ qs j) (workL xs hs o) true _ (SQ.out.later _) (SW.out.later _) HLq.out HLw.out HFT.out))))
              | (quiet_step (fail)))
            refine wpQuiet_nil ?_
            intro wq hw'
            obtain ⟨⟨wq', hwq⟩, hwe⟩ := hw'
            have hwe : wq = wq' := hwe
            subst hwe
            have HT := Lib.hid hwq
            clear hwe hwq yG yQ yT yr hlk
            have HI := Lib.hid (HI.out.touch HT.out)
            obtain ⟨u1, u2, hu1, hu2, ht1, ht2, hg2, hr2⟩ := (HI.out.touch (Touch.refl [] wq).drew).gone HIN.out
            have HT2 := Lib.hid ht2
            have HG2 := Lib.hid hg2
            have HR2 := Lib.hid hr2
            have xG : wq.cell? ⟨b.g, 0, none⟩ = some (.map (some b.mg)) := HI.out.cG.cell (i := 0) rfl
            have xR : wq.cell? ⟨b.r, 0, none⟩ = some (.map (some b.mr)) := HI.out.cR.cell (i := 0) rfl
            have xR1 : u1.cell? ⟨b.r, 0, none⟩ = some (.map (some b.mr)) := ((HI.out.touch (Touch.refl [] wq).drew).cR.touch ht1 (fun hm => by have := HI.out.mn; simp at hm; exact this.2.2 (by rw [← hm]; simp [RdB.list]))).cell (i := 0) rfl
            clear ht1 ht2 hg2 hr2
            go_wp2_with fail
            go_region
            clear xG xR xR1 hu1 hu2
            obtain ⟨gh, oh, hgh, rah, rch, sh, xh⟩ := HH.out.at (i := j) (by rw [HHl.out]; exact hjn)
            subst hgh
            have HTd : Hid (Touch [b.mg, b.mr] wq u2) := Lib.hid (((Touch.refl [] wq).drew.mono (by simp)).trans HT2.out)
            have HT0 : Hid (Touch [] w0 u2) := Lib.hid (HI.out.t.transF HTd.out (fun i hi hlt => by have := HI.out.lo; simp at hi; omega))
            have XH := Lib.hid xh
            have sh' : Hid (0 < (rw_ hs j).length → ∀ k, (Value.slice rah (rw_ hs j).length rch).ownBlock = some k → k < w0.heap.size) := Lib.hid (fun h0 k hk => sh.lt k hk h0)
            have SH := Lib.hid (sh.touch HT0.out (by simp))
            have BH := Lib.hid (HI.out.cH.touch HTd.out (fun hm => by have := HI.out.mn; simp at hm; rcases hm with h | h; exact this.2.2 (by rw [← h]; simp [RdB.list]); exact this.2.1 (by rw [← h]; simp [RdB.list])))
            have BT := Lib.hid (HI.out.cT.touch HTd.out (fun hm => by have := HI.out.mn; simp at hm; rcases hm with h | h; exact this.2.2 (by rw [← h]; simp [RdB.list]); exact this.2.1 (by rw [← h]; simp [RdB.list])))
            have HAV := Lib.hid (HI.out.av.touch HTd.out (fun k hk hm => by have := HI.out.tn k hk; simp at hm; rcases hm with h | h; exact this.2.2 h; exact this.2.1 h))
            have z1 : u2.cell? ⟨b.h, 0, none⟩ = some (.slice (some ⟨gh, oh, none⟩) H ch) := BH.out.cell (i := 0) rfl
            have z2 : u2.cell? ⟨b.t, 0, none⟩ = some (.slice at' xs.length ct) := BT.out.cell (i := 0) rfl
            have z3 := XH.out u2 HT0.out
            have HA := Lib.hid ((Touch.refl [] u2).drew : Touch [] u2 (World.drew u2))
            have HW2 := Lib.hid (HM.out.h (j : Int) HLT.out.1 HLT.out.2)
            rw [Int.toNat_natCast] at HW2
            have HG1 : Hid (0 < (rw_ hs j).length → ∀ k, (Value.slice rah (rw_ hs j).length rch).ownBlock = some k → (Value.slice at' xs.length ct).ownBlock ≠ some k) := Lib.hid (fun h0 k hk e => by
              have h1 := (HAV.out.own k e).1
              have h2 := sh'.out h0 k hk
              omega)
            clear sh xh
            go_wp2_with fail
            go_region_held3 (fun w' => w'.cell? ⟨b.h, 0, none⟩ = some (.slice (some ⟨gh, oh, none⟩) H ch) ∧ w'.cell? ⟨b.t, 0, none⟩ = some (.slice at' xs.length ct) ∧ w'.cell? ⟨gh, oh + j, none⟩ = some (.slice rah (rw_ hs j).length rch)) (first | go_keep | exact KP.out | exact ⟨(BH.out.touch HA.out (by simp)).cell (i := 0) rfl, (BT.out.touch HA.out (by simp)).cell (i := 0) rfl, XH.out _ (HT0.out.trans HA.out)⟩)
              ((go_at_call 59
                refine (add_any w0.heap.size _ _ (workL xs hs o) (rw_ hs j) _ (HAV.out.touch HA.out (fun _ _ => by simp)) (SH.out.touch HA.out (by simp)) ?g1 ?g2 ?g3 ?g4 ?g5).mono ?_
                case g1 => exact HG1.out
                case g2 => rw [workL_length]; have := HM.out.l; omega
                case g3 => rw [workL_length]; exact HW2.out.1
                case g4 => exact fun k hk => HM.out.work HGJ.out.2.1 HOl.out k (by rw [workL_length] at hk; exact hk)
                case g5 => exact fun k hk => HW2.out.2 k (by rw [workL_length] at hk; exact hk)
                rintro e u3 ⟨rfl, hq3, ht3⟩
                have HI3 := Lib.hid (HI.out.turn HTd.out HG2.out HR2.out ((HA.out.mono (by simp)).trans ht3) (by rw [workL_snoc, Int.toNat_natCast]; exact hq3))
                have KP : Hid (u3.cell? ⟨b.h, 0, none⟩ = some (.slice (some ⟨gh, oh, none⟩) H ch) ∧ u3.cell? ⟨b.t, 0, none⟩ = some (.slice at' xs.length ct) ∧ u3.cell? ⟨gh, oh + j, none⟩ = some (.slice rah (rw_ hs j).length rch)) := Lib.hid ⟨HI3.out.cH.cell (i := 0) rfl, HI3.out.cT.cell (i := 0) rfl, XH.out _ HI3.out.t⟩
                clear hq3 ht3))
            clear z1 z2 z3
            go_wp2
            go_roundw
            case rel => exact ⟨j + 1, by omega, by go_num, by rw [hS.out, List.length_append, List.length_singleton, show o.length + 1 - out.length = o.length - out.length + 1 from by have := HML.out; omega]; exact HI3.out⟩
            case measure => simp [intOf]; omega
      · have hlt : ¬ (j : Int) < (H : Int) := by omega
        obtain rfl : j = H := by omega
        have HGJ := Lib.hid (sweepR_good HG.out hs.length (Nat.le_refl _))
        have HML := Lib.hid (sweepR_len (xs := xs) (hs := hs) (qs := qs) out hs.length)
        have HR : Hid (redR xs hs qs (f + 1) out = if (sweepR xs hs qs out hs.length).length = out.length then sweepR xs hs qs out hs.length else redR xs hs qs f (sweepR xs hs qs out hs.length)) := Lib.hid rfl
        rw [show sweepR xs hs qs out j = sweepR xs hs qs out hs.length from by rw [HHl.out]] at hi HI
        obtain ⟨o, ho⟩ : ∃ o, sweepR xs hs qs out hs.length = o := ⟨_, rfl⟩
        rw [ho] at hi HI HGJ HML HR
        clear ho
        obtain ⟨S, hS, _⟩ := hi.mR
        have xR2 : wr.cell? ⟨b.r, 0, none⟩ = some (.map (some b.mr)) := hi.cR.cell (i := 0) rfl
        have xF2 : wr.cell? ⟨b.f, 0, none⟩ = some b.fn := hi.cF.cell (i := 0) rfl
        unfold RdB.fn at xF2
        by_cases he : o.length = out.length
        · have hlen : ∀ ty, (Builtin.len_ #[94] ty #[.map (some b.mr)]).run Tryz.prog wr = .ok (.int .i64 0) wr := fun ty => by have := hS.len ty; rw [show o.length - out.length = 0 by omega] at this; exact this
          have HE : Hid (redR xs hs qs (f + 1) out = o) := Lib.hid (by rw [HR.out, if_pos he])
          clear hi hS he
          go_wp2
          go_end0
          exact ⟨rfl, _, by rw [HE.out]; exact HI.out⟩
        · obtain ⟨q, hq⟩ : ∃ q, o.length - out.length = q := ⟨_, rfl⟩
          rw [hq] at hS
          have hq0 : decide ((0 : Int) < (q : Int)) = true := dT (by have := HML.out; omega)
          have hq1 : decide (0 < q) = true := dT (by have := HML.out; omega)
          have hlen : ∀ ty, (Builtin.len_ #[94] ty #[.map (some b.mr)]).run Tryz.prog wr = .ok (.int .i64 (q : Int)) wr := fun ty => hS.len ty
          have HE : Hid (redR xs hs qs (f + 1) out = redR xs hs qs f o) := Lib.hid (by rw [HR.out, if_neg he])
          have HC := Lib.hid (HREC.out o _ wr HGJ.out (by have := HF.out; have := HML.out; have := good_len HG.out; have := good_len HGJ.out; omega) HI.out)
          clear hi hS he hq
          go_wp2_with fail
          refine HC.out.mono ?_
          rintro e w9 ⟨rfl, r9, h9⟩
          have H9 := Lib.hid h9
          clear h9
          go_wp2
          go_end0
          exact ⟨rfl, _, by rw [HE.out]; exact H9.out⟩
end Go.Proofs.YticglfmmjgnicaaGreat

set_option linter.unusedVariables false
namespace Go.Proofs.YticglfmmjgnicaaGreat
open Go.RowKit Go.BigFrame

theorem sl1' (w : World) (a : Int) : Sl (w.alloc (.cells #[.int .i64 a] 3)) (.slice (some ⟨w.heap.size, 0, none⟩) 1 1) [a] := ⟨_, 1, rfl, .inr ⟨_, 0, rfl, by simp, row1 w a _ _ rfl⟩⟩
set_option maxHeartbeats 16000000 in
theorem stuck_any (va vh vq : Value) (xs : List Int) (hs qs : List (List Int)) (w : World) (ha : Sl w va xs) (hh : Rws w vh hs) (hq : Rws w vq qs) :
    Calls Tryz.prog 32 #[va, vh, vq] w (Own (stuckL xs hs qs) w) := by
  have HA := Lib.hid ha
  have HH := Lib.hid hh
  have HQ := Lib.hid hq
  obtain ⟨aa, ca, rfl⟩ := ha.form
  obtain ⟨ah, ch, rfl⟩ := hh.form
  obtain ⟨aq, cq, rfl⟩ := hq.form
  clear ha hh hq
  obtain ⟨L, hL⟩ : ∃ L, xs.length = L := ⟨_, rfl⟩
  obtain ⟨H, hH⟩ : ∃ L, hs.length = L := ⟨_, rfl⟩
  obtain ⟨C, hC⟩ : ∃ L, qs.length = L := ⟨_, rfl⟩
  have HXl := Lib.hid hL
  have HHl := Lib.hid hH
  have HCl := Lib.hid hC
  rw [hL] at HA ⊢
  rw [hH] at HH ⊢
  rw [hC] at HQ ⊢
  clear hL hH hC
  have HW2 : Hid (Touch [] w ((w.alloc (.cells #[.slice ah H ch] 45)).alloc (.cells #[.slice aq C cq] 45))) := Lib.hid (((Touch.refl [] w).alloc _).alloc _)
  have HB0 : Hid (Blk ((w.alloc (.cells #[.slice ah H ch] 45)).alloc (.cells #[.slice aq C cq] 45)) w.heap.size #[.slice ah H ch] 45) := Lib.hid ((Blk.new rfl).alloc _)
  have HB1 : Hid (Blk ((w.alloc (.cells #[.slice ah H ch] 45)).alloc (.cells #[.slice aq C cq] 45)) (w.heap.size + 1) #[.slice aq C cq] 45) := Lib.hid (Blk.new (by simp))
  have hmm := @run_makeMap Tryz.prog
  cases hmay : rowsB xs hs qs with
  | false =>
    have HM := Lib.hid hmay
    have HE : Hid (stuckL xs hs qs = []) := Lib.hid (by unfold stuckL; rw [hmay]; rfl)
    clear hmay hmm
    go_enter Tryz.func32, Tryz.ntmps32
    go_wp2_with fail
    refine (hmay_any _ _ _ xs hs qs false _ (HA.out.touch HW2.out (by simp)) (HH.out.touch HW2.out) (HQ.out.touch HW2.out) HM.out).mono ?_
    rintro e w1 ⟨rfl, rfl⟩
    go_wp2
    go_ret
    exact ⟨_, rfl, by rw [HE.out]; exact Qu.nil _ _ _, HW2.out⟩
  | true =>
  have HM := Lib.hid hmay
  clear hmay
  go_enter Tryz.func32, Tryz.ntmps32
  go_wp2_with fail
  refine (hmay_any _ _ _ xs hs qs true _ (HA.out.touch HW2.out (by simp)) (HH.out.touch HW2.out) (HQ.out.touch HW2.out) HM.out).mono ?_
  rintro e w1 ⟨rfl, rfl⟩
  go_wp2_with fail
  refine (clone_any _ xs _ (HA.out.touch HW2.out (by simp)) (by have := (rmay_of HM.out).l; omega)).mono ?_
  rintro e w2 ⟨v, rfl, hqv, ht⟩
  obtain ⟨at', ct, hv⟩ := hqv.form
  rw [HXl.out] at hv
  subst hv
  have HT2 := Lib.hid (HW2.out.trans ht)
  have HB0 := Lib.hid (HB0.out.touch ht (by simp))
  have HB1 := Lib.hid (HB1.out.touch ht (by simp))
  have HQV := Lib.hid hqv
  clear hqv ht
  obtain ⟨N, hN⟩ : ∃ N, w2.heap.size = N := ⟨_, rfl⟩
  obtain ⟨W6, hW6⟩ : ∃ W, ((((((w2.alloc (.cells #[.slice at' L ct] 22)).alloc (.map #[] 0)).alloc (.map #[] 0)).alloc (.cells #[.map (some (w2.heap.size + 1))] 94)).alloc (.cells #[.map (some (w2.heap.size + 1 + 1))] 94)).alloc (.cells #[.nilFunc] 1)) = W := ⟨_, rfl⟩
  have HZ : Hid (W6.heap.size = N + 1 + 1 + 1 + 1 + 1 + 1) := Lib.hid (by rw [← hW6]; simp [hN])
  have HT6 : Hid (Touch [] w2 W6) := Lib.hid (by rw [← hW6]; exact ((((((Touch.refl [] w2).alloc _).alloc _).alloc _).alloc _).alloc _).alloc _)
  have HN : Hid (w.heap.size + 2 ≤ N) := Lib.hid (by have := HB1.out.lt; omega)
  have HF6 : Hid (Blk W6 (N + 1 + 1 + 1 + 1 + 1) #[.nilFunc] 1) := Lib.hid (by rw [← hW6]; exact Blk.new (by simp [hN]))
  have y1 : W6.cell? ⟨N + 1 + 1 + 1 + 1 + 1, 0, none⟩ = some .nilFunc := HF6.out.cell (i := 0) rfl
  have y2 : W6.frozen? ⟨N + 1 + 1 + 1 + 1 + 1, 0, none⟩ = false := HF6.out.free 0
  have HR6 : Hid (Blk W6 (N + 1 + 1 + 1 + 1) #[.map (some (N + 1 + 1))] 94 ∧ Blk W6 (N + 1 + 1 + 1) #[.map (some (N + 1))] 94 ∧ Blk W6 N #[.slice at' L ct] 22 ∧ Sm W6 (N + 1) (fun _ => false) 0 ∧ Sm W6 (N + 1 + 1) (fun _ => false) 0) := Lib.hid (by
    rw [← hW6, ← hN]
    refine ⟨(Blk.new (by simp)).alloc _, ((Blk.new (by simp)).alloc _).alloc _, (((((Blk.new rfl).alloc _).alloc _).alloc _).alloc _).alloc _, ?_, ?_⟩
    · have := (Sm.new (w := w2.alloc (.cells #[.slice at' L ct] 22))).touch (((((Touch.refl [] _).alloc (.map #[] 0)).alloc (.cells #[.map (some (w2.heap.size + 1))] 94)).alloc (.cells #[.map (some (w2.heap.size + 1 + 1))] 94)).alloc (.cells #[.nilFunc] 1)) (by simp)
      rw [World.size_alloc] at this
      exact this
    · have := (Sm.new (w := (w2.alloc (.cells #[.slice at' L ct] 22)).alloc (.map #[] 0))).touch ((((Touch.refl [] _).alloc (.cells #[.map (some (w2.heap.size + 1))] 94)).alloc (.cells #[.map (some (w2.heap.size + 1 + 1))] 94)).alloc (.cells #[.nilFunc] 1)) (by simp)
      rw [World.size_alloc, World.size_alloc] at this
      exact this)
  rw [hN] at hW6
  go_upto_region 6 with fail
  obtain ⟨b, hb⟩ : ∃ b : RdB, b = ⟨N + 1 + 1 + 1 + 1, w.heap.size, N + 1 + 1 + 1, w.heap.size + 1, N, N + 1 + 1 + 1 + 1 + 1, N + 1 + 1, N + 1⟩ := ⟨_, rfl⟩
  have HI : Hid (RdI w (W6.setCell ⟨N + 1 + 1 + 1 + 1 + 1, 0, none⟩ b.fn) b (.slice ah H ch) (.slice aq C cq) (.slice at' L ct) xs hs [] 0) := Lib.hid (by
    subst hb
    obtain ⟨q1, q2, q3, q4, q5⟩ := HR6.out
    have hn := HN.out
    have hz := HZ.out
    have hown := HQV.out.own
    have t6 := HT6.out
    have t7 : Touch [N + 1 + 1 + 1 + 1 + 1] W6 (W6.setCell ⟨N + 1 + 1 + 1 + 1 + 1, 0, none⟩ (RdB.fn ⟨N + 1 + 1 + 1 + 1, w.heap.size, N + 1 + 1 + 1, w.heap.size + 1, N, N + 1 + 1 + 1 + 1 + 1, N + 1 + 1, N + 1⟩)) := (Touch.refl _ _).setCell (by simp) _
    have hv : ∀ k, Value.ownBlock (.slice at' L ct) = some k → w.heap.size + 2 ≤ k ∧ k < N := fun k hk => by
      have := hown k hk
      simp at this
      omega
    refine ⟨q1.touch t7 (by simp), (HB0.out.touch t6 (by simp)).touch t7 (by simp; omega), q2.touch t7 (by simp), (HB1.out.touch t6 (by simp)).touch t7 (by simp; omega), q3.touch t7 (by simp; omega), HF6.out.set 0 _, ⟨0, (q4.touch t7 (by simp)).congr (fun k => by simp)⟩, ⟨_, q5.touch t7 (by simp), fun k hk => by cases hk⟩,
      ((HQV.out.mono (by simp; omega)).touch t6 (fun _ _ => by simp)).touch t7 (fun k hk => by have := hv k hk; simp; omega), fun k hk => ?_, ?_, (HT2.out.trans t6).transF t7 (fun i hi hlt => by simp at hi; omega), ?_⟩
    · have := hv k hk
      simp [RdB.list]; omega
    · simp [RdB.list]; omega
    · show w.heap.size ≤ N + 1 + 1 ∧ w.heap.size ≤ N + 1; omega)
  have y3 : (W6.setCell ⟨N + 1 + 1 + 1 + 1 + 1, 0, none⟩ b.fn).cell? ⟨N + 1 + 1 + 1 + 1 + 1, 0, none⟩ = some b.fn := by
    have := HI.out.cF.cell (i := 0) rfl
    rw [show b.f = N + 1 + 1 + 1 + 1 + 1 from by rw [hb]] at this
    exact this
  have HC := Lib.hid (red_any w b (.slice ah H ch) (.slice aq C cq) (.slice at' L ct) xs hs qs HM.out HH.out HQ.out (hs.length + 1) [] 0 _ good_nil (by simp) HI.out)
  subst hb
  unfold RdB.fn at HC y3
  clear hW6 hN hmm HI
  go_wp2_with fail
  refine HC.out.mono ?_
  rintro e w3 ⟨rfl, r3, hi3⟩
  have HI3 := Lib.hid hi3
  obtain ⟨fin, hfin⟩ : ∃ o, redR xs hs qs (hs.length + 1) [] = o := ⟨_, rfl⟩
  rw [hfin] at hi3 HI3
  have HE : Hid (stuckL xs hs qs = leftL hs.length fin) := Lib.hid (by unfold stuckL finR; rw [HM.out, if_pos rfl, hfin])
  obtain ⟨ng, hng⟩ := hi3.mG
  have HNG := Lib.hid hng
  have HG3 : Hid (Blk w3 (N + 1 + 1 + 1) #[.map (some (N + 1))] 94) := Lib.hid hi3.cG
  have z0 : w3.cell? ⟨w.heap.size, 0, none⟩ = some (.slice ah H ch) := hi3.cH.cell (i := 0) rfl
  have HW3 : Hid (Touch [] w w3) := Lib.hid hi3.t
  have h32 : (H : Int) ≤ 32 := by have := (rmay_of HM.out).m; rw [HHl.out] at this; omega
  clear hi3 y1 y2 y3 hfin hng
  go_wp2_with fail
  clear z0
  go_loopw [11, 27] (fun lv i wr => ∃ j : Nat, j ≤ H ∧ i = .int .i64 j ∧ Qu wr w3.heap.size 3 lv ((leftL j fin).map (Value.int .i64)) ∧ Touch [] w3 wr) (fun _ i _ => H + 1 - (intOf i).toNat)
  case atStart => exact ⟨0, by omega, rfl, Qu.nil _ _ _, Touch.refl _ _⟩
  case round =>
    obtain ⟨j, hj, rfl, hqo, ht⟩ := hrel
    have HQO := Lib.hid hqo
    have HT := Lib.hid ht
    obtain ⟨oa, oc, hov⟩ := hqo.form
    subst hov
    obtain ⟨O, hO⟩ : ∃ O, (leftL j fin).length = O := ⟨_, rfl⟩
    have HO := Lib.hid hO
    have hO2 : O ≤ j := by rw [← hO]; exact leftL_len j fin
    rw [hO] at HQO ⊢
    by_cases hjn : j < H
    · have hlt : (j : Int) < (H : Int) := by omega
      have y1 : wr.cell? ⟨N + 1 + 1 + 1, 0, none⟩ = some (.map (some (N + 1))) := (HG3.out.touch ht (by simp)).cell (i := 0) rfl
      have hlk := (HNG.out.touch ht (by simp)).look (j : Int)
      have HLS := Lib.hid (leftL_succ j fin)
      by_cases hin : (j : Int) ∈ fin
      · rw [dT hin] at hlk
        rw [if_pos hin, List.append_nil] at HLS
        clear hqo ht hO hin
        go_wp2
        go_roundw
        case rel => exact ⟨j + 1, by omega, by go_num, by rw [HLS.out]; exact HQO.out, HT.out⟩
        case measure => simp [intOf]; omega
      · rw [dF hin] at hlk
        rw [if_neg hin] at HLS
        obtain ⟨v', w5, hrn, hq', hg, hn⟩ := Qu.appendI (ys := [(j : Int)]) (HQO.out.alloc (.cells #[.int .i64 j] 3)) (by have := ht.size; simp; omega) (sl1' wr (j : Int)) (by simp; omega)
        have t5 : Touch (Value.ownBlock (.slice oa O oc)).toList wr w5 := ((Touch.refl _ wr).alloc _).grown hg (fun k hk _ => Option.mem_toList.2 hk)
        have HT5 : Hid (Touch [] w3 w5) := Lib.hid (ht.transF t5 (fun i hi hlt => by have := (HQO.out.own i (Option.mem_toList.1 hi)).1; omega))
        have HQ5 := Lib.hid hq'
        obtain ⟨va', vc', hv'⟩ := Qu.form hq'
        rw [List.length_append, hO, show [(j : Int)].length = 1 from rfl] at hv'
        subst hv'
        clear hqo ht hO hin hq' hg hn t5
        go_wp2_with (at_builtin; refine Lib.wpList_append_run _ rfl _ _ _ _ rfl _ _ rfl rfl _ _ (hrn _) ?_)
        go_roundw
        case rel => exact ⟨j + 1, by omega, by go_num, by rw [HLS.out]; exact HQ5.out, HT5.out⟩
        case measure => simp [intOf]; omega
    · have hlt : ¬ (j : Int) < (H : Int) := by omega
      obtain rfl : j = H := by omega
      have HX : Hid (Qu wr w.heap.size 3 (.slice oa O oc) ((stuckL xs hs qs).map (Value.int .i64))) := Lib.hid (by
        rw [HE.out, HHl.out]
        exact HQO.out.mono HW3.out.size)
      have HTX := Lib.hid (HW3.out.trans ht)
      clear hqo ht hO
      go_wp2
      go_ret
      exact ⟨_, rfl, HX.out, HTX.out⟩
end Go.Proofs.YticglfmmjgnicaaGreat

set_option linter.unusedVariables false
namespace Go.Proofs.YticglfmmjgnicaaGreat
open Go.RowKit Go.BigFrame

def inF (out : List Int) (k : Nat) : Bool := decide ((k : Int) ∈ out)
theorem inF_snoc (out : List Int) (x k : Nat) : inF (out ++ [(x : Int)]) k = if k = x then true else inF out k := by
  unfold inF
  by_cases h : k = x
  · subst h; simp
  · rw [if_neg h]; simp; omega
/-- Between two steps: out are gone, what there is. -/
structure RsI (w0 w : World) (g : Nat) (wv : Value) (xs : List Int) (hs : List (List Int)) (out : List Int) : Prop where
  b : Blk w g (boolA (inF out) hs.length) 4
  s : Sl w wv (workL xs hs out)
  n : 0 < xs.length → ∀ k, wv.ownBlock = some k → k ≠ g
  t : Touch [] w0 w
  lo : w0.heap.size ≤ g
theorem RsI.touch {w0 w w' : World} {g : Nat} {wv : Value} {xs : List Int} {hs : List (List Int)} {out : List Int} (h : RsI w0 w g wv xs hs out) (ht : Touch [] w w') : RsI w0 w' g wv xs hs out :=
  ⟨h.b.touch ht (by simp), h.s.touch ht (by simp), h.n, h.t.trans ht, h.lo⟩
theorem RsI.after {w0 w w' : World} {g : Nat} {wv v : Value} {xs : List Int} {hs : List (List Int)} {out : List Int} {i : Nat} (h : RsI w0 w g wv xs hs out) (hv : Qu w' (w.setCell ⟨g, i, none⟩ (.bool true)).heap.size 3 v ((workL xs hs (out ++ [(i : Int)])).map (Value.int .i64))) (ht : Touch [] (w.setCell ⟨g, i, none⟩ (.bool true)) w') : RsI w0 w' g v xs hs (out ++ [(i : Int)]) := by
  have hb := h.b.set i (.bool true)
  rw [boolA_set] at hb
  refine ⟨?_, Qu.sl hv, fun _ k hk => ?_, (h.t.setNew h.lo _).trans ht, h.lo⟩
  · rw [show inF (out ++ [(i : Int)]) = fun k => if k = i then true else inF out k from funext (inF_snoc _ _)]
    exact hb.touch ht (by simp)
  · have h1 := (hv.own k hk).1
    have h2 := hb.lt
    omega
end Go.Proofs.YticglfmmjgnicaaGreat

set_option linter.unusedVariables false
namespace Go.Proofs.YticglfmmjgnicaaGreat
open Go.RowKit Go.BigFrame

set_option maxHeartbeats 2000000 in
theorem safe_any (va vh vc : Value) (xs : List Int) (hs cs : List (List Int)) (b : Bool) (w : World) (ha : Sl w va xs) (hh : Rws w vh hs) (hc : Rws w vc cs) (hb : (ordR xs hs cs).isSome = b) :
    Calls Tryz.prog 31 #[va, vh, vc] w fun e w' => e = .returned (.bool b) ∧ Touch [] w w' := by
  have HO := Lib.hid (order_any va vh vc xs hs cs w ha hh hc)
  subst hb
  obtain ⟨aa, ca, rfl⟩ := ha.form
  obtain ⟨ah, ch, rfl⟩ := hh.form
  obtain ⟨ac, cc, rfl⟩ := hc.form
  clear ha hh hc
  obtain ⟨R, hR⟩ : ∃ R, ordR xs hs cs = R := ⟨_, rfl⟩
  rw [hR] at HO ⊢
  clear hR
  go_enter Tryz.func31, Tryz.ntmps31
  go_wp2_with fail
  refine HO.out.mono ?_
  rintro e w1 ⟨a, c, rfl, hq, ht⟩
  have HT := Lib.hid ht
  clear hq ht
  go_wp2
  go_ret
  exact ⟨rfl, HT.out⟩

theorem can_work {xs : List Int} {hs cs : List (List Int)} (hm : BMay xs hs cs) {out : List Int} (ho : ∀ i, i ∈ out → 0 ≤ i ∧ i < hs.length) (hl : out.length ≤ 32) {vw vc vh : Value} {x : Int} {b : Bool} {w : World} (h0 : 0 ≤ x) (h1 : x < hs.length) (sw : Sl w vw (workL xs hs out)) (sc : Sl w vc (rw_ cs x.toNat)) (sh : Sl w vh (rw_ hs x.toNat)) (hb : canB (workL xs hs out) (rw_ cs x.toNat) (rw_ hs x.toNat) = b) :
    Calls Tryz.prog 82 #[vw, vc, vh] w fun e w' => e = .returned (.bool b) ∧ Touch [] w w' :=
  rcan_q vw vc vh _ _ _ b w sw sc sh (by rw [workL_length]; have := hm.l; omega) (by rw [workL_length]; exact (hm.claim h0 h1).1) (by rw [workL_length]; exact (hm.held h0 h1).1)
    (fun k hk => (hm.claim h0 h1).2 k (by rw [workL_length] at hk; exact hk)) (fun k hk => (hm.held h0 h1).2 k (by rw [workL_length] at hk; exact hk)) hb
theorem more_work {xs : List Int} {hs cs : List (List Int)} (hm : BMay xs hs cs) {out : List Int} (ho : ∀ i, i ∈ out → 0 ≤ i ∧ i < hs.length) (hl : out.length ≤ 32) {vw vh : Value} {x : Int} {w : World} (h0 : 0 ≤ x) (h1 : x < hs.length) (sw : Sl w vw (workL xs hs out)) (sh : Sl w vh (rw_ hs x.toNat)) :
    Calls Tryz.prog 75 #[vw, vh] w (Own (workL xs hs (out ++ [x])) w) := by
  rw [workL_snoc]
  exact more_any vw vh _ _ w sw sh (by rw [workL_length]; have := hm.l; omega) (by rw [workL_length]; exact (hm.held h0 h1).1)
    (fun k hk => hm.work ho hl k (by rw [workL_length] at hk; exact hk)) (fun k hk => (hm.held h0 h1).2 k (by rw [workL_length] at hk; exact hk))

end Go.Proofs.YticglfmmjgnicaaGreat

set_option linter.unusedVariables false
namespace Go.Proofs.YticglfmmjgnicaaGreat
open Go.RowKit

set_option maxHeartbeats 2000000 in
theorem has_l (v : Value) (xs : List Int) (x : Int) (w : World) (h : Sl w v xs) (hl : xs.length ≤ 1000000) :
    Calls Tryz.prog 42 #[v, .int .i64 x] w fun e w' => e = .returned (.bool (decide (x ∈ xs))) ∧ w = w' := by
  obtain ⟨a, cap, rfl, h⟩ := h
  have HR := Lib.hid h
  obtain ⟨n, hn⟩ : ∃ n, xs.length = n := ⟨_, rfl⟩
  have HN := Lib.hid hn
  rw [hn] at hl ⊢
  clear h hn
  go_enter Tryz.func42, Tryz.ntmps42
  go_wp2
  go_loop [5] (fun i => ∃ j : Nat, j ≤ n ∧ i = .int .i64 j ∧ ∀ k, k < j → xs.getD k 0 ≠ x) (fun i => n + 1 - (intOf i).toNat)
  case atStart => exact ⟨0, by omega, rfl, fun k hk => by omega⟩
  case round =>
    obtain ⟨j, hj, rfl, hno⟩ := hrel
    have HNo := Lib.hid hno
    clear hno
    by_cases hjn : j < n
    · have hlt : (j : Int) < (n : Int) := by omega
      have HZR := HR.out
      rcases HZR with h | ⟨g, off, rfl, hg, hrow⟩
      · exfalso; have := HN.out; rw [h] at this; simp at this; omega
      have hc := hrow j (by rw [HN.out]; exact hjn)
      obtain ⟨y, hy⟩ : ∃ y, xs.getD j 0 = y := ⟨_, rfl⟩
      rw [hy] at hc
      have HY := Lib.hid hy
      clear hy hrow
      by_cases hyx : y = x
      · have d1 : (y == x) = true := beqT hyx
        have HYX := Lib.hid hyx
        clear hyx
        go_wp2
        go_ret
        refine ⟨ret_bool (Eq.symm (dT ?_)), rfl⟩
        have e1 : xs[j]? = some x := by
          have := HY.out
          rw [List.getD_eq_getElem?_getD, List.getElem?_eq_getElem (by rw [HN.out]; exact hjn)] at this
          rw [List.getElem?_eq_getElem (by rw [HN.out]; exact hjn)]
          have h2 := HYX.out
          simp at this
          rw [this, h2]
        exact List.mem_of_getElem? e1
      · have d1 : (y == x) = false := beqF hyx
        have HYX := Lib.hid hyx
        clear hyx
        go_wp2
        go_round
        case rel =>
          refine ⟨j + 1, by omega, by go_num, fun k hk => ?_⟩
          by_cases e : k = j
          · subst e; rw [HY.out]; exact HYX.out
          · exact HNo.out k (by omega)
        case measure => simp [intOf]; omega
    · have hlt : ¬ (j : Int) < (n : Int) := by omega
      go_wp2
      go_ret
      refine ⟨ret_bool (Eq.symm (dF ?_)), rfl⟩
      intro hm
      obtain ⟨k, hk, he⟩ := List.getElem_of_mem hm
      refine HNo.out k (by rw [HN.out] at hk; omega) ?_
      rw [List.getD_eq_getElem?_getD, List.getElem?_eq_getElem hk]
      simpa using he
end Go.Proofs.YticglfmmjgnicaaGreat

set_option linter.unusedVariables false
namespace Go.Proofs.YticglfmmjgnicaaGreat
open Go.RowKit Go.BigFrame

/-- What is found among the first j: the least that can come next, or -1. -/
def FoundF (xs : List Int) (hs cs : List (List Int)) (out : List Int) (j : Nat) (fv : Value) : Prop :=
  (fv = .int .i64 (-1) ∧ ∀ k, k < j → stepB xs hs cs out (k : Int) = false) ∨ (∃ m : Nat, j = m + 1 ∧ fv = .int .i64 (m : Int) ∧ m < hs.length ∧ stepB xs hs cs out (m : Int) = true ∧ ∀ k, k < m → stepB xs hs cs out (k : Int) = false)
set_option maxRecDepth 100000 in
set_option maxHeartbeats 16000000 in
theorem rorder_any (va vh vc : Value) (xs : List Int) (hs cs : List (List Int)) (w : World) (ha : Sl w va xs) (hh : Rws w vh hs) (hc : Rws w vc cs) :
    Calls Tryz.prog 53 #[va, vh, vc] w (PairP (ordR xs hs cs) w) := by
  have HA := Lib.hid ha
  have HH := Lib.hid hh
  have HC := Lib.hid hc
  obtain ⟨aa, ca, rfl⟩ := ha.form
  obtain ⟨ah, ch, rfl⟩ := hh.form
  obtain ⟨ac, cc, rfl⟩ := hc.form
  clear ha hh hc
  obtain ⟨L, hL⟩ : ∃ L, xs.length = L := ⟨_, rfl⟩
  obtain ⟨H, hH⟩ : ∃ L, hs.length = L := ⟨_, rfl⟩
  obtain ⟨C, hC⟩ : ∃ L, cs.length = L := ⟨_, rfl⟩
  have HXl := Lib.hid hL
  have HHl := Lib.hid hH
  have HCl := Lib.hid hC
  rw [hL] at HA ⊢
  rw [hH] at HH ⊢
  rw [hC] at HC ⊢
  clear hL hH hC
  cases hmay : bmayB xs hs cs with
  | false =>
    have HM := Lib.hid hmay
    rw [ordR_no hmay]
    clear hmay
    go_enter Tryz.func53, Tryz.ntmps53
    go_wp2_with fail
    refine (rmay_any _ _ _ xs hs cs false _ HA.out HH.out HC.out HM.out).mono ?_
    rintro e w1 ⟨rfl, ht⟩
    have HT := Lib.hid ht
    clear ht
    go_wp2
    go_ret2
    exact ⟨none, 0, rfl, Qu.nil _ _ _, HT.out⟩
  | true =>
  have HM := Lib.hid hmay
  have HMI := Lib.hid (bmay_iff.1 hmay)
  rw [ordR_yes hmay]
  clear hmay
  have hCH : C = H := by have := HMI.out.e; rw [HHl.out, HCl.out] at this; exact this.symm
  subst hCH
  have h32 : (C : Int) ≤ 32 := by have := HMI.out.m; rw [HHl.out] at this; omega
  obtain ⟨R, hR⟩ : ∃ R, gro xs hs cs hs.length = R := ⟨_, rfl⟩
  have HRes := Lib.hid hR
  rw [hR]
  clear hR
  go_enter Tryz.func53, Tryz.ntmps53
  go_wp2_with fail
  refine (rmay_any _ _ _ xs hs cs true _ HA.out HH.out HC.out HM.out).mono ?_
  rintro e w1 ⟨rfl, ht⟩
  have HT := Lib.hid ht
  clear ht
  go_wp2_with fail
  have HQ0 := Lib.hid (Qu.made (w := w1) (base := w1.heap.size) (e := 3) (b := w1.heap.size) (n := 0) (c := #[]) rfl (Nat.le_refl _) rfl (Nat.zero_le _))
  have HT1 : Hid (Touch [] w (w1.alloc (.cells #[] 3))) := Lib.hid (HT.out.alloc _)
  have HS1 : Hid (w.heap.size ≤ w1.heap.size) := Lib.hid HT.out.size
  have HA1 : Hid (Sl (w1.alloc (.cells #[] 3)) (.slice aa L ca) xs) := Lib.hid (HA.out.touch HT1.out (by simp))
  have HA2 : Hid (0 < xs.length → ∀ k, (Value.slice aa L ca).ownBlock = some k → k < w1.heap.size) := Lib.hid (fun h0 k hk => by have := HA.out.lt k hk h0; have := HS1.out; omega)
  clear HT
  go_loopg [8, 9] C (fun r ov wv wr => ∃ out : List Int, out.length + r = C ∧ gro xs hs cs out.length = some out ∧ Qu wr w1.heap.size 3 ov (out.map (Value.int .i64)) ∧ Sl wr wv (workL xs hs out) ∧ (0 < xs.length → ∀ k, wv.ownBlock = some k → ov.ownBlock ≠ some k) ∧ Touch [] w wr ∧ w1.heap.size ≤ wr.heap.size)
  case atStart => exact ⟨[], by simp, rfl, HQ0.out, HA1.out, fun h0 k hk e => by have := HA2.out h0 k hk; simp [Value.ownBlock] at e; omega, HT1.out, by simp⟩
  case round =>
    clear HQ0 HA1 HT1
    obtain ⟨out, hlen, hgr, hqo, hsw, hne, ht, hz⟩ := hrel
    have HL := Lib.hid hlen
    have HGr := Lib.hid hgr
    have HT := Lib.hid ht
    have HQ := Lib.hid hqo
    have HSW := Lib.hid hsw
    have HNE := Lib.hid hne
    have HZ0 := Lib.hid hz
    obtain ⟨oa, oc, hov⟩ := hqo.form
    subst hov
    obtain ⟨wa, wc, hwv⟩ := hsw.form
    rw [workL_length, HXl.out] at hwv
    subst hwv
    obtain ⟨O, hO⟩ : ∃ n, out.length = n := ⟨_, rfl⟩
    have HO := Lib.hid hO
    rw [hO] at HQ HNE hlen ⊢
    clear hgr ht hqo hO hsw hne hz
    by_cases hjn : O < C
    · have hlt : (O : Int) < (C : Int) := by omega
      clear hlen
      have HIN := Lib.hid (com_in (by rw [HO.out]; exact fun k hk => gro_com HGr.out k (by rw [HO.out]; exact hk)) : ∀ i, i ∈ out → 0 ≤ i ∧ i < hs.length)
      have HLN : Hid (out.length ≤ 32) := Lib.hid (by have := HO.out; omega)
      have HNX : Hid (gro xs hs cs (O + 1) = (nextN xs hs cs out).map fun (i : Nat) => out ++ [(i : Int)]) := Lib.hid (by rw [← HO.out]; exact gro_next HGr.out)
      have HSO : Hid (Sl wr (.slice oa O oc) out) := Lib.hid (Qu.sl HQ.out)
      go_wp2_with fail
      go_loopw [10, 11] (fun fv i wi => ∃ j : Nat, j ≤ C ∧ i = .int .i64 j ∧ FoundF xs hs cs out j fv ∧ Touch [] wr wi) (fun _ i _ => C + 1 - (intOf i).toNat)
      case atStart => exact ⟨0, by omega, rfl, .inl ⟨rfl, fun k hk => by omega⟩, Touch.refl _ _⟩
      case round =>
        obtain ⟨j, hj, rfl, hfd, hti⟩ := hrel
        have HTI := Lib.hid hti
        rcases hfd with ⟨rfl, hno⟩ | ⟨m, rfl, rfl, hm, hst, hno⟩
        · have HNo := Lib.hid hno
          clear hno
          by_cases hjh : j < C
          · have hlt2 : (j : Int) < (C : Int) := by omega
            have HFR : Hid (stepB xs hs cs out (j : Int) = (decide ((j : Int) ∉ out) && canB (workL xs hs out) (rw_ cs j) (rw_ hs j))) := Lib.hid (by
              unfold stepB freeB
              rw [Int.toNat_natCast]
              congr 1
              rw [Bool.eq_iff_iff, decide_eq_true_eq, decide_eq_true_eq]
              exact ⟨fun h => h.2.2, fun h => ⟨by omega, by rw [HHl.out]; omega, h⟩⟩)
            obtain ⟨gh, oh, rfl, rah, rch, sh, xh⟩ := HH.out.at (i := j) (by rw [HHl.out]; exact hjh)
            obtain ⟨gc, oc2, rfl, rac, rcc, sc, xc⟩ := HC.out.at (i := j) (by rw [HCl.out]; exact hjh)
            have hti2 := HT.out.trans hti
            have x3 : ∀ q : Later wr, q.world.cell? ⟨gh, oh + j, none⟩ = some (.slice rah (rw_ hs j).length rch) := fun q => xh _ (hti2.trans q.ok)
            have x4 : ∀ q : Later wr, q.world.cell? ⟨gc, oc2 + j, none⟩ = some (.slice rac (rw_ cs j).length rcc) := fun q => xc _ (hti2.trans q.ok)
            have SH := Lib.hid (sh.touch hti2 (by simp))
            have SC := Lib.hid (sc.touch hti2 (by simp))
            have SO := Lib.hid (HSO.out.touch hti (by simp))
            have SW := Lib.hid (HSW.out.touch hti (by simp))
            have HLT : Hid (0 ≤ (j : Int) ∧ (j : Int) < hs.length) := Lib.hid ⟨by omega, by rw [HHl.out]; omega⟩
            clear sh sc xh xc hti hti2
            by_cases hin : (j : Int) ∈ out
            · have HHAS : Hid (∀ q : Later wr, Calls Tryz.prog 42 #[.slice oa O oc, .int .i64 (j : Int)] q.world fun e w' => e = .returned (.bool true) ∧ q.world = w') := Lib.hid (fun q => by have := has_l _ out (j : Int) _ (SO.out.later q) (by have := HLN.out; omega); rwa [dT hin] at this)
              have HST : Hid (stepB xs hs cs out (j : Int) = false) := Lib.hid (by rw [HFR.out, dF (not_not_intro hin)]; rfl)
              clear hin
              go_wp2_with fail
              refine wp_region_later (by kernel_rfl) (by kernel_rfl) ?_
              repeat (first
                | (go_big_quiet_step ((first | (with_reducible rfl) | exact Later.same (HHAS.out _))))
                | (quiet_step (fail)))
              refine wpQuiet_nil ?_
              intro wq hw'
              obtain ⟨⟨wq', hwq⟩, hwe⟩ := hw'
              have hwe : wq = wq' := hwe
              subst hwe
              have HTI := Lib.hid (HTI.out.trans hwq)
              clear hwe hwq x3 x4
              go_wp2
              go_roundw
              case rel =>
                refine ⟨j + 1, by omega, by go_num, .inl ⟨rfl, fun k hk => ?_⟩, HTI.out⟩
                by_cases e : k = j
                · subst e; exact HST.out
                · exact HNo.out k (by omega)
              case measure => simp [intOf]; omega
            · have HHAS : Hid (∀ q : Later wr, Calls Tryz.prog 42 #[.slice oa O oc, .int .i64 (j : Int)] q.world fun e w' => e = .returned (.bool false) ∧ q.world = w') := Lib.hid (fun q => by have := has_l _ out (j : Int) _ (SO.out.later q) (by have := HLN.out; omega); rwa [dF hin] at this)
              have HFR2 : Hid (stepB xs hs cs out (j : Int) = canB (workL xs hs out) (rw_ cs j) (rw_ hs j)) := Lib.hid (by rw [HFR.out, dT hin, Bool.true_and])
              clear hin
              cases hcan : canB (workL xs hs out) (rw_ cs j) (rw_ hs j) with
              | false =>
                have HCN := Lib.hid hcan
                have HST : Hid (stepB xs hs cs out (j : Int) = false) := Lib.hid (by rw [HFR2.out, hcan])
                clear hcan
                go_wp2_with fail
                refine wp_region_later (by kernel_rfl) (by kernel_rfl) ?_
                repeat (first
                  | (go_big_quiet_step ((first | (with_reducible rfl) | exact Later.same (HHAS.out _) | exact Later.met (can_work HMI.out HIN.out HLN.out HLT.out.1 HLT.out.2 (SW.out.later _) (SC.out.later _) (SH.out.later _) HCN.out))))
                  | (quiet_step (fail)))
                refine wpQuiet_nil ?_
                intro wq hw'
                obtain ⟨⟨wq', hwq⟩, hwe⟩ := hw'
                have hwe : wq = wq' := hwe
                subst hwe
                have HTI := Lib.hid (HTI.out.trans hwq)
                clear hwe hwq x3 x4
                go_wp2
                go_roundw
                case rel =>
                  refine ⟨j + 1, by omega, by go_num, .inl ⟨rfl, fun k hk => ?_⟩, HTI.out⟩
                  by_cases e : k = j
                  · subst e; exact HST.out
                  · exact HNo.out k (by omega)
                case measure => simp [intOf]; omega
              | true =>
                have HCN := Lib.hid hcan
                have HST : Hid (stepB xs hs cs out (j : Int) = true) := Lib.hid (by rw [HFR2.out, hcan])
                clear hcan
                go_wp2_with fail
                refine wp_region_later (by kernel_rfl) (by kernel_rfl) ?_
                repeat (first
                  | (go_big_quiet_step ((first | (with_reducible rfl) | exact Later.same (HHAS.out _) | exact Later.met (can_work HMI.out HIN.out HLN.out HLT.out.1 HLT.out.2 (SW.out.later _) (SC.out.later _) (SH.out.later _) HCN.out))))
                  | (quiet_step (fail)))
                refine wpQuiet_nil ?_
                intro wq hw'
                obtain ⟨⟨wq', hwq⟩, hwe⟩ := hw'
                have hwe : wq = wq' := hwe
                subst hwe
                have HTI := Lib.hid (HTI.out.trans hwq)
                clear hwe hwq x3 x4
                go_wp2
                go_roundw
                case rel => exact ⟨j + 1, by omega, by go_num, .inr ⟨j, rfl, rfl, by rw [HHl.out]; exact hjh, HST.out, HNo.out⟩, HTI.out⟩
                case measure => simp [intOf]; omega
          · have hlt2 : ¬ (j : Int) < (C : Int) := by omega
            have HE : Hid (R = none) := Lib.hid (by
              rw [← HRes.out]
              refine gro_none (k := O + 1) (by rw [HHl.out]; omega) ?_
              rw [HNX.out, nextN_none (fun k hk => HNo.out k (by rw [HHl.out] at hk; omega))]
              rfl)
            have HT5 : Hid (Touch [] w wr) := Lib.hid (HT.out.trans hti)
            clear hti
            go_wp2
            go_ret2
            rw [HE.out]
            exact ⟨none, 0, rfl, Qu.nil _ _ _, HT5.out⟩
        · have HNo := Lib.hid hno
          have HN : Hid (gro xs hs cs (O + 1) = some (out ++ [(m : Int)])) := Lib.hid (by rw [HNX.out, nextN_some hm hst HNo.out]; rfl)
          have hmC : m < C := by rw [← HHl.out]; exact hm
          have hm0 : decide ((m : Int) < 0) = false := dF (by omega)
          have hm1 : (m : Int) < (C : Int) := by omega
          have HMC := Lib.hid hmC
          clear hno hst hm
          have HTW : Hid (Touch [] w wr) := Lib.hid (HT.out.trans hti)
          have HQ4 := Lib.hid (HQ.out.touch hti (fun _ _ => by simp))
          have HSW4 := Lib.hid (HSW.out.touch hti (by simp))
          have HZ : Hid (w1.heap.size ≤ wr.heap.size) := Lib.hid (by have := HZ0.out; have := hti.size; omega)
          obtain ⟨v', w5, hrn, hq', hg, hn⟩ := Qu.appendI (ys := [(m : Int)]) (HQ4.out.alloc (.cells #[.int .i64 m] 3)) (by have := HZ.out; simp; omega) (sl1 wr wr.heap.size 1 rfl (m : Int)) (by have := HLN.out; simp; omega)
          have t5 : Touch (Value.ownBlock (.slice oa O oc)).toList wr w5 := ((Touch.refl _ wr).alloc _).grown hg (fun k hk _ => Option.mem_toList.2 hk)
          have hhi : ∀ k, k ∈ (Value.ownBlock (.slice oa O oc)).toList → w1.heap.size ≤ k := fun k hk => (HQ4.out.own k (Option.mem_toList.1 hk)).1
          have HT5 : Hid (Touch [] w w5) := Lib.hid (HTW.out.transF t5 (fun i hi hlt => by have := hhi i hi; have := HS1.out; omega))
          have HSW5 : Hid (Sl w5 (.slice wa L wc) (workL xs hs out)) := Lib.hid (HSW4.out.touchL t5 (fun h0 k hk hm => HNE.out (by rw [workL_length] at h0; exact h0) k hk (Option.mem_toList.1 hm)))
          have HZ5 : Hid (w1.heap.size ≤ w5.heap.size) := Lib.hid (by have := HZ.out; have := t5.size; omega)
          obtain ⟨va', vc', hv'⟩ := Qu.form hq'
          rw [List.length_append, HO.out, show [(m : Int)].length = 1 from rfl] at hv'
          subst hv'
          have HQ5 := Lib.hid hq'
          obtain ⟨gh, oh, rfl, rah, rch, sh, xh⟩ := HH.out.at (i := m) (by rw [HHl.out]; exact hmC)
          have x3 := xh _ HT5.out
          have SH5 := Lib.hid (sh.touch HT5.out (by simp))
          have HLT : Hid (0 ≤ (m : Int) ∧ (m : Int) < hs.length) := Lib.hid ⟨by omega, by rw [HHl.out]; omega⟩
          clear hq' hg hn t5 hhi sh xh hti hmC
          go_wp2_with (first
            | (at_builtin; refine Lib.wpList_append_run _ rfl _ _ _ _ rfl _ _ rfl rfl _ _ (hrn _) ?_)
            | (go_at_call 75
               refine (more_work HMI.out HIN.out HLN.out HLT.out.1 HLT.out.2 HSW5.out SH5.out).mono ?_
               rintro e w6 ⟨v6, rfl, hq6, ht6⟩
               have HS6 := Lib.hid (Qu.sl hq6)
               have HQ6 := Lib.hid (HQ5.out.touch ht6 (fun _ _ => by simp))
               have HN6 : Hid (∀ k, v6.ownBlock = some k → (Value.slice va' (O + 1) vc').ownBlock ≠ some k) := Lib.hid (fun k hk e => by
                 have h1 := (hq6.own k hk).1
                 have h2 := (HQ5.out.own k e).2
                 omega)
               have HT6 := Lib.hid (HT5.out.trans ht6)
               have HZ6 : Hid (w1.heap.size ≤ w6.heap.size) := Lib.hid (by have := HZ5.out; have := ht6.size; omega)
               clear hq6 ht6 hrn x3))
          all_goals
           go_roundg (gk - 1)
           case measure => have := HL.out; have := HO.out; omega
           case rel => exact ⟨out ++ [(m : Int)], by have := HL.out; have := HO.out; simp; omega, by rw [List.length_append, HO.out]; exact HN.out, HQ6.out, HS6.out, fun _ => HN6.out, HT6.out, HZ6.out⟩
    · have hlt : ¬ (O : Int) < (C : Int) := by omega
      have HE : Hid (some out = R) := Lib.hid (by
        have : O = C := by omega
        rw [← HRes.out, HHl.out, ← this, ← HO.out]; exact HGr.out.symm)
      have HX : Hid (PairP R w (.returned (.tuple #[.slice oa O oc, .bool true])) wr) := Lib.hid (by
        rw [← HE.out]
        refine ⟨oa, oc, by rw [← HO.out]; rfl, ?_, HT.out⟩
        have e : (Value.slice oa ((some out).getD []).length oc) = .slice oa O oc := by rw [← HO.out]; rfl
        rw [e]
        exact HQ.out.mono HS1.out)
      clear hlen
      go_wp2
      go_ret2
      exact HX.out
end Go.Proofs.YticglfmmjgnicaaGreat

set_option linter.unusedVariables false
namespace Go.Proofs.YticglfmmjgnicaaGreat
open Go Go.RowKit Go.MapKept

/-- What a map's operations do with keys of one kind. -/
structure KeyR {κ : Type} (P : Program) (kt : TypeId) (enc : κ → Value) : Prop where
  check : ∀ (w : World) (em : Bool) (k : κ), (Instr.checkKey em 10000 kt (enc k)).run P w = .ok () w
  find : ∀ (w : World) (k : κ) (es : List MapEntry), (∀ x ∈ es, ∃ k', x.key = enc k') → ((Instr.findKey kt (enc k) es).run P w = .ok none w ∧ ∀ x ∈ es, x.key ≠ enc k) ∨ ∃ j e, (Instr.findKey kt (enc k) es).run P w = .ok (some (j, e.val)) w ∧ es[j]? = some e ∧ e.key = enc k
  stays : ∀ (w : World) (k : κ), (Instr.keyThatStays (enc k) (enc k)).run P w = .ok (enc k) w
  inj : ∀ k k', enc k = enc k' → k = k'
theorem KeyR.of {κ : Type} {P : Program} {kt : TypeId} {enc : κ → Value} (K : Maps.Keyed P kt) (hk : ∀ k, ∃ l, keyOf P kt (enc k) = some l) (hi : ∀ k k', enc k = enc k' → k = k') : KeyR P kt enc where
  check w em k := by obtain ⟨l, hl⟩ := hk k; exact K.check w em hl
  find w k es h := by obtain ⟨l, hl⟩ := hk k; exact K.find w hl es (fun e he => by obtain ⟨k', e'⟩ := h e he; obtain ⟨l', hl'⟩ := hk k'; exact ⟨l', by rw [e']; exact hl'⟩)
  stays w k := by obtain ⟨l, hl⟩ := hk k; exact K.stays w hl
  inj := hi
section
variable {κ : Type} {enc : κ → Value} {w w' : World} {b n : Nat} {m : κ → Option Value} {P : Program} {T kt et : TypeId}
theorem Mp.findG (K : KeyR P kt enc) (h : Mp enc w b m n) (k : κ) : ∃ es clock, w.heap[b]? = some (.map es clock) ∧ Stamped es clock ∧ es.size = n ∧ (∀ x ∈ es.toList, ∃ k, x.key = enc k) ∧ (∀ k v, m k = some v ↔ ∃ (i : Nat) (e : MapEntry), es[i]? = some e ∧ e.key = enc k ∧ e.val = v) ∧
    (((Instr.findKey kt (enc k) es.toList).run P w = .ok none w ∧ m k = none ∧ ∀ x ∈ es.toList, x.key ≠ enc k) ∨ ∃ j e, (Instr.findKey kt (enc k) es.toList).run P w = .ok (some (j, e.val)) w ∧ es[j]? = some e ∧ e.key = enc k ∧ m k = some e.val) := by
  obtain ⟨es, clock, h1, h2, h3, h4, h5⟩ := h
  refine ⟨es, clock, h1, h2, h3, h4, h5, ?_⟩
  rcases K.find w k es.toList h4 with ⟨q1, q2⟩ | ⟨j, e, q1, q2, q3⟩
  · refine .inl ⟨q1, ?_, q2⟩
    cases hm : m k with
    | none => rfl
    | some v =>
      obtain ⟨i, e, e1, e2, _⟩ := (h5 k v).1 hm
      exact absurd e2 (q2 e (by rw [← Array.getElem?_toList] at e1; exact List.mem_of_getElem? e1))
  · rw [Array.getElem?_toList] at q2
    exact .inr ⟨j, e, q1, q2, q3, (h5 k e.val).2 ⟨j, e, q2, q3, rfl⟩⟩
/-- What is read. -/
theorem Mp.lookG (K : KeyR P kt enc) (ht : P.underlying T = some (.map kt et)) {z : Value} (hz : (zeroValue et).run P w = .ok z w) (h : Mp enc w b m n) (k : κ) : (Instr.lookup T (.map (some b)) (enc k) false).run P w = .ok ((m k).getD z) w := by
  obtain ⟨es, clock, h1, h2, h3, h4, h5, ⟨q1, q2, _⟩ | ⟨j, e, q1, q2, q3, q4⟩⟩ := h.findG K k
  · rw [q2]
    simp [Instr.lookup, run_underlying ht, MapKept.run_getObj_map h1, K.check w _ k, q1, hz, Result.andThen]
  · rw [q4]
    simp [Instr.lookup, run_underlying ht, MapKept.run_getObj_map h1, K.check w _ k, q1, Result.andThen]
variable [DecidableEq κ]
theorem Mp.putG (K : KeyR P kt enc) (ht : P.underlying T = some (.map kt et)) (h : Mp enc w b m n) (k : κ) (v : Value) :
    ∃ w', (Instr.mapUpdate T (.map (some b)) (enc k) v).run P w = .ok () w' ∧ Mp enc w' b (putM m k v) (if (m k).isSome then n else n + 1) ∧ Touch [b] w w' ∧ w'.heap.size = w.heap.size := by
  obtain ⟨es, clock, h1, h2, h3, h4, h5, ⟨q1, q2, q5⟩ | ⟨j, e, q1, q2, q3, q4⟩⟩ := h.findG K k
  · refine ⟨_, by simp [Instr.mapUpdate, run_underlying ht, MapKept.run_getObj_map h1, K.check w _ k, q1, MapKept.run_setObj_map _ h1, Result.andThen]; rfl, ⟨_, _, (MapKept.heap_set h1).1, stamped_push h2 q5, ?_, ?_, fun k' v' => ?_⟩, touch_set, by simp⟩
    · rw [q2]; simp [h3]
    · intro x hx
      simp only [Array.toList_push, List.mem_append, List.mem_singleton] at hx
      rcases hx with hx | rfl
      · exact h4 x hx
      · exact ⟨k, rfl⟩
    · have hpush : ∀ i e, (es.push { key := enc k, val := v, born := clock })[i]? = some e ↔ es[i]? = some e ∨ (i = es.size ∧ e = { key := enc k, val := v, born := clock }) := fun i e => by
        rw [Array.getElem?_push]
        by_cases hi : i = es.size
        · subst hi
          simp
          exact eq_comm
        · simp [hi]
      unfold putM
      by_cases hk : k' = k
      · subst hk
        rw [if_pos rfl]
        constructor
        · intro hv
          cases hv
          exact ⟨es.size, _, (hpush _ _).2 (.inr ⟨rfl, rfl⟩), rfl, rfl⟩
        · rintro ⟨i, e, e1, e2, e3⟩
          rcases (hpush _ _).1 e1 with e1 | ⟨_, rfl⟩
          · exact absurd e2 (q5 e (by rw [← Array.getElem?_toList] at e1; exact List.mem_of_getElem? e1))
          · rw [← e3]
      · rw [if_neg hk, h5]
        constructor
        · rintro ⟨i, e, e1, e2, e3⟩
          exact ⟨i, e, (hpush _ _).2 (.inl e1), e2, e3⟩
        · rintro ⟨i, e, e1, e2, e3⟩
          rcases (hpush _ _).1 e1 with e1 | ⟨_, rfl⟩
          · exact ⟨i, e, e1, e2, e3⟩
          · exact absurd (K.inj _ _ e2).symm hk
  · have hkey : ∀ e', es[j]? = some e' → ({ e' with key := enc k, val := v } : MapEntry).key = e'.key := fun e' he' => by rw [q2] at he'; cases he'; exact q3.symm
    have hrun : (Instr.mapUpdate T (.map (some b)) (enc k) v).run P w = .ok () { w with heap := w.heap.setIfInBounds b (.map (es.modify j fun e => { e with key := enc k, val := v }) clock) } := by
      simp [Instr.mapUpdate, run_underlying ht, MapKept.run_getObj_map h1, K.check w _ k, q1, q2, q3, K.stays w k, MapKept.run_setObj_map _ h1, Result.andThen]
    refine ⟨_, hrun, ⟨_, _, (MapKept.heap_set h1).1, stamped_modify h2 _ (fun e => { e with key := enc k, val := v }) (fun _ _ => rfl) (fun e' _ he' => hkey e' he'), ?_, ?_, fun k' v' => ?_⟩, touch_set, by simp⟩
    · rw [q4]; simp [h3]
    · intro x hx
      rw [← Array.mem_toList_iff.symm, Array.mem_iff_getElem?] at hx
      obtain ⟨i, hi⟩ := hx
      rw [Array.getElem?_modify] at hi
      by_cases hij : j = i
      · subst hij
        rw [if_pos rfl, q2] at hi
        cases hi
        exact ⟨k, rfl⟩
      · rw [if_neg hij] at hi
        exact h4 x (by rw [← Array.getElem?_toList] at hi; exact List.mem_of_getElem? hi)
    · have hmod : ∀ i e', (es.modify j fun e => { e with key := enc k, val := v })[i]? = some e' ↔ (i = j ∧ e' = { e with key := enc k, val := v }) ∨ (i ≠ j ∧ es[i]? = some e') := fun i e' => by
        rw [Array.getElem?_modify]
        by_cases hij : j = i
        · subst hij
          rw [if_pos rfl, q2]
          simp
          exact eq_comm
        · rw [if_neg hij]
          simp [Ne.symm hij]
      unfold putM
      by_cases hk : k' = k
      · subst hk
        rw [if_pos rfl]
        constructor
        · intro hv
          cases hv
          exact ⟨j, _, (hmod _ _).2 (.inl ⟨rfl, rfl⟩), rfl, rfl⟩
        · rintro ⟨i, e', e1, e2, e3⟩
          rcases (hmod _ _).1 e1 with ⟨_, rfl⟩ | ⟨hne, e1⟩
          · rw [← e3]
          · exact absurd (keys_apart h2 e1 q2 (e2.trans q3.symm)) hne
      · rw [if_neg hk, h5]
        constructor
        · rintro ⟨i, e', e1, e2, e3⟩
          refine ⟨i, e', (hmod _ _).2 (.inr ⟨fun hij => ?_, e1⟩), e2, e3⟩
          subst hij
          rw [q2] at e1
          cases e1
          exact hk (K.inj _ _ (e2.symm.trans q3))
        · rintro ⟨i, e', e1, e2, e3⟩
          rcases (hmod _ _).1 e1 with ⟨_, rfl⟩ | ⟨hne, e1⟩
          · exact absurd (K.inj _ _ e2).symm hk
          · exact ⟨i, e', e1, e2, e3⟩
theorem Mp.dropG (K : KeyR P kt enc) (ht : P.underlying T = some (.map kt et)) (h : Mp enc w b m n) (k : κ) :
    ∃ w', (∀ ty, (Builtin.delete_ #[T, kt] ty #[.map (some b), enc k]).run P w = .ok (.tuple #[]) w') ∧ Mp enc w' b (dropM m k) (if (m k).isSome then n - 1 else n) ∧ Touch [b] w w' ∧ w'.heap.size = w.heap.size := by
  obtain ⟨es, clock, h1, h2, h3, h4, h5, ⟨q1, q2, q5⟩ | ⟨j, e, q1, q2, q3, q4⟩⟩ := h.findG K k
  · refine ⟨_, fun ty => by simp [Builtin.delete_, run_underlying ht, MapKept.run_getObj_map h1, K.check w _ k, q1, MapKept.run_setObj_map _ h1, Result.andThen], ⟨_, _, (MapKept.heap_set h1).1, h2, ?_, h4, fun k' v' => ?_⟩, touch_set, by simp⟩
    · rw [q2]; simpa using h3
    · unfold dropM
      by_cases hk : k' = k
      · subst hk
        rw [if_pos rfl, ← h5, q2]
      · rw [if_neg hk, h5]
  · have hlt : j < es.size := by
      by_cases hl : j < es.size
      · exact hl
      · rw [Array.getElem?_eq_none (by omega)] at q2; cases q2
    have her : es.eraseIdxIfInBounds j = es.eraseIdx j hlt := by unfold Array.eraseIdxIfInBounds; rw [dif_pos hlt]
    refine ⟨_, fun ty => by simp [Builtin.delete_, run_underlying ht, MapKept.run_getObj_map h1, K.check w _ k, q1, MapKept.run_setObj_map _ h1, Result.andThen]; rfl, ⟨_, _, (MapKept.heap_set h1).1, stamped_erase h2 _, ?_, ?_, fun k' v' => ?_⟩, touch_set, by simp⟩
    · rw [q4, her]; simp [h3]
    · intro x hx
      rw [her, Array.toList_eraseIdx] at hx
      exact h4 x ((List.eraseIdx_sublist _ _).subset hx)
    · have hmod : ∀ e', (∃ i, (es.eraseIdxIfInBounds j)[i]? = some e') ↔ ∃ i, i ≠ j ∧ es[i]? = some e' := fun e' => by
        rw [her]
        have hx : ∀ i, (es.eraseIdx j hlt)[i]? = if i < j then es[i]? else es[i + 1]? := fun i => by
          rw [← Array.getElem?_toList, Array.toList_eraseIdx, List.getElem?_eraseIdx]
          simp
        constructor
        · rintro ⟨i, hi⟩
          rw [hx] at hi
          by_cases hl : i < j
          · rw [if_pos hl] at hi; exact ⟨i, by omega, hi⟩
          · rw [if_neg hl] at hi; exact ⟨i + 1, by omega, hi⟩
        · rintro ⟨i, hne, hi⟩
          by_cases hl : i < j
          · exact ⟨i, by rw [hx, if_pos hl]; exact hi⟩
          · refine ⟨i - 1, ?_⟩
            rw [hx, if_neg (by omega), show i - 1 + 1 = i from by omega]
            exact hi
      unfold dropM
      by_cases hk : k' = k
      · subst hk
        rw [if_pos rfl]
        constructor
        · intro hv; cases hv
        · rintro ⟨i, e', e1, e2, e3⟩
          obtain ⟨i', hne, e1⟩ := (hmod e').1 ⟨i, e1⟩
          exact absurd (keys_apart h2 e1 q2 (e2.trans q3.symm)) hne
      · rw [if_neg hk, h5]
        constructor
        · rintro ⟨i, e', e1, e2, e3⟩
          obtain ⟨i', e1'⟩ := (hmod e').2 ⟨i, fun hij => by
            subst hij
            rw [q2] at e1
            cases e1
            exact hk (K.inj _ _ (e2.symm.trans q3)), e1⟩
          exact ⟨i', e', e1', e2, e3⟩
        · rintro ⟨i, e', e1, e2, e3⟩
          obtain ⟨i', hne, e1'⟩ := (hmod e').1 ⟨i, e1⟩
          exact ⟨i', e', e1', e2, e3⟩
end
end Go.Proofs.YticglfmmjgnicaaGreat

set_option linter.unusedVariables false
namespace Go.Proofs.YticglfmmjgnicaaGreat
open Go Go.RowKit

/-- A datum that nobody writes: its block is of F, and not of W. -/
def Im (w : World) (F W : List Nat) (v : Value) (xs : List Int) : Prop := Sl w v xs ∧ ∀ k, v.ownBlock = some k → k ∈ F ∧ k ∉ W
/-- Rows that nobody writes. -/
def Imr (w : World) (F W : List Nat) (v : Value) (l : List (List Int)) : Prop := ∃ vs : List Value, vs.length = l.length ∧ (∀ k, v.ownBlock = some k → k ∈ F ∧ k ∉ W) ∧ (∃ base, Qu w base 22 v vs) ∧ ∀ i, i < l.length → Im w F W (vs.getD i (.slice none 0 0)) (rw_ l i)
theorem Im.to {w w' : World} {F W F' W' : List Nat} {v : Value} {xs : List Int} {T : List Nat} (h : Im w F W v xs) (ht : Touch T w w') (hT : ∀ k, k ∈ T → k ∈ F → k ∈ W) (hF : ∀ k, k ∈ F → k ∈ F') (hW : ∀ k, k ∈ F → k ∈ W' → k ∈ W) : Im w' F' W' v xs :=
  ⟨h.1.touch ht (fun k hk hm => (h.2 k hk).2 (hT k hm (h.2 k hk).1)), fun k hk => ⟨hF k (h.2 k hk).1, fun hm => (h.2 k hk).2 (hW k (h.2 k hk).1 hm)⟩⟩
theorem Imr.to {w w' : World} {F W F' W' : List Nat} {v : Value} {l : List (List Int)} {T : List Nat} (h : Imr w F W v l) (ht : Touch T w w') (hT : ∀ k, k ∈ T → k ∈ F → k ∈ W) (hF : ∀ k, k ∈ F → k ∈ F') (hW : ∀ k, k ∈ F → k ∈ W' → k ∈ W) : Imr w' F' W' v l := by
  obtain ⟨vs, h1, h2, ⟨base, h3⟩, h4⟩ := h
  exact ⟨vs, h1, fun k hk => ⟨hF k (h2 k hk).1, fun hm => (h2 k hk).2 (hW k (h2 k hk).1 hm)⟩, ⟨base, h3.touch ht (fun k hk hm => (h2 k hk).2 (hT k hm (h2 k hk).1))⟩, fun i hi => (h4 i hi).to ht hT hF hW⟩
theorem Imr.rws {w : World} {F W : List Nat} {v : Value} {l : List (List Int)} (h : Imr w F W v l) : Rws w v l := by
  obtain ⟨vs, h1, h2, ⟨base, h3⟩, h4⟩ := h
  exact h3.rws h1 (fun i hi => (h4 i hi).1)
/-- Keys of a process and a class. -/
abbrev KP := {p : Int × Int // InI p.1 ∧ InI p.2}
def shK (p : KP) : Value := .agg #[.int .i64 p.1.1, .int .i64 p.1.2]
theorem wf_of {a : Int} (h : InI a) : (Lit.int .i64 a).wf = true := by
  unfold InI at h
  simp [Lit.wf, IntKind.min, IntKind.max, IntKind.signed, IntKind.bits]
  omega
theorem sh_cells : Tryz.prog.cellsOf 111 = 2 := by kernel_rfl
theorem sh_cellsI : Tryz.prog.cellsOf 3 = 1 := by kernel_rfl
theorem sh_lits (d : Nat) {a b : Int} (ha : InI a) (hb : InI b) : ∃ ls, Tryz.prog.keyLits (d + 2) 111 [.int .i64 a, .int .i64 b] = some ls := by
  have e1 : Tryz.prog.keyLits (d + 1) 3 [.int .i64 a] = some [.int .i64 a] := by simp [Program.keyLits, Tryz.underlying3, wf_of ha]
  have e2 : Tryz.prog.keyLits (d + 1) 3 [.int .i64 b] = some [.int .i64 b] := by simp [Program.keyLits, Tryz.underlying3, wf_of hb]
  unfold Program.keyLits
  simp [Tryz.underlying111, sh_cells, sh_cellsI, e1, e2]
theorem sh_two : 1 < Tryz.prog.types.size := of_decide_eq_true (by kernel_rfl)
theorem sh_of (k : KP) : ∃ l, keyOf Tryz.prog 111 (shK k) = some l := by
  obtain ⟨⟨a, b⟩, ha, hb⟩ := k
  obtain ⟨d, hd⟩ : ∃ d, Tryz.prog.types.size + 1 = d + 2 := by
    have h := sh_two
    generalize Tryz.prog.types.size = N at h ⊢
    exact ⟨N - 1, by omega⟩
  obtain ⟨ls, hls⟩ := sh_lits d ha hb
  have hk : Tryz.prog.keyType 111 = true := by kernel_rfl
  refine ⟨.string (keyBytes ls), ?_⟩
  unfold keyOf
  simp only [Tryz.underlying111]
  rw [hk, hd]
  simp [shK, Value.formed, Value.cells, Tryz.underlying111, sh_cells, hls]
theorem sh_inj (k k' : KP) (h : shK k = shK k') : k = k' := by
  obtain ⟨⟨a, b⟩, _⟩ := k
  obtain ⟨⟨c, d⟩, _⟩ := k'
  simp [shK] at h
  obtain ⟨rfl, rfl⟩ := h
  rfl
theorem shWide : (match Tryz.prog.underlying 111 with | some (.array _ _) | some (.struct _) => true | _ => false) = true := by rw [Tryz.underlying111]
theorem shLaid : laidOutB Tryz.prog = true := by kernel_rfl
theorem shRow : (111 : TypeId) < Tryz.prog.types.size := of_decide_eq_true (by kernel_rfl)
theorem shDeep : Tryz.prog.keyTypeAt 2 111 = true := by kernel_rfl
set_option maxRecDepth 100000 in
theorem shKey : KeyR Tryz.prog 111 shK :=
  KeyR.of (Maps.Keyed.of_law (deep_law_laid shLaid (m := 2) (by omega) shRow shDeep shWide)) sh_of sh_inj
/-- What is pending, as cells. -/
def askF (l : List (Int × List Int)) (pu : Nat → Value) (i j : Nat) : Value := if j = 0 then .int .i64 (l.getD i (0, [])).1 else pu i
structure PaP where
  tv : Value
  bc : Nat
  bh : Nat
  pv : Value
  sv : Value
  mc : Int → Option Value
  mh : KP → Option Value
  nh : Nat
  pu : Nat → Value
  pd : List (Int × List Int)
def PaP.W (p : PaP) (b : Nat) : List Nat := [b, p.bc, p.bh] ++ p.pv.ownBlock.toList
/-- The state that has been looked at. -/
structure StP (w : World) (F W : List Nat) (s : Nat) (pv av hv cv : Value) (m : Am) : Prop where
  obj : ∃ x, Blk w s #[.int .u32 1, .int .i32 0, x, pv, av, hv, cv] 89
  f : s ∈ F ∧ s ∉ W
  ps : Im w F W pv m.ps
  av : Im w F W av m.avl
  hs : Imr w F W hv m.hs
  cs : Imr w F W cv m.cs
/-- All of it but what has been looked at. -/
structure Pb (w : World) (F : List Nat) (b : Nat) (m : Am) (p : PaP) : Prop where
  obj : Blk w b #[p.tv, .bool m.clm, .map (some p.bc), .map (some p.bh), p.pv, p.sv] 73
  lt : ∀ k, k ∈ F → k < w.heap.size
  fw : ∀ k, k ∈ p.W b → k ∈ F
  nd : (p.W b).Nodup
  tot : Im w F (p.W b) p.tv m.tot
  mc : Mp (Value.int .i64) w p.bc p.mc m.ps.length
  mcv : ∀ q, (q ∈ m.ps → ∃ v, p.mc q = some v ∧ Im w F (p.W b) v (m.claim q)) ∧ (q ∉ m.ps → p.mc q = none)
  mh : Mp shK w p.bh p.mh p.nh
  mhv : ∀ k : KP, p.mh k = if k.1.1 ∈ m.ps ∧ 0 ≤ k.1.2 ∧ k.1.2 < m.tot.length ∧ (m.held k.1.1).getD k.1.2.toNat 0 ≠ 0 then some (.int .i64 ((m.held k.1.1).getD k.1.2.toNat 0)) else none
  pend : ∃ base, Av w base 58 2 p.pv p.pd.length (askF p.pd p.pu)
  pu : ∀ i, i < p.pd.length → Im w F (p.W b) (p.pu i) (p.pd.getD i (0, [])).2
structure Pa (w : World) (F : List Nat) (b : Nat) (m : Am) (p : PaP) : Prop extends Pb w F b m p where
  seen : p.sv = .pointer none ∨ ∃ s pv av hv cv, p.sv = .pointer (some ⟨s, 0, none⟩) ∧ StP w F (p.W b) s pv av hv cv m
/-- All new blocks. -/
def grow (F : List Nat) (w w' : World) : List Nat := F ++ List.range' w.heap.size (w'.heap.size - w.heap.size)
theorem grow_mem {F : List Nat} {w w' : World} {k : Nat} : k ∈ grow F w w' ↔ k ∈ F ∨ (w.heap.size ≤ k ∧ k < w'.heap.size) := by
  unfold grow
  rw [List.mem_append, List.mem_range'_1]
  constructor
  · rintro (h | ⟨h1, h2⟩)
    · exact .inl h
    · exact .inr ⟨h1, by omega⟩
  · rintro (h | ⟨h1, h2⟩)
    · exact .inl h
    · exact .inr ⟨h1, by omega⟩
theorem grow_fr {F : List Nat} {w w' : World} (hl : ∀ k, k ∈ F → k < w.heap.size) (ht : Touch F w w') : Fr F w (grow F w w') w' :=
  ⟨ht, fun k hk => by rcases grow_mem.1 hk with h | h; exact .inl h; exact .inr h.1, fun k hk => by rcases grow_mem.1 hk with h | h; exact Nat.lt_of_lt_of_le (hl k h) ht.size; exact h.2⟩
theorem StP.to {w w' : World} {F W F' W' : List Nat} {s : Nat} {pv av hv cv : Value} {m : Am} {T : List Nat} (h : StP w F W s pv av hv cv m) (ht : Touch T w w') (hT : ∀ k, k ∈ T → k ∈ F → k ∈ W) (hF : ∀ k, k ∈ F → k ∈ F') (hW : ∀ k, k ∈ F → k ∈ W' → k ∈ W) : StP w' F' W' s pv av hv cv m := by
  obtain ⟨⟨x, hx⟩, h2, h3, h4, h5, h6⟩ := h
  exact ⟨⟨x, hx.touch ht (fun hm => h2.2 (hT s hm h2.1))⟩, ⟨hF s h2.1, fun hm => h2.2 (hW s h2.1 hm)⟩, h3.to ht hT hF hW, h4.to ht hT hF hW, h5.to ht hT hF hW, h6.to ht hT hF hW⟩
/-- Calls that touch nothing of it leave it as it is; its blocks may be told to be more. -/
theorem Pb.touch {w w' : World} {F F' : List Nat} {b : Nat} {m : Am} {p : PaP} {T : List Nat} (h : Pb w F b m p) (ht : Touch T w w') (hT : ∀ k, k ∈ T → k ∉ F) (hF : ∀ k, k ∈ F → k ∈ F') (hl : ∀ k, k ∈ F' → k < w'.heap.size) : Pb w' F' b m p := by
  have hw : ∀ k, k ∈ T → k ∈ F → k ∈ p.W b := fun k h1 h2 => absurd h2 (hT k h1)
  have hn : ∀ k, k ∈ p.W b → k ∉ T := fun k hk hm => hT k hm (h.fw k hk)
  have hs : ∀ k, k ∈ F → k ∈ p.W b → k ∈ p.W b := fun k _ hk => hk
  obtain ⟨base, hp⟩ := h.pend
  refine ⟨h.obj.touch ht (hn b (by simp [PaP.W])), hl, fun k hk => hF k (h.fw k hk), h.nd, h.tot.to ht hw hF hs, h.mc.touch ht (hn _ (by simp [PaP.W])), fun q => ⟨fun hq => ?_, (h.mcv q).2⟩, h.mh.touch ht (hn _ (by simp [PaP.W])), h.mhv, ⟨base, hp.touch ht (fun k hk => hn k (by simp [PaP.W, hk]))⟩, fun i hi => (h.pu i hi).to ht hw hF hs⟩
  obtain ⟨v, h1, h2⟩ := (h.mcv q).1 hq
  exact ⟨v, h1, h2.to ht hw hF hs⟩
theorem Pa.touch {w w' : World} {F F' : List Nat} {b : Nat} {m : Am} {p : PaP} {T : List Nat} (h : Pa w F b m p) (ht : Touch T w w') (hT : ∀ k, k ∈ T → k ∉ F) (hF : ∀ k, k ∈ F → k ∈ F') (hl : ∀ k, k ∈ F' → k < w'.heap.size) : Pa w' F' b m p := by
  refine ⟨h.toPb.touch ht hT hF hl, ?_⟩
  rcases h.seen with e | ⟨s, pv, av, hv, cv, e, h1⟩
  · exact .inl e
  · exact .inr ⟨s, pv, av, hv, cv, e, h1.to ht (fun k h1 h2 => absurd h2 (hT k h1)) hF (fun k _ hk => hk)⟩
theorem Pb.same {w w' : World} {F : List Nat} {b : Nat} {m : Am} {p : PaP} (h : Pb w F b m p) (ht : Touch [] w w') : Pb w' F b m p := h.touch ht (by simp) (fun k hk => hk) (fun k hk => Nat.lt_of_lt_of_le (h.lt k hk) ht.size)
theorem Pa.same {w w' : World} {F : List Nat} {b : Nat} {m : Am} {p : PaP} (h : Pa w F b m p) (ht : Touch [] w w') : Pa w' F b m p := h.touch ht (by simp) (fun k hk => hk) (fun k hk => Nat.lt_of_lt_of_le (h.lt k hk) ht.size)
theorem Pa.more {w w' : World} {F : List Nat} {b : Nat} {m : Am} {p : PaP} (h : Pa w F b m p) (ht : Touch [] w w') : Pa w' (grow F w w') b m p :=
  h.touch ht (by simp) (fun k hk => grow_mem.2 (.inl hk)) (fun k hk => by rcases grow_mem.1 hk with e | e; exact Nat.lt_of_lt_of_le (h.lt k e) ht.size; exact e.2)
/-- The list that is pending in memory is the table's own matter (p.pd); the model's may be another one while the list is gone through. -/
theorem StP.withP {w : World} {F W : List Nat} {s : Nat} {pv av hv cv : Value} {m : Am} (h : StP w F W s pv av hv cv m) (q : List (Int × List Int)) : StP w F W s pv av hv cv (m.withP q) := ⟨h.obj, h.f, h.ps, h.av, h.hs, h.cs⟩
theorem Pb.withP {w : World} {F : List Nat} {b : Nat} {m : Am} {p : PaP} (h : Pb w F b m p) (q : List (Int × List Int)) : Pb w F b (m.withP q) p := ⟨h.obj, h.lt, h.fw, h.nd, h.tot, h.mc, h.mcv, h.mh, h.mhv, h.pend, h.pu⟩
theorem Pa.withP {w : World} {F : List Nat} {b : Nat} {m : Am} {p : PaP} (h : Pa w F b m p) (q : List (Int × List Int)) : Pa w F b (m.withP q) p :=
  ⟨h.toPb.withP q, by
    rcases h.seen with e | ⟨s, pv, av, hv, cv, e, h1⟩
    · exact .inl e
    · exact .inr ⟨s, pv, av, hv, cv, e, h1.withP q⟩⟩
end Go.Proofs.YticglfmmjgnicaaGreat

set_option linter.unusedVariables false
namespace Go.Proofs.YticglfmmjgnicaaGreat
open Go Go.RowKit

theorem Pb.blk {w : World} {F : List Nat} {b : Nat} {m : Am} {p : PaP} (h : Pb w F b m p) : Blk w b #[p.tv, .bool m.clm, .map (some p.bc), .map (some p.bh), p.pv, p.sv] 73 := h.obj
theorem Pb.isIn {w : World} {F : List Nat} {b : Nat} {m : Am} {p : PaP} (h : Pb w F b m p) (q : Int) : (p.mc q).isSome = decide (q ∈ m.ps) := by
  by_cases hq : q ∈ m.ps
  · obtain ⟨v, e, _⟩ := (h.mcv q).1 hq
    rw [e, dT hq]; rfl
  · rw [(h.mcv q).2 hq, dF hq]; rfl
theorem isIn_any (w : World) (F : List Nat) (b : Nat) (m : Am) (p : PaP) (q : Int) (h : Pb w F b m p) : Calls Tryz.prog 51 #[.pointer (some ⟨b, 0, none⟩), .int .i64 q] w fun e w' => e = .returned (.bool (decide (q ∈ m.ps))) ∧ w = w' := by
  have hk := h.mc.lookRO q
  have c2 := h.blk.cell (i := 2) rfl
  rw [h.isIn q] at hk
  obtain ⟨B, hB⟩ : ∃ B, decide (q ∈ m.ps) = B := ⟨_, rfl⟩
  rw [hB] at hk ⊢
  clear h hB
  go_enter Tryz.func51, Tryz.ntmps51
  go_wp2
  go_ret
  exact ⟨rfl, rfl⟩
theorem areUnits_any (w : World) (F : List Nat) (b : Nat) (m : Am) (p : PaP) (v : Value) (u : List Int) (h : Pb w F b m p) (hm : m.tot.length ≤ 6) (hu : Sl w v u) : Calls Tryz.prog 62 #[.pointer (some ⟨b, 0, none⟩), v] w fun e w' => e = .returned (.bool (isB u m.tot.length)) ∧ w = w' := by
  have c0 := h.blk.cell (i := 0) rfl
  obtain ⟨ta, tc, ht⟩ := h.tot.1.form
  rw [ht] at c0
  obtain ⟨n, hn⟩ : ∃ n, m.tot.length = n := ⟨_, rfl⟩
  have HU := Lib.hid hu
  rw [hn] at c0 hm ⊢
  obtain ⟨ua, uc, rfl⟩ := hu.form
  obtain ⟨B, hB⟩ : ∃ B, isB u n = B := ⟨_, rfl⟩
  have HB := Lib.hid hB
  rw [hB]
  clear h ht hn hu hB
  go_enter Tryz.func62, Tryz.ntmps62
  go_wp2_with fail
  refine (is_w _ u (n : Int) B _ HU.out (by omega) HB.out).mono ?_
  rintro e w1 ⟨rfl, rfl⟩
  go_wp2
  go_ret
  exact ⟨rfl, rfl⟩
theorem zeroI (w : World) : (zeroValue 3).run Tryz.prog w = .ok (.int .i64 0) w := by kernel_rfl
theorem Mp.lookS {w : World} {b n : Nat} {m : KP → Option Value} (h : Mp shK w b m n) (k : KP) : (Instr.lookup 70 (.map (some b)) (shK k) false).run Tryz.prog w = .ok ((m k).getD (.int .i64 0)) w :=
  h.lookG shKey Tryz.underlying70 (zeroI w) k
/-- What one holds of a class, as the map has it. -/
theorem Pb.hv {w : World} {F : List Nat} {b : Nat} {m : Am} {p : PaP} (h : Pb w F b m p) {q : Int} (hq : q ∈ m.ps) {c : Nat} (hc : c < m.tot.length) (hk : InI q ∧ InI (c : Int)) : (p.mh ⟨(q, (c : Int)), hk⟩).getD (.int .i64 0) = .int .i64 ((m.held q).getD c 0) := by
  rw [h.mhv]
  show (if q ∈ m.ps ∧ 0 ≤ (c : Int) ∧ (c : Int) < m.tot.length ∧ (m.held q).getD (c : Int).toNat 0 ≠ 0 then some (Value.int .i64 ((m.held q).getD (c : Int).toNat 0)) else none).getD (.int .i64 0) = _
  rw [Int.toNat_natCast]
  by_cases e : (m.held q).getD c 0 = 0
  · rw [if_neg (fun h => h.2.2.2 e), e]; rfl
  · rw [if_pos ⟨hq, by omega, by omega, e⟩]; rfl
def rowF (xs : List Int) (k : Nat) : Nat → Int := fun j => if j < k then xs.getD j 0 else 0
theorem rowF_all {xs : List Int} {n : Nat} (hl : xs.length = n) : (rowA (rowF xs n) n).toList = xs.map (Value.int .i64) := by
  subst hl
  apply List.ext_getElem?
  intro j
  by_cases h : j < xs.length
  · simp [rowA, rowF, h]
  · rw [List.getElem?_eq_none (by simp [rowA]; omega), List.getElem?_eq_none (by simp; omega)]
theorem rowF_set (xs : List Int) (n k : Nat) : (rowA (rowF xs k) n).setIfInBounds k (.int .i64 (xs.getD k 0)) = rowA (rowF xs (k + 1)) n := by
  rw [rowA_set]
  apply rowA_congr
  intro j hj
  unfold rowF
  by_cases e : j = k
  · subst e; rw [if_pos rfl, if_pos (by omega)]
  · rw [if_neg e]
    by_cases h : j < k
    · rw [if_pos h, if_pos (by omega)]
    · rw [if_neg h, if_neg (by omega)]
set_option maxHeartbeats 4000000 in
theorem row_any (w : World) (F : List Nat) (b : Nat) (m : Am) (p : PaP) (q : Int) (h : Pb w F b m p) (hm : m.tot.length ≤ 6) (hq : q ∈ m.ps) (hl : (m.held q).length = m.tot.length) (hi : InI q) : Calls Tryz.prog 52 #[.pointer (some ⟨b, 0, none⟩), .int .i64 q] w (Own (m.held q) w) := by
  have c0 := h.blk.cell (i := 0) rfl
  obtain ⟨ta, tc, ht⟩ := h.tot.1.form
  rw [ht] at c0
  obtain ⟨n, hn⟩ : ∃ n, m.tot.length = n := ⟨_, rfl⟩
  have HP := Lib.hid h
  have HN := Lib.hid hn
  have HHL := Lib.hid hl
  rw [hn] at c0 hm
  obtain ⟨xs, hxs⟩ : ∃ xs, m.held q = xs := ⟨_, rfl⟩
  have HXS := Lib.hid hxs
  rw [hxs]
  have HQ := Lib.hid hq
  have HI := Lib.hid hi
  have hmk := run_mk_of (P := Tryz.prog) 22 3 Tryz.underlying22 (by kernel_rfl) n (by omega) w
  clear h ht hn hl hq hi hxs
  have hb : Blk (w.alloc (.cells (rowA (fun _ => 0) n) 3)) w.heap.size (rowA (rowF xs 0) n) 3 := by
    rw [show rowF xs 0 = (fun _ => 0) from by funext j; simp [rowF]]
    exact Blk.new rfl
  have HB := Lib.hid hb
  have HT := Lib.hid ((Touch.refl [] w).alloc (.cells (rowA (fun _ => 0) n) 3))
  clear hb
  go_enter Tryz.func52, Tryz.ntmps52
  go_wp2_with fail
  clear hmk c0
  go_loopw [15] (fun i wr => ∃ j : Nat, j ≤ n ∧ i = .int .i64 j ∧ Blk wr w.heap.size (rowA (rowF xs j) n) 3 ∧ Touch [] w wr) (fun i _ => n + 1 - (intOf i).toNat)
  case atStart => exact ⟨0, by omega, rfl, HB.out, HT.out⟩
  case round =>
    clear HB HT
    obtain ⟨j, hj, rfl, hb, ht⟩ := hrel
    have HT := Lib.hid ht
    have HB := Lib.hid hb
    by_cases hjn : j < n
    · have hlt : (j : Int) < (n : Int) := by omega
      have hp := HP.out.same ht
      have hj1 : InI (j : Int) := by unfold InI; omega
      have hlk0 := hp.mh.lookS ⟨(q, (j : Int)), HI.out, hj1⟩
      rw [hp.hv HQ.out (by rw [HN.out]; exact hjn) ⟨HI.out, hj1⟩, HXS.out] at hlk0
      have hlk : (Instr.lookup 70 (.map (some p.bh)) (.agg #[.int .i64 q, .int .i64 (j : Int)]) false).run Tryz.prog wr = .ok (.int .i64 (xs.getD j 0)) wr := hlk0
      have c3 := hp.blk.cell (i := 3) rfl
      have hc : wr.cell? ⟨w.heap.size, j, none⟩ = some (.int .i64 0) := hb.cell (by rw [rowA_get _ _ _ hjn]; simp [rowF])
      have hf := hb.free j
      obtain ⟨y, hy⟩ : ∃ x, xs.getD j 0 = x := ⟨_, rfl⟩
      have HS : Hid (Blk (wr.setCell ⟨w.heap.size, j, none⟩ (.int .i64 y)) w.heap.size (rowA (rowF xs (j + 1)) n) 3) := Lib.hid (by rw [← rowF_set, hy]; exact hb.set j _)
      have HT2 : Hid (Touch [] w (wr.setCell ⟨w.heap.size, j, none⟩ (.int .i64 y))) := Lib.hid (HT.out.setNew (Nat.le_refl _) _)
      rw [hy] at hlk
      clear hlk0
      clear ht hb hp hy hj1
      go_wp2
      go_roundw
      case rel => exact ⟨j + 1, by omega, by go_num, HS.out, HT2.out⟩
      case measure => simp [intOf]; omega
    · have hlt : ¬ (j : Int) < (n : Int) := by omega
      obtain rfl : j = n := by omega
      have hxl : xs.length = j := by rw [← HXS.out, HHL.out, HN.out]
      have HF : Hid (Qu wr w.heap.size 3 (.slice (some ⟨w.heap.size, 0, none⟩) j j) (xs.map (Value.int .i64))) := Lib.hid (.inr ⟨_, 0, j, _, by simp [hxl], Nat.le_refl _, hb, by simp [hxl], by unfold maxLen; omega, by simp [rowA_size], fun i hi => by
        rw [Nat.zero_add, ← Array.getElem?_toList, rowF_all hxl]⟩)
      clear ht hb hxl
      go_wp2
      go_ret
      exact ⟨_, rfl, HF.out, HT.out⟩
theorem held_in (w : World) (F : List Nat) (b : Nat) (m : Am) (p : PaP) (q : Int) (h : Pb w F b m p) (hm : m.tot.length ≤ 6) (hq : q ∈ m.ps) (hl : (m.held q).length = m.tot.length) (hi : InI q) : Calls Tryz.prog 19 #[.pointer (some ⟨b, 0, none⟩), .int .i64 q] w (Own (m.held q) w) := by
  have H1 := Lib.hid (isIn_any w F b m p q h)
  have H2 := Lib.hid (row_any w F b m p q h hm hq hl hi)
  have hd : decide (q ∈ m.ps) = true := dT hq
  rw [hd] at H1
  clear h hm hq hl hi hd
  go_enter Tryz.func19, Tryz.ntmps19
  go_wp2_with fail
  refine H1.out.mono ?_
  rintro e w1 ⟨rfl, rfl⟩
  go_wp2_with fail
  refine H2.out.mono ?_
  rintro e w1 ⟨v, rfl, hq, ht⟩
  have HF := Lib.hid (And.intro hq ht)
  clear hq ht
  go_wp2
  go_ret
  exact ⟨_, rfl, HF.out.1, HF.out.2⟩
theorem claim_in (w : World) (F : List Nat) (b : Nat) (m : Am) (p : PaP) (q : Int) (h : Pb w F b m p) (hq : q ∈ m.ps) (hl : (m.claim q).length ≤ 6) : Calls Tryz.prog 20 #[.pointer (some ⟨b, 0, none⟩), .int .i64 q] w (Own (m.claim q) w) := by
  have H1 := Lib.hid (isIn_any w F b m p q h)
  have hd : decide (q ∈ m.ps) = true := dT hq
  rw [hd] at H1
  obtain ⟨v, hv, hs⟩ := (h.mcv q).1 hq
  have hk := h.mc.lookR q
  rw [hv] at hk
  have hk : (Instr.lookup 69 (.map (some p.bc)) (.int .i64 q) false).run Tryz.prog w = .ok v w := hk
  have c2 := h.blk.cell (i := 2) rfl
  obtain ⟨va, vc, rfl⟩ := hs.1.form
  have H2 := Lib.hid (clone_any _ _ w hs.1 (by omega))
  clear h hq hl hd hv hs
  go_enter Tryz.func20, Tryz.ntmps20
  go_wp2_with fail
  refine H1.out.mono ?_
  rintro e w1 ⟨rfl, rfl⟩
  go_wp2_with fail
  refine H2.out.mono ?_
  rintro e w1 ⟨v, rfl, hq, ht⟩
  have HF := Lib.hid (And.intro hq ht)
  clear hq ht hk c2
  go_wp2
  go_ret
  exact ⟨_, rfl, HF.out.1, HF.out.2⟩
end Go.Proofs.YticglfmmjgnicaaGreat

set_option linter.unusedVariables false
namespace Go.Proofs.YticglfmmjgnicaaGreat
open Go.RowKit

/-- v is a list of the call's own; its elements' numbers lie in the blocks D. -/
def Lr (w : World) (base : Nat) (v : Value) (l : List (List Int)) (D : List Nat) : Prop :=
  ∃ vs : List Value, Qu w base 22 v vs ∧ vs.length = l.length ∧ ∀ i, i < l.length → Sl w (vs.getD i (.slice none 0 0)) (rw_ l i) ∧ ∀ k, (vs.getD i (.slice none 0 0)).ownBlock = some k → k ∈ D
theorem Lr.rws {w : World} {base : Nat} {v : Value} {l : List (List Int)} {D : List Nat} (h : Lr w base v l D) : Rws w v l := by
  obtain ⟨vs, h1, h2, h3⟩ := h
  exact h1.rws h2 (fun i hi => (h3 i hi).1)
theorem Lr.touch {w w' : World} {base : Nat} {v : Value} {l : List (List Int)} {D T : List Nat} (h : Lr w base v l D) (ht : Touch T w w') (h1 : ∀ k, v.ownBlock = some k → k ∉ T) (h2 : ∀ k, k ∈ D → k ∉ T) : Lr w' base v l D := by
  obtain ⟨vs, q1, q2, q3⟩ := h
  exact ⟨vs, q1.touch ht h1, q2, fun i hi => ⟨(q3 i hi).1.touch ht (fun k hk => h2 k ((q3 i hi).2 k hk)), (q3 i hi).2⟩⟩
theorem Lr.form {w : World} {base : Nat} {v : Value} {l : List (List Int)} {D : List Nat} (h : Lr w base v l D) : ∃ a c, v = .slice a l.length c := h.rws.form
theorem Lr.own {w : World} {base : Nat} {v : Value} {l : List (List Int)} {D : List Nat} (h : Lr w base v l D) : ∀ k, v.ownBlock = some k → base ≤ k ∧ k < w.heap.size := by
  obtain ⟨vs, q1, q2, q3⟩ := h
  exact q1.own
theorem Lr.wider {w : World} {base : Nat} {v : Value} {l : List (List Int)} {D D' : List Nat} (h : Lr w base v l D) (hD : ∀ k, k ∈ D → k ∈ D') : Lr w base v l D' := by
  obtain ⟨vs, q1, q2, q3⟩ := h
  exact ⟨vs, q1, q2, fun i hi => ⟨(q3 i hi).1, fun k hk => hD k ((q3 i hi).2 k hk)⟩⟩
/-- An empty one. -/
theorem Lr.empty {w : World} {base : Nat} (hb : base ≤ w.heap.size) : Lr (w.alloc (.cells #[] 22)) base (.slice (some ⟨w.heap.size, 0, none⟩) 0 0) [] [] :=
  ⟨[], Qu.made rfl hb rfl (Nat.zero_le _), rfl, fun i hi => by simp at hi⟩
theorem infoR : ∃ i0 : TypeInfo, Tryz.prog.info? 22 = some i0 ∧ i0.zero = some (.slice none 0 0) ∧ i0.size = 1 ∧ i0.bytes = 24 :=
  info_parts (show (Tryz.prog.info? 22).map (fun i => (i.zero, i.size, i.bytes)) = some (some (.slice none 0 0), 1, 24) from by kernel_rfl)
theorem rw_snoc_old (l : List (List Int)) (x : List Int) {i : Nat} (h : i < l.length) : rw_ (l ++ [x]) i = rw_ l i := by
  unfold rw_
  rw [List.getD_eq_getElem?_getD, List.getD_eq_getElem?_getD, List.getElem?_append_left h]
theorem rw_snoc_new (l : List (List Int)) (x : List Int) : rw_ (l ++ [x]) l.length = x := by
  unfold rw_
  rw [List.getD_eq_getElem?_getD, List.getElem?_append_right (Nat.le_refl _)]
  simp
theorem Lr.append {w : World} {base : Nat} {v : Value} {l : List (List Int)} {D : List Nat} (h : Lr w base v l D) (hbase : base ≤ w.heap.size) (hD : ∀ k, k ∈ D → k < w.heap.size) (hv : ∀ k, v.ownBlock = some k → k ∉ D) (hl : l.length ≤ 1000) (a b : Int) :
    ∃ v' w3, (∀ ty, (Builtin.append_ #[45, 45] ty #[v, .slice (some ⟨w.heap.size + 1, 0, none⟩) 1 1]).run Tryz.prog ((w.alloc (.cells #[.int .i64 a, .int .i64 b] 3)).alloc (.cells #[.slice (some ⟨w.heap.size, 0, none⟩) 2 2] 22)) = .ok v' w3) ∧
      Lr w3 base v' (l ++ [[a, b]]) (w.heap.size :: D) ∧ Touch v.ownBlock.toList w w3 ∧ (∀ k, v'.ownBlock = some k → v.ownBlock = some k ∨ w.heap.size + 2 ≤ k) ∧ w.heap.size + 2 ≤ w3.heap.size ∧ ∃ a' c', v' = .slice a' (l.length + 1) c' := by
  obtain ⟨i0, hi, hz0, hz1, hz2⟩ := infoR
  obtain ⟨vs, q1, q2, q3⟩ := h
  have hown := q1.own
  have t2 : Touch [] w ((w.alloc (.cells #[.int .i64 a, .int .i64 b] 3)).alloc (.cells #[.slice (some ⟨w.heap.size, 0, none⟩) 2 2] 22)) := ((Touch.refl [] w).alloc _).alloc _
  obtain ⟨W2, hW2⟩ : ∃ W, ((w.alloc (.cells #[.int .i64 a, .int .i64 b] 3)).alloc (.cells #[.slice (some ⟨w.heap.size, 0, none⟩) 2 2] 22)) = W := ⟨_, rfl⟩
  have hsz : W2.heap.size = w.heap.size + 2 := by rw [← hW2]; simp
  have hx : W2.cell? ⟨w.heap.size + 1, 0, none⟩ = some (.slice (some ⟨w.heap.size, 0, none⟩) 2 2) := by
    rw [← hW2]
    exact (Blk.new (w := w.alloc (.cells #[.int .i64 a, .int .i64 b] 3)) (b := w.heap.size + 1) (by simp)).cell (i := 0) rfl
  have hp : Sl W2 (.slice (some ⟨w.heap.size, 0, none⟩) 2 2) [a, b] := by
    rw [← hW2]
    exact Sl.alloc ⟨_, 2, rfl, .inr ⟨w.heap.size, 0, rfl, by simp, row2 w a b _ _ rfl⟩⟩ _
  rw [hW2] at t2 ⊢
  have q1' := q1.touch t2 (fun _ _ => by simp)
  obtain ⟨v', w3, hr, hq, hg, hn⟩ := q1'.append (t := 45) Tryz.underlying45 hi hz0 hz1 hz2 rfl (by omega) ⟨w.heap.size + 1, 0, none⟩ 1 _ hx rfl (by omega) (by omega)
  have t3 : Touch v.ownBlock.toList W2 w3 := (Touch.refl _ W2).grown hg (fun k hk _ => Option.mem_toList.2 hk)
  refine ⟨v', w3, hr, ⟨_, hq, by simp [q2], fun i hi => ?_⟩, (t2.mono (by simp)).trans t3, fun k hk => ?_, by have := t3.size; omega, ?_⟩
  · by_cases hil : i < l.length
    · rw [rw_snoc_old _ _ hil, show (vs ++ [Value.slice (some ⟨w.heap.size, 0, none⟩) 2 2]).getD i (.slice none 0 0) = vs.getD i (.slice none 0 0) from by
        rw [List.getD_eq_getElem?_getD, List.getD_eq_getElem?_getD, List.getElem?_append_left (by omega)]]
      obtain ⟨p1, p2⟩ := q3 i hil
      exact ⟨(p1.touch t2 (by simp)).touch t3 (fun k hk hm => hv k (Option.mem_toList.1 hm) (p2 k hk)), fun k hk => List.mem_cons_of_mem _ (p2 k hk)⟩
    · have : i = l.length := by simp at hi; omega
      subst this
      rw [rw_snoc_new, show (vs ++ [Value.slice (some ⟨w.heap.size, 0, none⟩) 2 2]).getD l.length (.slice none 0 0) = .slice (some ⟨w.heap.size, 0, none⟩) 2 2 from by
        rw [List.getD_eq_getElem?_getD, List.getElem?_append_right (by omega), q2]; simp]
      exact ⟨hp.touch t3 (fun k hk hm => by
        have e : w.heap.size = k := by simpa [Value.ownBlock] using hk
        have := (hown k (Option.mem_toList.1 hm)).2
        omega), fun k hk => by have e : w.heap.size = k := by simpa [Value.ownBlock] using hk
                               simp [e]⟩
  · rcases hn k hk with h | h
    · exact .inl h
    · exact .inr (by omega)
  · obtain ⟨a', c', he, _⟩ := hq.shape
    exact ⟨a', c', by rw [he]; simp [q2]⟩
end Go.Proofs.YticglfmmjgnicaaGreat
