/-
  Equal lists; the program's Same.
-/
import Derived.Test.YtoedkomckgidiaaCI
set_option linter.unusedVariables false
namespace Go.Proofs.Ytoedkomckgidiaa
open Go Go.RowKit

theorem list_ext0 {xs ys : List Int} (hl : xs.length = ys.length) (h : ∀ j, j < xs.length → xs.getD j 0 = ys.getD j 0) : xs = ys := by
  apply List.ext_getElem hl
  intro i h1 h2
  have := h i h1
  rw [List.getD_eq_getElem?_getD, List.getD_eq_getElem?_getD, List.getElem?_eq_getElem h1, List.getElem?_eq_getElem h2] at this
  exact this
theorem rows_ext {l m : List (List Int)} (hl : l.length = m.length) (h : ∀ j, j < l.length → rw_ l j = rw_ m j) : l = m := by
  apply List.ext_getElem hl
  intro i h1 h2
  have := h i h1
  unfold rw_ at this
  rw [List.getD_eq_getElem?_getD, List.getD_eq_getElem?_getD, List.getElem?_eq_getElem h1, List.getElem?_eq_getElem h2] at this
  exact this
instance (P Q : Pg) : Decidable (SameP P Q) :=
  decidable_of_iff (P.n1 = Q.n1 ∧ eqE 3 P.z1 Q.z1 P.n1 ∧ P.n2 = Q.n2 ∧ eqE 3 P.z2 Q.z2 P.n2 ∧ P.n3 = Q.n3 ∧ eqE 2 P.z3 Q.z3 P.n3 ∧ P.rg = Q.rg ∧ P.se = Q.se ∧ P.tt = Q.tt ∧ P.ve = Q.ve ∧ P.n8 = Q.n8 ∧ eqE 2 P.z8 Q.z8 P.n8 ∧ P.cl = Q.cl)
    ⟨fun ⟨a, b, c, d, e, f, g, h, i, j, k, l, m⟩ => ⟨a, b, c, d, e, f, g, h, i, j, k, l, m⟩, fun ⟨a, b, c, d, e, f, g, h, i, j, k, l, m⟩ => ⟨a, b, c, d, e, f, g, h, i, j, k, l, m⟩⟩
def sameB (P Q : Pg) : Bool := decide (SameP P Q)
theorem sameB_iff {P Q : Pg} : sameB P Q = true ↔ SameP P Q := by unfold sameB; exact decide_eq_true_iff
theorem SameP.dec {P Q : Pg} {b : Bool} (h : b = true ↔ SameP P Q) : b = sameB P Q := by
  unfold sameB
  cases b
  · exact (decide_eq_false (fun hs => by have := h.2 hs; exact Bool.false_ne_true this)).symm
  · exact (decide_eq_true (h.1 rfl)).symm
set_option maxHeartbeats 32000000 in
set_option maxRecDepth 100000 in
theorem equal_int (v u : Value) (xs ys : List Int) (w : World) (hv : Sl w v xs) (hu : Sl w u ys) (hn : xs.length ≤ 9223372036854775807) (hm : ys.length ≤ 9223372036854775807) : Calls Try.prog 52 #[v, u] w (BoolP (decide (xs = ys)) w) := by
  obtain ⟨va, vc, rfl⟩ := hv.form
  obtain ⟨ua, uc, rfl⟩ := hu.form
  obtain ⟨B, hB⟩ : ∃ B, decide (xs = ys) = B := ⟨_, rfl⟩
  obtain ⟨n, hxn⟩ : ∃ n, xs.length = n := ⟨_, rfl⟩
  obtain ⟨m, hym⟩ : ∃ n, ys.length = n := ⟨_, rfl⟩
  rw [hxn] at hv hn
  rw [hym] at hu hm
  rw [hxn, hym, hB]
  have HV := Lib.hid hv
  have HU := Lib.hid hu
  have HXN := Lib.hid hxn
  have HYM := Lib.hid hym
  have HB := Lib.hid hB
  clear hv hu hB hxn hym
  by_cases hnm : n = m
  · have HM : Hid (n = m) := Lib.hid hnm
    have hne : ((n : Int) != (m : Int)) = false := bneF (by omega)
    clear hnm
    go_enter Try.func52, Try.ntmps52
    go_wp2
    go_loopw [13] (fun kv wr => ∃ k : Nat, k ≤ n ∧ kv = .int .i64 (k : Int) ∧ Touch [] w wr ∧ ∀ j, j < k → xs.getD j 0 = ys.getD j 0) (fun kv _ => n + 1 - (intOf kv).toNat)
    case atStart => exact ⟨0, by omega, rfl, Touch.refl _ _, fun i hi => by omega⟩
    case round =>
      obtain ⟨k, hk, rfl, ht, heq⟩ := hrel
      have HT := Lib.hid ht
      have HE := Lib.hid heq
      clear ht heq
      by_cases hlt : k < n
      · obtain ⟨g, off, hga, hc⟩ := HV.out.ix (q := k) (by rw [HXN.out]; exact hlt)
        obtain ⟨g2, off2, hgb, hd⟩ := HU.out.ix (q := k) (by rw [HYM.out, ← HM.out]; exact hlt)
        subst hga
        subst hgb
        obtain ⟨a0, ha0⟩ : ∃ x, xs.getD k 0 = x := ⟨_, rfl⟩
        obtain ⟨b0, hb0⟩ : ∃ x, ys.getD k 0 = x := ⟨_, rfl⟩
        rw [ha0] at hc
        rw [hb0] at hd
        have HA := Lib.hid ha0
        have HA2 := Lib.hid hb0
        have HC := Lib.hid hc
        have HD := Lib.hid hd
        have x0 : ∀ q : Later wr, q.world.cell? ⟨g, off + k, none⟩ = some (.int .i64 a0) := fun q => HC.out _ (HT.out.trans q.ok)
        have y0 : ∀ q : Later wr, q.world.cell? ⟨g2, off2 + k, none⟩ = some (.int .i64 b0) := fun q => HD.out _ (HT.out.trans q.ok)
        have hkm : k < m := by have := HM.out; omega
        clear hc hd ha0 hb0
        by_cases heq : a0 = b0
        · have HES : Hid (∀ j, j < k + 1 → xs.getD j 0 = ys.getD j 0) := Lib.hid (fun j hj => by
            by_cases e : j = k
            · subst e; rw [HA.out, HA2.out]; exact heq
            · exact HE.out j (by omega))
          have hbn : (a0 != b0) = false := bneF heq
          clear heq
          go_wp2_with fail
          refine wp_region_later (by kernel_rfl) (by kernel_rfl) ?_
          repeat (first
            | (go_big_quiet_step ((with_reducible rfl)))
            | (quiet_step (fail)))
          refine wpQuiet_nil ?_
          intro wq hw'
          obtain ⟨⟨wq', hwq⟩, hwe⟩ := hw'
          have hwe : wq = wq' := hwe
          subst hwe
          have HTn := Lib.hid (HT.out.trans hwq)
          clear hwe hwq x0 y0
          go_wp2
          go_roundw
          case rel => exact ⟨k + 1, by omega, by go_num, HTn.out, HES.out⟩
          case measure => simp [intOf] <;> omega
        · have HQ : Hid (B = false) := Lib.hid (by rw [← HB.out]; exact decide_eq_false (fun e => heq (by rw [← HA.out, ← HA2.out, e])))
          have hbn : (a0 != b0) = true := bneT heq
          clear heq
          go_wp2_with fail
          refine wp_region_later (by kernel_rfl) (by kernel_rfl) ?_
          repeat (first
            | (go_big_quiet_step ((with_reducible rfl)))
            | (quiet_step (fail)))
          refine wpQuiet_nil ?_
          intro wq hw'
          obtain ⟨⟨wq', hwq⟩, hwe⟩ := hw'
          have hwe : wq = wq' := hwe
          subst hwe
          have HTn := Lib.hid (HT.out.trans hwq)
          clear hwe hwq x0 y0
          go_wp2
          go_ret
          exact ⟨by rw [HQ.out]; rfl, HTn.out⟩
      · have hnk : k = n := by omega
        have HQ : Hid (B = true) := Lib.hid (by rw [← HB.out]; exact decide_eq_true (list_ext0 (by rw [HXN.out, HYM.out]; exact HM.out) (fun j hj => HE.out j (by rw [HXN.out] at hj; omega))))
        clear hnk
        go_wp2
        go_ret
        exact ⟨by rw [HQ.out]; rfl, HT.out⟩
  · have HQ : Hid (B = false) := Lib.hid (by rw [← HB.out]; exact decide_eq_false (fun e => hnm (by rw [← HXN.out, ← HYM.out, e])))
    have hne : ((n : Int) != (m : Int)) = true := bneT (by omega)
    clear hnm
    go_enter Try.func52, Try.ntmps52
    go_wp2
    go_ret
    exact ⟨by rw [HQ.out]; rfl, Touch.refl _ _⟩
set_option maxHeartbeats 32000000 in
set_option maxRecDepth 100000 in
theorem rints_i (v u : Value) (xs ys : List Int) (w : World) (hv : Sl w v xs) (hu : Sl w u ys) (hn : xs.length ≤ 9223372036854775807) (hm : ys.length ≤ 9223372036854775807) : Calls Try.prog 48 #[v, u] w (BoolP (decide (xs = ys)) w) := by
  obtain ⟨va, vc, rfl⟩ := hv.form
  obtain ⟨ua, uc, rfl⟩ := hu.form
  obtain ⟨B, hB⟩ : ∃ B, decide (xs = ys) = B := ⟨_, rfl⟩
  obtain ⟨n, hxn⟩ : ∃ n, xs.length = n := ⟨_, rfl⟩
  obtain ⟨m, hym⟩ : ∃ n, ys.length = n := ⟨_, rfl⟩
  rw [hxn] at hv hn
  rw [hym] at hu hm
  rw [hxn, hym, hB]
  have HV := Lib.hid hv
  have HU := Lib.hid hu
  have HXN := Lib.hid hxn
  have HYM := Lib.hid hym
  have HB := Lib.hid hB
  clear hv hu hB hxn hym
  by_cases hnm : n = m
  · have HM : Hid (n = m) := Lib.hid hnm
    have hne : ((n : Int) != (m : Int)) = false := bneF (by omega)
    clear hnm
    go_enter Try.func48, Try.ntmps48
    go_wp2
    go_loopw [5] (fun kv wr => ∃ k : Nat, k ≤ n ∧ kv = .int .i64 (k : Int) ∧ Touch [] w wr ∧ ∀ j, j < k → xs.getD j 0 = ys.getD j 0) (fun kv _ => n + 1 - (intOf kv).toNat)
    case atStart => exact ⟨0, by omega, rfl, Touch.refl _ _, fun i hi => by omega⟩
    case round =>
      obtain ⟨k, hk, rfl, ht, heq⟩ := hrel
      have HT := Lib.hid ht
      have HE := Lib.hid heq
      clear ht heq
      by_cases hlt : k < n
      · obtain ⟨g, off, hga, hc⟩ := HV.out.ix (q := k) (by rw [HXN.out]; exact hlt)
        obtain ⟨g2, off2, hgb, hd⟩ := HU.out.ix (q := k) (by rw [HYM.out, ← HM.out]; exact hlt)
        subst hga
        subst hgb
        obtain ⟨a0, ha0⟩ : ∃ x, xs.getD k 0 = x := ⟨_, rfl⟩
        obtain ⟨b0, hb0⟩ : ∃ x, ys.getD k 0 = x := ⟨_, rfl⟩
        rw [ha0] at hc
        rw [hb0] at hd
        have HA := Lib.hid ha0
        have HA2 := Lib.hid hb0
        have HC := Lib.hid hc
        have HD := Lib.hid hd
        have x0 : ∀ q : Later wr, q.world.cell? ⟨g, off + k, none⟩ = some (.int .i64 a0) := fun q => HC.out _ (HT.out.trans q.ok)
        have y0 : ∀ q : Later wr, q.world.cell? ⟨g2, off2 + k, none⟩ = some (.int .i64 b0) := fun q => HD.out _ (HT.out.trans q.ok)
        have hkm : k < m := by have := HM.out; omega
        clear hc hd ha0 hb0
        by_cases heq : a0 = b0
        · have HES : Hid (∀ j, j < k + 1 → xs.getD j 0 = ys.getD j 0) := Lib.hid (fun j hj => by
            by_cases e : j = k
            · subst e; rw [HA.out, HA2.out]; exact heq
            · exact HE.out j (by omega))
          have hbn : (a0 != b0) = false := bneF heq
          clear heq
          go_wp2_with fail
          refine wp_region_later (by kernel_rfl) (by kernel_rfl) ?_
          repeat (first
            | (go_big_quiet_step ((with_reducible rfl)))
            | (quiet_step (fail)))
          refine wpQuiet_nil ?_
          intro wq hw'
          obtain ⟨⟨wq', hwq⟩, hwe⟩ := hw'
          have hwe : wq = wq' := hwe
          subst hwe
          have HTn := Lib.hid (HT.out.trans hwq)
          clear hwe hwq x0 y0
          go_wp2
          go_roundw
          case rel => exact ⟨k + 1, by omega, by go_num, HTn.out, HES.out⟩
          case measure => simp [intOf] <;> omega
        · have HQ : Hid (B = false) := Lib.hid (by rw [← HB.out]; exact decide_eq_false (fun e => heq (by rw [← HA.out, ← HA2.out, e])))
          have hbn : (a0 != b0) = true := bneT heq
          clear heq
          go_wp2_with fail
          refine wp_region_later (by kernel_rfl) (by kernel_rfl) ?_
          repeat (first
            | (go_big_quiet_step ((with_reducible rfl)))
            | (quiet_step (fail)))
          refine wpQuiet_nil ?_
          intro wq hw'
          obtain ⟨⟨wq', hwq⟩, hwe⟩ := hw'
          have hwe : wq = wq' := hwe
          subst hwe
          have HTn := Lib.hid (HT.out.trans hwq)
          clear hwe hwq x0 y0
          go_wp2
          go_ret
          exact ⟨by rw [HQ.out]; rfl, HTn.out⟩
      · have hnk : k = n := by omega
        have HQ : Hid (B = true) := Lib.hid (by rw [← HB.out]; exact decide_eq_true (list_ext0 (by rw [HXN.out, HYM.out]; exact HM.out) (fun j hj => HE.out j (by rw [HXN.out] at hj; omega))))
        clear hnk
        go_wp2
        go_ret
        exact ⟨by rw [HQ.out]; rfl, HT.out⟩
  · have HQ : Hid (B = false) := Lib.hid (by rw [← HB.out]; exact decide_eq_false (fun e => hnm (by rw [← HXN.out, ← HYM.out, e])))
    have hne : ((n : Int) != (m : Int)) = true := bneT (by omega)
    clear hnm
    go_enter Try.func48, Try.ntmps48
    go_wp2
    go_ret
    exact ⟨by rw [HQ.out]; rfl, Touch.refl _ _⟩
set_option maxHeartbeats 32000000 in
set_option maxRecDepth 100000 in
theorem equal_rows (v u : Value) (xs ys : List (List Int)) (w : World) (hv : Rws w v xs) (hu : Rws w u ys) (hn : xs.length ≤ 9223372036854775807) (hm : ys.length ≤ 9223372036854775807) (hxr : ∀ r ∈ xs, r.length ≤ 9223372036854775807) (hyr : ∀ r ∈ ys, r.length ≤ 9223372036854775807) : Calls Try.prog 54 #[v, u, .func (.func 52) #[] #[]] w (BoolP (decide (xs = ys)) w) := by
  obtain ⟨va, vc, rfl⟩ := hv.form
  obtain ⟨ua, uc, rfl⟩ := hu.form
  obtain ⟨B, hB⟩ : ∃ B, decide (xs = ys) = B := ⟨_, rfl⟩
  obtain ⟨n, hxn⟩ : ∃ n, xs.length = n := ⟨_, rfl⟩
  obtain ⟨m, hym⟩ : ∃ n, ys.length = n := ⟨_, rfl⟩
  rw [hxn] at hv hn
  rw [hym] at hu hm
  rw [hxn, hym, hB]
  have HV := Lib.hid hv
  have HU := Lib.hid hu
  have HXN := Lib.hid hxn
  have HYM := Lib.hid hym
  have HB := Lib.hid hB
  have HXR := Lib.hid hxr
  have HYR := Lib.hid hyr
  clear hv hu hB hxn hym hxr hyr
  by_cases hnm : n = m
  · have HM : Hid (n = m) := Lib.hid hnm
    have hne : ((n : Int) != (m : Int)) = false := bneF (by omega)
    clear hnm
    go_enter Try.func54, Try.ntmps54
    go_wp2
    go_loopw [17] (fun kv wr => ∃ k : Nat, k ≤ n ∧ kv = .int .i64 (k : Int) ∧ Touch [] w wr ∧ ∀ j, j < k → rw_ xs j = rw_ ys j) (fun kv _ => n + 1 - (intOf kv).toNat)
    case atStart => exact ⟨0, by omega, rfl, Touch.refl _ _, fun i hi => by omega⟩
    case round =>
      obtain ⟨k, hk, rfl, ht, heq⟩ := hrel
      have HT := Lib.hid ht
      have HE := Lib.hid heq
      clear ht heq
      by_cases hlt : k < n
      · obtain ⟨g, off, hga, ra, rc, hr, hc⟩ := HV.out.at (i := k) (by rw [HXN.out]; exact hlt)
        obtain ⟨g2, off2, hgb, sa, sc, hs, hd⟩ := HU.out.at (i := k) (by rw [HYM.out, ← HM.out]; exact hlt)
        subst hga
        subst hgb
        have HL1 : Hid ((rw_ xs k).length ≤ 9223372036854775807) := Lib.hid (HXR.out _ (rw_mem (by rw [HXN.out]; exact hlt)))
        have HL2 : Hid ((rw_ ys k).length ≤ 9223372036854775807) := Lib.hid (HYR.out _ (rw_mem (by rw [HYM.out, ← HM.out]; exact hlt)))
        obtain ⟨ar, ha⟩ : ∃ x, rw_ xs k = x := ⟨_, rfl⟩
        obtain ⟨br, hb⟩ : ∃ x, rw_ ys k = x := ⟨_, rfl⟩
        rw [ha] at hr hc HL1
        rw [hb] at hs hd HL2
        have HA := Lib.hid ha
        have HA2 := Lib.hid hb
        obtain ⟨la, hla⟩ : ∃ x, ar.length = x := ⟨_, rfl⟩
        obtain ⟨lb, hlb⟩ : ∃ x, br.length = x := ⟨_, rfl⟩
        rw [hla] at hr hc
        rw [hlb] at hs hd
        have x0 := hc wr HT.out
        have y0 := hd wr HT.out
        have HR := Lib.hid hr
        have HS := Lib.hid hs
        have hkm : k < m := by have := HM.out; omega
        obtain ⟨b, hbb⟩ : ∃ b, decide (ar = br) = b := ⟨_, rfl⟩
        have HBB := Lib.hid hbb
        clear hc hd ha hb hr hs hla hlb hbb
        go_wp2_with fail
        refine (equal_int _ _ ar br wr (HR.out.touch HT.out (by simp)) (HS.out.touch HT.out (by simp)) HL1.out HL2.out).mono ?_
        rintro e w2 ⟨rfl, ht2⟩
        have HT2 := Lib.hid (HT.out.trans ht2)
        clear ht2 x0 y0
        rw [HBB.out]
        cases b with
        | true =>
          have heq : ar = br := of_decide_eq_true HBB.out
          have HES : Hid (∀ j, j < k + 1 → rw_ xs j = rw_ ys j) := Lib.hid (fun j hj => by
            by_cases e : j = k
            · subst e; rw [HA.out, HA2.out]; exact heq
            · exact HE.out j (by omega))
          clear heq
          go_wp2
          go_roundw
          case rel => exact ⟨k + 1, by omega, by go_num, HT2.out, HES.out⟩
          case measure => simp [intOf] <;> omega
        | false =>
          have heq : ¬ ar = br := of_decide_eq_false HBB.out
          have HQ : Hid (B = false) := Lib.hid (by rw [← HB.out]; exact decide_eq_false (fun e => heq (by rw [← HA.out, ← HA2.out, e])))
          clear heq
          go_wp2
          go_ret
          exact ⟨by rw [HQ.out]; rfl, HT2.out⟩
      · have hnk : k = n := by omega
        have HQ : Hid (B = true) := Lib.hid (by rw [← HB.out]; exact decide_eq_true (rows_ext (by rw [HXN.out, HYM.out]; exact HM.out) (fun j hj => HE.out j (by rw [HXN.out] at hj; omega))))
        clear hnk
        go_wp2
        go_ret
        exact ⟨by rw [HQ.out]; rfl, HT.out⟩
  · have HQ : Hid (B = false) := Lib.hid (by rw [← HB.out]; exact decide_eq_false (fun e => hnm (by rw [← HXN.out, ← HYM.out, e])))
    have hne : ((n : Int) != (m : Int)) = true := bneT (by omega)
    clear hnm
    go_enter Try.func54, Try.ntmps54
    go_wp2
    go_ret
    exact ⟨by rw [HQ.out]; rfl, Touch.refl _ _⟩
end Go.Proofs.Ytoedkomckgidiaa
