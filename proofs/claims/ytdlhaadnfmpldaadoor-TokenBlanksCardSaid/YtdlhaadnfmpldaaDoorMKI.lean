/-
  A source of numbers with some bytes laid into it: the walk.
-/
import Derived.Test.YtdlhaadnfmpldaaDoorMKH
import Derived.Deep.RegionLaw
set_option linter.unusedVariables false
namespace Go.Proofs.YtdlhaadnfmpldaaDoor
open Go Go.RowKit

theorem step_appendM {P : Program} {ops : Array Oper} {o : Oper} {a : Act} {w : World} {K : Act → World → Prop} {Q : Exit → Act → World → Prop} {E : Prop} (hgd : o.guard = none) (s x : Operand) (t tx : TypeId)
    (ho : o.op = .call { callee := .builtin .append, args := #[s, x], argTypes := #[t, tx] }) (vs vx : Value) (hs : a.eval s = vs) (hx : a.eval x = vx) (v' : Value) (w' : World)
    (hr : (Builtin.append_ #[t, tx] o.type #[vs, vx]).run P w = .ok v' w') (h : K (a.put o.dst v') w') : if Region.wanted o (yielded ops a.tmps) = true then Oper.wp P o a w K Q else E := by
  have hw : Region.wanted o (yielded ops a.tmps) = true := by simp [Region.wanted, hgd]
  rw [if_pos hw]
  unfold Oper.wp execOp
  simp only [ho, resolve, invoke, builtin, Sem.run_bind, Sem.run_pure, Result.andThen_ok, List.map_toArray, List.map_cons, List.map_nil, hs, hx, hr]
  exact h
/-- Three pieces, one behind the other, in a new slice. -/
theorem three_cat {w : World} {a1 a2 a3 : Option Addr} {n1 n2 n3 c1 c2 c3 : Nat} {D1 D2 D3 : List UInt8} (h1 : Bt w (.slice a1 n1 c1) D1) (h2 : Bt w (.slice a2 n2 c2) D2) (h3 : Bt w (.slice a3 n3 c3) D3) (hl : D1.length + D2.length + D3.length ≤ 100000000) :
    ∃ p1 q1 w1 p2 q2 w2 p3 q3 w3, (∀ ty, (Builtin.append_ #[23, 23] ty #[.slice (some ⟨w.heap.size, 0, none⟩) 0 0, .slice a1 n1 c1]).run Tryd.prog (w.drew.alloc (.cells #[] 5)) = .ok (.slice p1 n1 q1) w1) ∧
      (∀ ty, (Builtin.append_ #[23, 23] ty #[.slice p1 n1 q1, .slice a2 n2 c2]).run Tryd.prog w1 = .ok (.slice p2 (n1 + n2) q2) w2) ∧
      (∀ ty, (Builtin.append_ #[23, 23] ty #[.slice p2 (n1 + n2) q2, .slice a3 n3 c3]).run Tryd.prog w2 = .ok (.slice p3 (n1 + n2 + n3) q3) w3) ∧
      Qu w3 w.heap.size 5 (.slice p3 (n1 + n2 + n3) q3) ((D1 ++ D2 ++ D3).map bv) ∧ Touch [] w w3 := by
  obtain ⟨_, _, e1, _⟩ := id h1
  obtain ⟨_, _, e2, _⟩ := id h2
  obtain ⟨_, _, e3, _⟩ := id h3
  cases e1; cases e2; cases e3
  have t0 : Touch [] w (w.drew.alloc (.cells #[] 5)) := ((Touch.refl [] w).drew).alloc _
  have q0 : Qu (w.drew.alloc (.cells #[] 5)) w.heap.size 5 (.slice (some ⟨w.heap.size, 0, none⟩) 0 0) (([] : List UInt8).map bv) := .inr ⟨_, 0, 0, #[], rfl, Nat.le_refl _, Blk.new rfl, Nat.le_refl _, by unfold maxLen; omega, by simp, fun j hj => by simp at hj⟩
  obtain ⟨p1, q1, w1, r1, k1, u1, n1⟩ := bytes_cat q0 t0.size (h1.touch t0 (by simp)) (by simp; omega)
  simp only [List.length_nil, Nat.zero_add, List.nil_append] at r1 k1 n1
  have t1 : Touch [] w w1 := t0.transF u1 (fun q hq hlt => by have := (q0.own q (Option.mem_toList.1 hq)).1; omega)
  obtain ⟨p2, q2, w2, r2, k2, u2, n2⟩ := bytes_cat k1 t1.size (h2.touch t1 (by simp)) (by omega)
  have t2 : Touch [] w w2 := t1.transF u2 (fun q hq hlt => by have := (k1.own q (Option.mem_toList.1 hq)).1; omega)
  rw [← List.length_append] at k2
  obtain ⟨p3, q3, w3, r3, k3, u3, n3⟩ := bytes_cat k2 t2.size (h3.touch t2 (by simp)) (by rw [List.length_append]; omega)
  have t3 : Touch [] w w3 := t2.transF u3 (fun q hq hlt => by have := (k2.own q (Option.mem_toList.1 hq)).1; omega)
  rw [List.length_append] at r3 k3
  exact ⟨p1, q1, w1, p2, q2, w2, p3, q3, w3, r1, r2, r3, k3, t3⟩
def MixP (w : World) (e : Ending) (w' : World) : Prop := ∃ (v : Value) (D : List UInt8), e = .returned v ∧ Qu w' w.heap.size 5 v (D.map bv) ∧ D.length ≤ 91000 ∧ Touch [] w w'
set_option maxHeartbeats 64000000 in
set_option maxRecDepth 100000 in
theorem mmixed_any (w : World) (nv rv : Value) (xs : List Int) (R : List UInt8) (at' : Int) (hn : Sl w nv xs) (hx : xs.length ≤ 1000000) (hr : Bt w rv R) (ha : InI at') (hv : VM w) (hRm : R.length ≤ maxLen) : Calls Tryd.prog 6 #[nv, rv, .int .i64 at'] w (MixP w) := by
  have HT := Lib.hid (mtext_any w nv xs hn hx hv)
  obtain ⟨na, nc, rfl⟩ := hn.form
  obtain ⟨ra, rc, rfl, hrc⟩ := hr.form
  obtain ⟨m, hm⟩ : ∃ m, xs.length = m := ⟨_, rfl⟩
  obtain ⟨rn, hrn⟩ : ∃ m, R.length = m := ⟨_, rfl⟩
  rw [hm] at HT ⊢
  rw [hrn] at hr hrc ⊢
  unfold maxLen at hRm
  have HR := Lib.hid hr
  have HRN := Lib.hid hrn
  have HA := Lib.hid ha
  clear hn hx hr hv hm hrn ha hRm
  by_cases h0 : rn = 0
  · subst h0
    go_enter Tryd.func6, Tryd.ntmps6
    go_wp2_with fail
    refine HT.out.mono ?_
    rintro e w1 ⟨v, D, rfl, hq, hl, ht⟩
    have HF : Hid (Qu w1 w.heap.size 5 v (D.map bv) ∧ D.length ≤ 91000 ∧ Touch [] w w1) := Lib.hid ⟨hq, by omega, ht⟩
    clear hq hl ht
    go_wp2_with fail
    go_ret
    exact ⟨v, D, rfl, HF.out.1, HF.out.2.1, HF.out.2.2⟩
  have b0 : ((rn : Int) == 0) = false := by simpa using h0
  have b0n : (rn == 0) = false := by simpa using h0
  by_cases h3 : 300 < rn
  · have b3 : decide ((300 : Int) < (rn : Int)) = true := dT (by omega)
    have b3n : decide (300 < rn) = true := dT h3
    clear h0 h3
    go_enter Tryd.func6, Tryd.ntmps6
    go_wp2_with fail
    refine HT.out.mono ?_
    rintro e w1 ⟨v, D, rfl, hq, hl, ht⟩
    have HF : Hid (Qu w1 w.heap.size 5 v (D.map bv) ∧ D.length ≤ 91000 ∧ Touch [] w w1) := Lib.hid ⟨hq, by omega, ht⟩
    clear hq hl ht
    go_wp2_with fail
    go_ret
    exact ⟨v, D, rfl, HF.out.1, HF.out.2.1, HF.out.2.2⟩
  have b3 : decide ((300 : Int) < (rn : Int)) = false := dF (by omega)
  have b3n : decide (300 < rn) = false := dF h3
  have HRL : Hid (rn ≤ 300) := Lib.hid (by omega)
  clear h0 h3
  go_enter Tryd.func6, Tryd.ntmps6
  go_wp2_with fail
  refine HT.out.mono ?_
  rintro e w1 ⟨v, D, rfl, hq, hl, ht⟩
  have hbt := qu_bt hq
  obtain ⟨va, vc, rfl, hvc⟩ := hbt.form
  obtain ⟨N, hN⟩ : ∃ N, D.length = N := ⟨_, rfl⟩
  rw [hN] at hl hvc hbt ⊢
  obtain ⟨Y, hY⟩ : ∃ y, at'.tmod ((N : Int) + 1) = y := ⟨_, rfl⟩
  have hY2 : -((N : Int) + 1) < Y ∧ Y < (N : Int) + 1 := by
    rw [← hY]
    rcases Int.le_total 0 at' with hx | hx
    · exact ⟨by have := Int.tmod_nonneg ((N : Int) + 1) hx; omega, Int.tmod_lt_of_pos at' (by omega)⟩
    · obtain ⟨Z, rfl⟩ : ∃ Z, at' = -Z := ⟨-at', by omega⟩
      rw [Int.neg_tmod]
      have h1 := Int.tmod_lt_of_pos Z (by omega : (0 : Int) < (N : Int) + 1)
      have h2 := Int.tmod_nonneg ((N : Int) + 1) (by omega : 0 ≤ Z)
      omega
  obtain ⟨K, hK⟩ : ∃ K : Nat, (if Y < 0 then Y + N + 1 else Y) = (K : Int) := ⟨(if Y < 0 then Y + N + 1 else Y).toNat, by split <;> omega⟩
  have hKN : K ≤ N := by
    have : (K : Int) ≤ N := by rw [← hK]; split <;> omega
    omega
  have hk1 := hbt.first (k := K) (by omega)
  have hk2 := hbt.cut (k := K) (by omega)
  have HBT := Lib.hid hbt
  have hYa : -9223372036854775808 ≤ Y := by omega
  have hYb : Y ≤ 9223372036854775807 := by omega
  have HNL := Lib.hid hN
  have HTT := Lib.hid ht
  obtain ⟨p1, q1, x1, p2, q2, x2, p3, q3, x3, r1, r2, r3, k3, t3⟩ := three_cat hk1 (HR.out.touch ht (by simp)) hk2 (by rw [List.length_take, List.length_drop, HRN.out, hN]; have := HRL.out; omega)
  have HF : Hid (Qu x3 w.heap.size 5 (.slice p3 (K + rn + (N - K)) q3) ((D.take K ++ R ++ D.drop K).map bv) ∧ (D.take K ++ R ++ D.drop K).length ≤ 91000 ∧ Touch [] w x3) := Lib.hid ⟨k3.mono ht.size, by rw [List.length_append, List.length_append, List.length_take, List.length_drop, HRN.out, hN]; have := HRL.out; omega, ht.trans t3⟩
  have HQ := Lib.hid hq
  clear hq hN hbt ht hk1 hk2 k3 t3
  have hyc : (Y < 0 ∧ Y + N + 1 = (K : Int)) ∨ (0 ≤ Y ∧ Y = (K : Int)) := by
    by_cases hy : Y < 0
    · exact .inl ⟨hy, by rw [← hK, if_pos hy]⟩
    · exact .inr ⟨by omega, by rw [← hK, if_neg hy]⟩
  clear hK
  by_cases hcK : vc = K
  · obtain rfl : N = vc := by omega
    subst hcK
    rw [if_pos rfl, Nat.sub_self] at r3
    rw [Nat.sub_self] at HF
    rcases hyc with ⟨hy, hyk⟩ | ⟨hy, hyk⟩
    · have dy : decide (Y < 0) = true := dT hy
      clear hy
      go_upto_region 7 with fail
      go_region_law
        ((first
          | (refine step_appendM rfl _ _ _ _ rfl _ _ (by rfl) (by rfl) _ x1 (r1 _) ?_; clear r1)
          | (refine step_appendM rfl _ _ _ _ rfl _ _ (by rfl) (by rfl) _ x2 (r2 _) ?_; clear r2)
          | (refine step_appendM rfl _ _ _ _ rfl _ _ (by rfl) (by rfl) _ x3 (r3 _) ?_; clear r3)))
      all_goals go_wp2_with fail
      all_goals go_ret
      all_goals exact ⟨_, _, rfl, HF.out.1, HF.out.2.1, HF.out.2.2⟩
    · have dy : decide (Y < 0) = false := dF (by omega)
      clear hy
      go_upto_region 7 with fail
      go_region_law
        ((first
          | (refine step_appendM rfl _ _ _ _ rfl _ _ (by rfl) (by rfl) _ x1 (r1 _) ?_; clear r1)
          | (refine step_appendM rfl _ _ _ _ rfl _ _ (by rfl) (by rfl) _ x2 (r2 _) ?_; clear r2)
          | (refine step_appendM rfl _ _ _ _ rfl _ _ (by rfl) (by rfl) _ x3 (r3 _) ?_; clear r3)))
      all_goals go_wp2_with fail
      all_goals go_ret
      all_goals exact ⟨_, _, rfl, HF.out.1, HF.out.2.1, HF.out.2.2⟩
  rw [if_neg hcK] at r3
  have hKc : K ≤ vc := by omega
  have hKci : (K : Int) ≤ (vc : Int) := by omega
  have hKni : (K : Int) ≤ (N : Int) := by omega
  have hK0i : (0 : Int) ≤ (K : Int) := by omega
  have hNci : (N : Int) ≤ (vc : Int) := by omega
  obtain ⟨g, off, rfl⟩ : ∃ g off, va = some ⟨g, off, none⟩ := by
    rcases HQ.out with ⟨he, _⟩ | ⟨b, off, cap, cur, he, _⟩
    · simp only [Value.slice.injEq] at he
      have := HNL.out
      omega
    · simp only [Value.slice.injEq] at he
      exact ⟨b, off, he.1⟩
  have e : (Option.map (fun x => x.add K) (some (⟨g, off, none⟩ : Addr))) = some ⟨g, off + K, none⟩ := by
    by_cases h0 : K = 0
    · subst h0; simp [Addr.add]
    · simp [Addr.add, h0]
  rw [e] at r3
  clear e
  rcases hyc with ⟨hy, hyk⟩ | ⟨hy, hyk⟩
  · have dy : decide (Y < 0) = true := dT hy
    clear hy
    go_upto_region 7 with fail
    go_region_law
      ((first
        | (refine step_appendM rfl _ _ _ _ rfl _ _ (by rfl) (by rfl) _ x1 (r1 _) ?_; clear r1)
        | (refine step_appendM rfl _ _ _ _ rfl _ _ (by rfl) (by rfl) _ x2 (r2 _) ?_; clear r2)
        | (refine step_appendM rfl _ _ _ _ rfl _ _ (by rfl) (by rfl) _ x3 (r3 _) ?_; clear r3)))
    all_goals go_wp2_with fail
    all_goals go_ret
    all_goals exact ⟨_, _, rfl, HF.out.1, HF.out.2.1, HF.out.2.2⟩
  · have dy : decide (Y < 0) = false := dF (by omega)
    clear hy
    go_upto_region 7 with fail
    go_region_law
      ((first
        | (refine step_appendM rfl _ _ _ _ rfl _ _ (by rfl) (by rfl) _ x1 (r1 _) ?_; clear r1)
        | (refine step_appendM rfl _ _ _ _ rfl _ _ (by rfl) (by rfl) _ x2 (r2 _) ?_; clear r2)
        | (refine step_appendM rfl _ _ _ _ rfl _ _ (by rfl) (by rfl) _ x3 (r3 _) ?_; clear r3)))
    all_goals go_wp2_with fail
    all_goals go_ret
    all_goals exact ⟨_, _, rfl, HF.out.1, HF.out.2.1, HF.out.2.2⟩
end Go.Proofs.YtdlhaadnfmpldaaDoor
