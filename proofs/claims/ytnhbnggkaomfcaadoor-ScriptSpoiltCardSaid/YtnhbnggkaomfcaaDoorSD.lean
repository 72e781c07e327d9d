/-
  Jobs as texts: what the package-level variables hold; numbers written and read; a job as a value.
-/
import Derived.Test.YtnhbnggkaomfcaaDoorSW
import Derived.Test.YtnhbnggkaomfcaaDoorSC
import Derived.Test.YtnhbnggkaomfcaaDoorSL
import Derived.Test.YtnhbnggkaomfcaaDoorI
import Derived.Lib.LaidTab
set_option linter.unusedVariables false
namespace Go.Proofs.YtnhbnggkaomfcaaDoor
open Go Go.RowKit

structure Vs (w : World) : Prop where
  syn : ∃ tp p, w.var? Tryd.prog "strconv.ErrSyntax" = some #[.iface tp p]
  rng : ∃ tp p, w.var? Tryd.prog "strconv.ErrRange" = some #[.iface tp p]
  pow : Lib.TabIs Tryd.prog w "internal/strconv.uint64pow10" .u64 Lib.pow10Tab
theorem Vs.touch {w w' : World} (h : Vs w) (ht : Touch [] w w') : Vs w' := by
  obtain ⟨tp, p, h1⟩ := h.syn
  obtain ⟨tp2, p2, h2⟩ := h.rng
  exact ⟨⟨tp, p, var_touch h1 ht⟩, ⟨tp2, p2, var_touch h2 ht⟩, var_touch h.pow ht⟩
theorem itoa_any (n : Int) (hn : InI n) (w : World) (hv : Vs w) : Calls Tryd.prog 22 #[.int .i64 n] w (StrP (mk (Lib.itoa n)) w) := by
  refine (Tryd.strconv_Itoa n hn.1 hn.2 w hv.pow).mono ?_
  rintro e w' ⟨rfl, k, os, rfl⟩
  exact ⟨rfl, touch_grow w k os⟩
theorem atoi_ok (p : ByteArray) (hp : p.size ≤ 1000000) (v : Int) (h : Lib.atoiAll p.data.toList = .ok v) (w : World) : Calls Tryd.prog 34 #[.string p] w fun e w' => e = .returned (.tuple #[.int .i64 v, .nilIface]) ∧ Touch [] w w' := by
  refine (Tryd.strconv_Atoi_ok p (by omega) v h w).mono ?_
  rintro e w' ⟨rfl, rfl | ⟨t, rfl⟩⟩
  · exact ⟨rfl, Touch.refl _ _⟩
  · exact ⟨rfl, touch_bytes _ _ _⟩
theorem atoi_bad (p : ByteArray) (hp : p.size ≤ 1000000) (h : ∀ x, Lib.atoiAll p.data.toList ≠ .ok x) (w : World) (hv : Vs w) : Calls Tryd.prog 34 #[.string p] w (AtoiBad w) := by
  obtain ⟨t1, p1, h1⟩ := hv.syn
  obtain ⟨t2, p2, h2⟩ := hv.rng
  cases hq : Lib.atoiAll p.data.toList with
  | ok x => exact absurd hq (h x)
  | range =>
    refine (Tryd.strconv_Atoi_range_var p (by omega) hq t2 p2 w h2).mono ?_
    rintro e w' ⟨N, rfl, _, _, hb⟩
    exact ⟨_, _, _, rfl, Touch.of_below hb⟩
  | _ =>
    refine (Tryd.strconv_Atoi_syntax_var p (by omega) (hq.trans rfl) t1 p1 w h1).mono ?_
    rintro e w' ⟨N, rfl, _, _, hb⟩
    exact ⟨_, _, _, rfl, Touch.of_below hb⟩
/-- A job as a value. -/
def JobV (w : World) (v : Value) (j : Jb) : Prop := ∃ vi vp, v = .agg #[.bool j.cl, .int .i64 j.a, .int .i64 j.b, .int .i64 j.c, vi, vp] ∧ Sl w vi j.inp ∧ Sl w vp j.pk
theorem JobV.touch {w w' : World} {v : Value} {j : Jb} (h : JobV w v j) (ht : Touch [] w w') : JobV w' v j := by
  obtain ⟨vi, vp, rfl, h1, h2⟩ := h
  exact ⟨vi, vp, rfl, h1.touch ht (by simp), h2.touch ht (by simp)⟩
theorem numsT_take {xs : List Int} {k : Nat} (h : k < xs.length) : numsT (xs.take (k + 1)) = numsT (xs.take k) ++ 32 :: Lib.itoa xs[k] := by
  rw [List.take_succ_eq_append_getElem h, numsT_snoc]
theorem numsT_len {xs : List Int} (h : ∀ x ∈ xs, InI x) : (numsT xs).length ≤ 21 * xs.length := by
  induction xs with
  | nil => simp [numsT]
  | cons x xs ih =>
    have e : numsT (x :: xs) = 32 :: (Lib.itoa x ++ numsT xs) := by unfold numsT; simp
    have h1 := itoa_len (h x (by simp))
    have h2 := ih (fun y hy => h y (by simp [hy]))
    have h3 : (mk (Lib.itoa x)).size = (Lib.itoa x).length := by rw [← mk_list (Lib.itoa x)]; simp [mk_list]; rfl
    rw [e]
    simp only [List.length_cons, List.length_append]
    omega
end Go.Proofs.YtnhbnggkaomfcaaDoor
