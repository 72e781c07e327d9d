/-
  The walks of VerifyChecks and VerifyDepths.
-/
import Derived.Test.YtckppinobkkegaaDoorVZ2
set_option linter.unusedVariables false
namespace Go.Proofs.YtckppinobkkegaaDoor
open Go Go.RowKit

def TrueP (w : World) (e : Ending) (w' : World) : Prop := e = .returned (.bool true) ∧ Touch [] w w'
theorem step7 {w w1 w2 : World} {b : Nat} {c : Array Value} {T : TypeId} (h : Blk w1 b c T ∧ Touch [] w w1) (ht : Touch [] w1 w2) : Blk w2 b c T ∧ Touch [] w w2 := ⟨h.1.touch ht (by simp), h.2.trans ht⟩
set_option maxHeartbeats 8000000 in
set_option maxRecDepth 100000 in
theorem alike_any (pv : Value) (P : Pg) (w : World) (h : PgV w pv P) (hl : LenP P) (hv : Vs w) : Calls Tryd.prog 6 #[pv] w (TrueP w) := by
  obtain ⟨a1, a2, a3, a5, a6, a7, a8, c1, c2, c3, c5, c6, c7, c8, rfl, ho⟩ := h.open
  have HV := Lib.hid hv
  have HLN := Lib.hid hl
  have hb : Blk (w.alloc (.cells #[.slice a1 P.n1 c1, .slice a2 P.n2 c2, .slice a3 P.n3 c3, .int .i64 P.rg, .slice a5 P.se.length c5, .slice a6 P.tt.length c6, .slice a7 P.ve.length c7, .slice a8 P.n8 c8, .int .i64 P.cl] 29)) w.heap.size #[.slice a1 P.n1 c1, .slice a2 P.n2 c2, .slice a3 P.n3 c3, .int .i64 P.rg, .slice a5 P.se.length c5, .slice a6 P.tt.length c6, .slice a7 P.ve.length c7, .slice a8 P.n8 c8, .int .i64 P.cl] 29 := Blk.new rfl
  have hT0 : Touch [] w (w.alloc (.cells #[.slice a1 P.n1 c1, .slice a2 P.n2 c2, .slice a3 P.n3 c3, .int .i64 P.rg, .slice a5 P.se.length c5, .slice a6 P.tt.length c6, .slice a7 P.ve.length c7, .slice a8 P.n8 c8, .int .i64 P.cl] 29)) := (Touch.refl [] w).alloc _
  obtain ⟨W1, hW1⟩ : ∃ x, (w.alloc (.cells #[.slice a1 P.n1 c1, .slice a2 P.n2 c2, .slice a3 P.n3 c3, .int .i64 P.rg, .slice a5 P.se.length c5, .slice a6 P.tt.length c6, .slice a7 P.ve.length c7, .slice a8 P.n8 c8, .int .i64 P.cl] 29)) = x := ⟨_, rfl⟩
  rw [hW1] at hb hT0
  have HW1 := Lib.hid hW1
  have HX1 : Hid (Blk W1 w.heap.size #[.slice a1 P.n1 c1, .slice a2 P.n2 c2, .slice a3 P.n3 c3, .int .i64 P.rg, .slice a5 P.se.length c5, .slice a6 P.tt.length c6, .slice a7 P.ve.length c7, .slice a8 P.n8 c8, .int .i64 P.cl] 29 ∧ Touch [] w W1) := Lib.hid ⟨hb, hT0⟩
  have HPV : Hid (∀ wz, Touch [] w wz → PgV wz (.agg #[.slice a1 P.n1 c1, .slice a2 P.n2 c2, .slice a3 P.n3 c3, .int .i64 P.rg, .slice a5 P.se.length c5, .slice a6 P.tt.length c6, .slice a7 P.ve.length c7, .slice a8 P.n8 c8, .int .i64 P.cl]) P) := Lib.hid (fun wz ht => (ho.touch ht).val)
  have b0 : W1.cell? ⟨w.heap.size, 0, none⟩ = some (.slice a1 P.n1 c1) := HX1.out.1.cell rfl
  have b1 : W1.cell? ⟨w.heap.size, 1, none⟩ = some (.slice a2 P.n2 c2) := HX1.out.1.cell rfl
  have b2 : W1.cell? ⟨w.heap.size, 2, none⟩ = some (.slice a3 P.n3 c3) := HX1.out.1.cell rfl
  have b3 : W1.cell? ⟨w.heap.size, 3, none⟩ = some (.int .i64 P.rg) := HX1.out.1.cell rfl
  have b4 : W1.cell? ⟨w.heap.size, 4, none⟩ = some (.slice a5 P.se.length c5) := HX1.out.1.cell rfl
  have b5 : W1.cell? ⟨w.heap.size, 5, none⟩ = some (.slice a6 P.tt.length c6) := HX1.out.1.cell rfl
  have b6 : W1.cell? ⟨w.heap.size, 6, none⟩ = some (.slice a7 P.ve.length c7) := HX1.out.1.cell rfl
  have b7 : W1.cell? ⟨w.heap.size, 7, none⟩ = some (.slice a8 P.n8 c8) := HX1.out.1.cell rfl
  have b8 : W1.cell? ⟨w.heap.size, 8, none⟩ = some (.int .i64 P.cl) := HX1.out.1.cell rfl
  clear h ho hv hl hW1 hb hT0
  go_enter Tryd.func6, Tryd.ntmps6
  go_wp2_with fail
  rw [HW1.out]
  refine (check_any _ P W1 (HV.out.touch HX1.out.2) (HPV.out _ HX1.out.2) HLN.out).mono ?_
  rintro e w2 ⟨t, c, rfl, hr, ht⟩
  have HR := Lib.hid hr
  have HX2 := Lib.hid (step7 HX1.out ht)
  clear hr ht
  clear b0 b1 b2 b3 b4 b5 b6 b7 b8
  have b0 : w2.cell? ⟨w.heap.size, 0, none⟩ = some (.slice a1 P.n1 c1) := HX2.out.1.cell rfl
  have b1 : w2.cell? ⟨w.heap.size, 1, none⟩ = some (.slice a2 P.n2 c2) := HX2.out.1.cell rfl
  have b2 : w2.cell? ⟨w.heap.size, 2, none⟩ = some (.slice a3 P.n3 c3) := HX2.out.1.cell rfl
  have b3 : w2.cell? ⟨w.heap.size, 3, none⟩ = some (.int .i64 P.rg) := HX2.out.1.cell rfl
  have b4 : w2.cell? ⟨w.heap.size, 4, none⟩ = some (.slice a5 P.se.length c5) := HX2.out.1.cell rfl
  have b5 : w2.cell? ⟨w.heap.size, 5, none⟩ = some (.slice a6 P.tt.length c6) := HX2.out.1.cell rfl
  have b6 : w2.cell? ⟨w.heap.size, 6, none⟩ = some (.slice a7 P.ve.length c7) := HX2.out.1.cell rfl
  have b7 : w2.cell? ⟨w.heap.size, 7, none⟩ = some (.slice a8 P.n8 c8) := HX2.out.1.cell rfl
  have b8 : w2.cell? ⟨w.heap.size, 8, none⟩ = some (.int .i64 P.cl) := HX2.out.1.cell rfl
  go_wp2_with fail
  refine (rcheck_any _ P w2 (HPV.out _ HX2.out.2)).mono ?_
  rintro e w3 ⟨t', c', rfl, hr, ht⟩
  obtain ⟨rfl, rfl⟩ := hr.uniq HR.out
  have HX3 := Lib.hid (step7 HX2.out ht)
  clear hr ht
  clear b0 b1 b2 b3 b4 b5 b6 b7 b8
  go_wp2_with fail
  go_ret
  exact ⟨rfl, HX3.out.2⟩
set_option maxHeartbeats 8000000 in
set_option maxRecDepth 100000 in
theorem checks_law (pv : Value) (P : Pg) (w : World) (h : PgV w pv P) (hl : LenP P) (hi : InP P) (hv : Vs w) : Calls Tryd.prog 3 #[pv] w (TrueP w) := by
  obtain ⟨a1, a2, a3, a5, a6, a7, a8, c1, c2, c3, c5, c6, c7, c8, rfl, ho⟩ := h.open
  have HV := Lib.hid hv
  have HLN := Lib.hid hl
  have hb : Blk (w.alloc (.cells #[.slice a1 P.n1 c1, .slice a2 P.n2 c2, .slice a3 P.n3 c3, .int .i64 P.rg, .slice a5 P.se.length c5, .slice a6 P.tt.length c6, .slice a7 P.ve.length c7, .slice a8 P.n8 c8, .int .i64 P.cl] 29)) w.heap.size #[.slice a1 P.n1 c1, .slice a2 P.n2 c2, .slice a3 P.n3 c3, .int .i64 P.rg, .slice a5 P.se.length c5, .slice a6 P.tt.length c6, .slice a7 P.ve.length c7, .slice a8 P.n8 c8, .int .i64 P.cl] 29 := Blk.new rfl
  have hT0 : Touch [] w (w.alloc (.cells #[.slice a1 P.n1 c1, .slice a2 P.n2 c2, .slice a3 P.n3 c3, .int .i64 P.rg, .slice a5 P.se.length c5, .slice a6 P.tt.length c6, .slice a7 P.ve.length c7, .slice a8 P.n8 c8, .int .i64 P.cl] 29)) := (Touch.refl [] w).alloc _
  obtain ⟨W1, hW1⟩ : ∃ x, (w.alloc (.cells #[.slice a1 P.n1 c1, .slice a2 P.n2 c2, .slice a3 P.n3 c3, .int .i64 P.rg, .slice a5 P.se.length c5, .slice a6 P.tt.length c6, .slice a7 P.ve.length c7, .slice a8 P.n8 c8, .int .i64 P.cl] 29)) = x := ⟨_, rfl⟩
  rw [hW1] at hb hT0
  have HW1 := Lib.hid hW1
  have HX1 : Hid (Blk W1 w.heap.size #[.slice a1 P.n1 c1, .slice a2 P.n2 c2, .slice a3 P.n3 c3, .int .i64 P.rg, .slice a5 P.se.length c5, .slice a6 P.tt.length c6, .slice a7 P.ve.length c7, .slice a8 P.n8 c8, .int .i64 P.cl] 29 ∧ Touch [] w W1) := Lib.hid ⟨hb, hT0⟩
  have HPV : Hid (∀ wz, Touch [] w wz → PgV wz (.agg #[.slice a1 P.n1 c1, .slice a2 P.n2 c2, .slice a3 P.n3 c3, .int .i64 P.rg, .slice a5 P.se.length c5, .slice a6 P.tt.length c6, .slice a7 P.ve.length c7, .slice a8 P.n8 c8, .int .i64 P.cl]) P) := Lib.hid (fun wz ht => (ho.touch ht).val)
  have b0 : W1.cell? ⟨w.heap.size, 0, none⟩ = some (.slice a1 P.n1 c1) := HX1.out.1.cell rfl
  have b1 : W1.cell? ⟨w.heap.size, 1, none⟩ = some (.slice a2 P.n2 c2) := HX1.out.1.cell rfl
  have b2 : W1.cell? ⟨w.heap.size, 2, none⟩ = some (.slice a3 P.n3 c3) := HX1.out.1.cell rfl
  have b3 : W1.cell? ⟨w.heap.size, 3, none⟩ = some (.int .i64 P.rg) := HX1.out.1.cell rfl
  have b4 : W1.cell? ⟨w.heap.size, 4, none⟩ = some (.slice a5 P.se.length c5) := HX1.out.1.cell rfl
  have b5 : W1.cell? ⟨w.heap.size, 5, none⟩ = some (.slice a6 P.tt.length c6) := HX1.out.1.cell rfl
  have b6 : W1.cell? ⟨w.heap.size, 6, none⟩ = some (.slice a7 P.ve.length c7) := HX1.out.1.cell rfl
  have b7 : W1.cell? ⟨w.heap.size, 7, none⟩ = some (.slice a8 P.n8 c8) := HX1.out.1.cell rfl
  have b8 : W1.cell? ⟨w.heap.size, 8, none⟩ = some (.int .i64 P.cl) := HX1.out.1.cell rfl
  clear h ho hv hl hW1 hb hT0
  go_enter Tryd.func3, Tryd.ntmps3
  go_wp2_with fail
  rw [HW1.out]
  refine (small_any _ P 12000 W1 (HPV.out _ HX1.out.2) HLN.out.ve).mono ?_
  rintro e w2 ⟨sb, rfl, ht⟩
  have HX2 := Lib.hid (step7 HX1.out ht)
  clear ht
  clear b0 b1 b2 b3 b4 b5 b6 b7 b8
  cases sb with
  | false =>
    go_wp2_with fail
    refine (awake_any w2 (HV.out.touch HX2.out.2)).mono ?_
    rintro e w9 ⟨rfl, ht⟩
    have HT9 := Lib.hid (HX2.out.2.trans ht)
    clear ht
    go_wp2_with fail
    go_ret
    exact ⟨rfl, HT9.out⟩
  | true =>
    have b0 : w2.cell? ⟨w.heap.size, 0, none⟩ = some (.slice a1 P.n1 c1) := HX2.out.1.cell rfl
    have b1 : w2.cell? ⟨w.heap.size, 1, none⟩ = some (.slice a2 P.n2 c2) := HX2.out.1.cell rfl
    have b2 : w2.cell? ⟨w.heap.size, 2, none⟩ = some (.slice a3 P.n3 c3) := HX2.out.1.cell rfl
    have b3 : w2.cell? ⟨w.heap.size, 3, none⟩ = some (.int .i64 P.rg) := HX2.out.1.cell rfl
    have b4 : w2.cell? ⟨w.heap.size, 4, none⟩ = some (.slice a5 P.se.length c5) := HX2.out.1.cell rfl
    have b5 : w2.cell? ⟨w.heap.size, 5, none⟩ = some (.slice a6 P.tt.length c6) := HX2.out.1.cell rfl
    have b6 : w2.cell? ⟨w.heap.size, 6, none⟩ = some (.slice a7 P.ve.length c7) := HX2.out.1.cell rfl
    have b7 : w2.cell? ⟨w.heap.size, 7, none⟩ = some (.slice a8 P.n8 c8) := HX2.out.1.cell rfl
    have b8 : w2.cell? ⟨w.heap.size, 8, none⟩ = some (.int .i64 P.cl) := HX2.out.1.cell rfl
    go_wp2_with fail
    refine (alike_any _ P w2 (HPV.out _ HX2.out.2) HLN.out (HV.out.touch HX2.out.2)).mono ?_
    rintro e w3 ⟨rfl, ht⟩
    have HT3 := Lib.hid (HX2.out.2.trans ht)
    clear ht
    clear b0 b1 b2 b3 b4 b5 b6 b7 b8
    go_wp2_with fail
    refine (awake_any w3 (HV.out.touch HT3.out)).mono ?_
    rintro e w9 ⟨rfl, ht⟩
    have HT9 := Lib.hid (HT3.out.trans ht)
    clear ht
    go_wp2_with fail
    go_ret
    exact ⟨rfl, HT9.out⟩
set_option maxHeartbeats 16000000 in
set_option maxRecDepth 100000 in
theorem depths_law (pv : Value) (P : Pg) (q : Int) (w : World) (h : PgV w pv P) (hl : LenP P) (hi : InP P) (hq : (Lit.int .i64 q).wf = true) (hv : Vs w) : Calls Tryd.prog 4 #[pv, .int .i64 q] w (TrueP w) := by
  obtain ⟨a1, a2, a3, a5, a6, a7, a8, c1, c2, c3, c5, c6, c7, c8, rfl, ho⟩ := h.open
  have HV := Lib.hid hv
  have HLN := Lib.hid hl
  have hb : Blk (w.alloc (.cells #[.slice a1 P.n1 c1, .slice a2 P.n2 c2, .slice a3 P.n3 c3, .int .i64 P.rg, .slice a5 P.se.length c5, .slice a6 P.tt.length c6, .slice a7 P.ve.length c7, .slice a8 P.n8 c8, .int .i64 P.cl] 29)) w.heap.size #[.slice a1 P.n1 c1, .slice a2 P.n2 c2, .slice a3 P.n3 c3, .int .i64 P.rg, .slice a5 P.se.length c5, .slice a6 P.tt.length c6, .slice a7 P.ve.length c7, .slice a8 P.n8 c8, .int .i64 P.cl] 29 := Blk.new rfl
  have hT0 : Touch [] w (w.alloc (.cells #[.slice a1 P.n1 c1, .slice a2 P.n2 c2, .slice a3 P.n3 c3, .int .i64 P.rg, .slice a5 P.se.length c5, .slice a6 P.tt.length c6, .slice a7 P.ve.length c7, .slice a8 P.n8 c8, .int .i64 P.cl] 29)) := (Touch.refl [] w).alloc _
  obtain ⟨W1, hW1⟩ : ∃ x, (w.alloc (.cells #[.slice a1 P.n1 c1, .slice a2 P.n2 c2, .slice a3 P.n3 c3, .int .i64 P.rg, .slice a5 P.se.length c5, .slice a6 P.tt.length c6, .slice a7 P.ve.length c7, .slice a8 P.n8 c8, .int .i64 P.cl] 29)) = x := ⟨_, rfl⟩
  rw [hW1] at hb hT0
  have HW1 := Lib.hid hW1
  have HX1 : Hid (Blk W1 w.heap.size #[.slice a1 P.n1 c1, .slice a2 P.n2 c2, .slice a3 P.n3 c3, .int .i64 P.rg, .slice a5 P.se.length c5, .slice a6 P.tt.length c6, .slice a7 P.ve.length c7, .slice a8 P.n8 c8, .int .i64 P.cl] 29 ∧ Touch [] w W1) := Lib.hid ⟨hb, hT0⟩
  have HPV : Hid (∀ wz, Touch [] w wz → PgV wz (.agg #[.slice a1 P.n1 c1, .slice a2 P.n2 c2, .slice a3 P.n3 c3, .int .i64 P.rg, .slice a5 P.se.length c5, .slice a6 P.tt.length c6, .slice a7 P.ve.length c7, .slice a8 P.n8 c8, .int .i64 P.cl]) P) := Lib.hid (fun wz ht => (ho.touch ht).val)
  have b0 : W1.cell? ⟨w.heap.size, 0, none⟩ = some (.slice a1 P.n1 c1) := HX1.out.1.cell rfl
  have b1 : W1.cell? ⟨w.heap.size, 1, none⟩ = some (.slice a2 P.n2 c2) := HX1.out.1.cell rfl
  have b2 : W1.cell? ⟨w.heap.size, 2, none⟩ = some (.slice a3 P.n3 c3) := HX1.out.1.cell rfl
  have b3 : W1.cell? ⟨w.heap.size, 3, none⟩ = some (.int .i64 P.rg) := HX1.out.1.cell rfl
  have b4 : W1.cell? ⟨w.heap.size, 4, none⟩ = some (.slice a5 P.se.length c5) := HX1.out.1.cell rfl
  have b5 : W1.cell? ⟨w.heap.size, 5, none⟩ = some (.slice a6 P.tt.length c6) := HX1.out.1.cell rfl
  have b6 : W1.cell? ⟨w.heap.size, 6, none⟩ = some (.slice a7 P.ve.length c7) := HX1.out.1.cell rfl
  have b7 : W1.cell? ⟨w.heap.size, 7, none⟩ = some (.slice a8 P.n8 c8) := HX1.out.1.cell rfl
  have b8 : W1.cell? ⟨w.heap.size, 8, none⟩ = some (.int .i64 P.cl) := HX1.out.1.cell rfl
  have hn2 := hl.n2
  clear h ho hv hl hW1 hb hT0 hq
  go_enter Tryd.func4, Tryd.ntmps4
  go_wp2_with fail
  rw [HW1.out]
  refine (small_any _ P 6000 W1 (HPV.out _ HX1.out.2) HLN.out.ve).mono ?_
  rintro e w2 ⟨sb, rfl, ht⟩
  have HX2 := Lib.hid (step7 HX1.out ht)
  clear ht
  clear b0 b1 b2 b3 b4 b5 b6 b7 b8
  cases sb with
  | false =>
    go_wp2_with fail
    refine (awake_any w2 (HV.out.touch HX2.out.2)).mono ?_
    rintro e w9 ⟨rfl, ht⟩
    have HT9 := Lib.hid (HX2.out.2.trans ht)
    clear ht
    go_wp2_with fail
    go_ret
    exact ⟨rfl, HT9.out⟩
  | true =>
    have b0 : w2.cell? ⟨w.heap.size, 0, none⟩ = some (.slice a1 P.n1 c1) := HX2.out.1.cell rfl
    have b1 : w2.cell? ⟨w.heap.size, 1, none⟩ = some (.slice a2 P.n2 c2) := HX2.out.1.cell rfl
    have b2 : w2.cell? ⟨w.heap.size, 2, none⟩ = some (.slice a3 P.n3 c3) := HX2.out.1.cell rfl
    have b3 : w2.cell? ⟨w.heap.size, 3, none⟩ = some (.int .i64 P.rg) := HX2.out.1.cell rfl
    have b4 : w2.cell? ⟨w.heap.size, 4, none⟩ = some (.slice a5 P.se.length c5) := HX2.out.1.cell rfl
    have b5 : w2.cell? ⟨w.heap.size, 5, none⟩ = some (.slice a6 P.tt.length c6) := HX2.out.1.cell rfl
    have b6 : w2.cell? ⟨w.heap.size, 6, none⟩ = some (.slice a7 P.ve.length c7) := HX2.out.1.cell rfl
    have b7 : w2.cell? ⟨w.heap.size, 7, none⟩ = some (.slice a8 P.n8 c8) := HX2.out.1.cell rfl
    have b8 : w2.cell? ⟨w.heap.size, 8, none⟩ = some (.int .i64 P.cl) := HX2.out.1.cell rfl
    go_wp2_with fail
    refine (deps_any _ P q w2 (HV.out.touch HX2.out.2) (HPV.out _ HX2.out.2) HLN.out).mono ?_
    rintro e w3 ⟨ht, hd⟩
    have HX3 := Lib.hid (step7 HX2.out ht)
    clear ht
    clear b0 b1 b2 b3 b4 b5 b6 b7 b8
    rcases hd with ⟨v, D, h1, h2, h3, hq0, hqn, rfl, hf, hs⟩ | ⟨hn, rfl⟩
    · have HTO := Lib.hid h1
      have HIO := Lib.hid h2
      have HDO := Lib.hid h3
      have HS3 := Lib.hid hs
      obtain ⟨k, rfl⟩ : ∃ k : Nat, q = (k : Int) := ⟨q.toNat, by omega⟩
      have HFU : Hid (Full (flow P k) D) := Lib.hid hf
      have HKN : Hid (k < P.n2) := Lib.hid (by omega)
      have d0 : decide ((k : Int) < 0) = false := dF (by omega)
      have d1 : decide ((P.n2 : Int) ≤ (k : Int)) = false := dF (by omega)
      have d2 : decide (P.n2 ≤ k) = false := dF (by omega)
      clear h1 h2 h3 hf hs hq0 hqn
      have b0 : w3.cell? ⟨w.heap.size, 0, none⟩ = some (.slice a1 P.n1 c1) := HX3.out.1.cell rfl
      have b1 : w3.cell? ⟨w.heap.size, 1, none⟩ = some (.slice a2 P.n2 c2) := HX3.out.1.cell rfl
      have b2 : w3.cell? ⟨w.heap.size, 2, none⟩ = some (.slice a3 P.n3 c3) := HX3.out.1.cell rfl
      have b3 : w3.cell? ⟨w.heap.size, 3, none⟩ = some (.int .i64 P.rg) := HX3.out.1.cell rfl
      have b4 : w3.cell? ⟨w.heap.size, 4, none⟩ = some (.slice a5 P.se.length c5) := HX3.out.1.cell rfl
      have b5 : w3.cell? ⟨w.heap.size, 5, none⟩ = some (.slice a6 P.tt.length c6) := HX3.out.1.cell rfl
      have b6 : w3.cell? ⟨w.heap.size, 6, none⟩ = some (.slice a7 P.ve.length c7) := HX3.out.1.cell rfl
      have b7 : w3.cell? ⟨w.heap.size, 7, none⟩ = some (.slice a8 P.n8 c8) := HX3.out.1.cell rfl
      have b8 : w3.cell? ⟨w.heap.size, 8, none⟩ = some (.int .i64 P.cl) := HX3.out.1.cell rfl
      go_wp2_with fail
      refine (rcheck_any _ P w3 (HPV.out _ HX3.out.2)).mono ?_
      rintro e w4 ⟨t, c, rfl, hr, ht⟩
      have HX4 := Lib.hid (step7 HX3.out ht)
      have HS4 := Lib.hid (HS3.out.touch ht (by simp))
      obtain ⟨rfl, rfl⟩ := hr.uniq (.inr (.inr (.inr ⟨HTO.out, HIO.out, HDO.out, rfl, rfl⟩)))
      clear hr ht
      clear b0 b1 b2 b3 b4 b5 b6 b7 b8
      have b0 : w4.cell? ⟨w.heap.size, 0, none⟩ = some (.slice a1 P.n1 c1) := HX4.out.1.cell rfl
      have b1 : w4.cell? ⟨w.heap.size, 1, none⟩ = some (.slice a2 P.n2 c2) := HX4.out.1.cell rfl
      have b2 : w4.cell? ⟨w.heap.size, 2, none⟩ = some (.slice a3 P.n3 c3) := HX4.out.1.cell rfl
      have b3 : w4.cell? ⟨w.heap.size, 3, none⟩ = some (.int .i64 P.rg) := HX4.out.1.cell rfl
      have b4 : w4.cell? ⟨w.heap.size, 4, none⟩ = some (.slice a5 P.se.length c5) := HX4.out.1.cell rfl
      have b5 : w4.cell? ⟨w.heap.size, 5, none⟩ = some (.slice a6 P.tt.length c6) := HX4.out.1.cell rfl
      have b6 : w4.cell? ⟨w.heap.size, 6, none⟩ = some (.slice a7 P.ve.length c7) := HX4.out.1.cell rfl
      have b7 : w4.cell? ⟨w.heap.size, 7, none⟩ = some (.slice a8 P.n8 c8) := HX4.out.1.cell rfl
      have b8 : w4.cell? ⟨w.heap.size, 8, none⟩ = some (.int .i64 P.cl) := HX4.out.1.cell rfl
      go_wp2_with fail
      refine (rdepths_any _ P k w4 (HPV.out _ HX4.out.2) HTO.out HKN.out (HIO.out k HKN.out)).mono ?_
      rintro e w5 ⟨ht, hd⟩
      have HX5 := Lib.hid (step7 HX4.out ht)
      have HS5 := Lib.hid (HS4.out.touch ht (by simp))
      clear ht
      clear b0 b1 b2 b3 b4 b5 b6 b7 b8
      rcases hd with ⟨v2, D2, rfl, hf2, hs2⟩ | ⟨_, hbad⟩
      case inr => exact absurd (HDO.out k HKN.out) hbad
      obtain rfl : D2 = D := hf2.uniq HFU.out (flow_may HTO.out HKN.out (HIO.out k HKN.out))
      have hl5 : D2.length ≤ 1000000 := by
        have h1 := HFU.out.snd.len
        have h2 : (flow P k).n = toP P k - fromP P k := rfl
        have h3 := (from_lt HTO.out HKN.out).2.1
        have h4 : P.n1 ≤ 5000 := (HTO.out 0 (by omega) : MayP P).1
        omega
      have HLL := Lib.hid hl5
      have HS6 := Lib.hid hs2
      clear hf2 hs2 hl5
      go_wp2_with fail
      refine (ints_any _ _ D2 D2 w5 HS5.out HS6.out HLL.out HLL.out).mono ?_
      rintro e w6 ⟨rfl, m, rfl⟩
      rw [eqI_refl]
      have HT6 := Lib.hid (HX5.out.2.drewN m)
      obtain ⟨w6, hw6⟩ : ∃ x, w5.drewN m = x := ⟨_, rfl⟩
      rw [hw6] at HT6 ⊢
      clear hw6
      go_wp2_with fail
      refine (awake_any w6 (HV.out.touch HT6.out)).mono ?_
      rintro e w9 ⟨rfl, ht⟩
      have HT9 := Lib.hid (HT6.out.trans ht)
      clear ht
      go_wp2_with fail
      go_ret
      exact ⟨rfl, HT9.out⟩
    · have HN := Lib.hid hn
      clear hn
      have b0 : w3.cell? ⟨w.heap.size, 0, none⟩ = some (.slice a1 P.n1 c1) := HX3.out.1.cell rfl
      have b1 : w3.cell? ⟨w.heap.size, 1, none⟩ = some (.slice a2 P.n2 c2) := HX3.out.1.cell rfl
      have b2 : w3.cell? ⟨w.heap.size, 2, none⟩ = some (.slice a3 P.n3 c3) := HX3.out.1.cell rfl
      have b3 : w3.cell? ⟨w.heap.size, 3, none⟩ = some (.int .i64 P.rg) := HX3.out.1.cell rfl
      have b4 : w3.cell? ⟨w.heap.size, 4, none⟩ = some (.slice a5 P.se.length c5) := HX3.out.1.cell rfl
      have b5 : w3.cell? ⟨w.heap.size, 5, none⟩ = some (.slice a6 P.tt.length c6) := HX3.out.1.cell rfl
      have b6 : w3.cell? ⟨w.heap.size, 6, none⟩ = some (.slice a7 P.ve.length c7) := HX3.out.1.cell rfl
      have b7 : w3.cell? ⟨w.heap.size, 7, none⟩ = some (.slice a8 P.n8 c8) := HX3.out.1.cell rfl
      have b8 : w3.cell? ⟨w.heap.size, 8, none⟩ = some (.int .i64 P.cl) := HX3.out.1.cell rfl
      go_wp2_with fail
      refine (rcheck_any _ P w3 (HPV.out _ HX3.out.2)).mono ?_
      rintro e w4 ⟨t, c, rfl, hr, ht⟩
      have HX4 := Lib.hid (step7 HX3.out ht)
      have HR := Lib.hid hr
      clear hr ht
      clear b0 b1 b2 b3 b4 b5 b6 b7 b8
      have b0 : w4.cell? ⟨w.heap.size, 0, none⟩ = some (.slice a1 P.n1 c1) := HX4.out.1.cell rfl
      have b1 : w4.cell? ⟨w.heap.size, 1, none⟩ = some (.slice a2 P.n2 c2) := HX4.out.1.cell rfl
      have b2 : w4.cell? ⟨w.heap.size, 2, none⟩ = some (.slice a3 P.n3 c3) := HX4.out.1.cell rfl
      have b3 : w4.cell? ⟨w.heap.size, 3, none⟩ = some (.int .i64 P.rg) := HX4.out.1.cell rfl
      have b4 : w4.cell? ⟨w.heap.size, 4, none⟩ = some (.slice a5 P.se.length c5) := HX4.out.1.cell rfl
      have b5 : w4.cell? ⟨w.heap.size, 5, none⟩ = some (.slice a6 P.tt.length c6) := HX4.out.1.cell rfl
      have b6 : w4.cell? ⟨w.heap.size, 6, none⟩ = some (.slice a7 P.ve.length c7) := HX4.out.1.cell rfl
      have b7 : w4.cell? ⟨w.heap.size, 7, none⟩ = some (.slice a8 P.n8 c8) := HX4.out.1.cell rfl
      have b8 : w4.cell? ⟨w.heap.size, 8, none⟩ = some (.int .i64 P.cl) := HX4.out.1.cell rfl
      by_cases hc : c = 0
      · obtain ⟨g1, g2, g3, _⟩ := HR.out.zero hc
        subst hc
        by_cases hq0 : q < 0
        · have d0 : decide (q < 0) = true := dT hq0
          clear g1 g2 g3
          go_wp2_with fail
          refine (awake_any w4 (HV.out.touch HX4.out.2)).mono ?_
          rintro e w9 ⟨rfl, ht⟩
          have HT9 := Lib.hid (HX4.out.2.trans ht)
          clear ht
          go_wp2_with fail
          go_ret
          exact ⟨rfl, HT9.out⟩
        · have d0 : decide (q < 0) = false := dF hq0
          have hqn : (P.n2 : Int) ≤ q := by
            by_cases hh : (P.n2 : Int) ≤ q
            · exact hh
            · exact absurd ⟨g1, g2, g3, by omega, by omega⟩ HN.out
          have d1 : decide ((P.n2 : Int) ≤ q) = true := dT hqn
          clear g1 g2 g3
          go_wp2_with fail
          refine (awake_any w4 (HV.out.touch HX4.out.2)).mono ?_
          rintro e w9 ⟨rfl, ht⟩
          have HT9 := Lib.hid (HX4.out.2.trans ht)
          clear ht
          go_wp2_with fail
          go_ret
          exact ⟨rfl, HT9.out⟩
      · have d1 : (c != 0) = true := bneT hc
        clear hc
        go_wp2_with fail
        refine (awake_any w4 (HV.out.touch HX4.out.2)).mono ?_
        rintro e w9 ⟨rfl, ht⟩
        have HT9 := Lib.hid (HX4.out.2.trans ht)
        clear ht
        go_wp2_with fail
        go_ret
        exact ⟨rfl, HT9.out⟩
end Go.Proofs.YtckppinobkkegaaDoor
