/-
  The program's reader: structs of numbers, and lists.
-/
import Derived.Test.YtoedkomckgidiaaCM
import Derived.Test.YtoedkomckgidiaaW2
set_option linter.unusedVariables false
namespace Go.Proofs.Ytoedkomckgidiaa
open Go Go.RowKit

theorem Rd.grown {D S : List Nat} {cl : Nat} {w w' : World} {b : Nat} {st : Option Nat} (h : Rd D cl w b st) (ht : Touch S w w') (hs : ∀ k ∈ S, b < k) : Rd D cl w' b st := by
  cases st with
  | some o => obtain ⟨h0, v, h1, h2, h3⟩ := h; exact ⟨h0, v, h1.touch ht (fun hm => by have := hs b hm; omega), h2.touch ht (fun k hk hm => by have := hs k hm; have := h3 k hk; omega), h3⟩
  | none => obtain ⟨v, R, h1, h2, h3, h4⟩ := h; exact ⟨v, R, h1.touch ht (fun hm => by have := hs b hm; omega), h2.touch ht (fun k hk hm => by have := hs k hm; have := h4 k hk; omega), h3, h4⟩
theorem go_go (D : List Nat) (m n : Nat) (st : Option Nat) : go_ D n (go_ D m st) = go_ D (m + n) st := by
  cases st with
  | none => rfl
  | some o =>
    show go_ D n (if o + m ≤ D.length then some (o + m) else none) = if o + (m + n) ≤ D.length then some (o + (m + n)) else none
    by_cases h : o + m ≤ D.length
    · rw [if_pos h]
      show (if o + m + n ≤ D.length then some (o + m + n) else none) = _
      rw [Nat.add_assoc]
    · rw [if_neg h, if_neg (by omega)]; rfl
theorem go_zero {D : List Nat} {cl b : Nat} {w : World} {st : Option Nat} (h : Rd D cl w b st) : go_ D 0 st = st := by
  cases st with
  | none => rfl
  | some o => exact if_pos h.1
theorem go_mono {D : List Nat} {m n : Nat} {st : Option Nat} (h : go_ D m st = none) (hm : m ≤ n) : go_ D n st = none := by
  obtain ⟨d, rfl⟩ := Nat.le.dest hm
  rw [← go_go, h]; rfl
/-- The i-th number from here on. -/
def nvA (D : List Nat) (st : Option Nat) (q : Nat) : Int := nv D (go_ D (8 * q) st)
theorem nvA_zero {D : List Nat} {cl b : Nat} {w : World} {st : Option Nat} (h : Rd D cl w b st) : nvA D st 0 = nv D st := by
  unfold nvA; rw [Nat.mul_zero, go_zero h]
/-- How a list ends: none, if it is too long or bytes are missing. -/
def rl_ (D : List Nat) (m most : Nat) (st : Option Nat) : Option Nat := if un_ D 2 st ≤ most then go_ D (2 + 8 * (m * un_ D 2 st)) st else none
theorem nv_in (D : List Nat) (st : Option Nat) (hDb : ∀ x ∈ D, x < 256) : InI (nv D st) := sgn_in (by have := un_lt D 8 st (by omega) hDb; omega)
theorem Ar.slr {w : World} {base : Nat} {e : TypeId} {s n : Nat} {v : Value} {ps : Nat → Nat → Int} (h : Ar w base e s v n ps) : Slr w v n s ps := by
  rcases h with ⟨rfl, rfl⟩ | ⟨g, cap, cur, rfl, hb, hg, h1, h2, h3, h4⟩
  · exact ⟨none, 0, rfl, .inl rfl⟩
  · exact ⟨_, cap, rfl, .inr ⟨g, 0, rfl, hg.lt, fun i hi j hj => by rw [Nat.zero_add]; exact hg.cell (h4 i hi j hj)⟩⟩
def instrP (D : List Nat) (cl b : Nat) (st : Option Nat) (w : World) (e : Ending) (w' : World) : Prop :=
  e = .returned (.agg #[.int .i64 (nvA D st 0), .int .i64 (nvA D st 1), .int .i64 (nvA D st 2)]) ∧ Rd D cl w' b (go_ D 24 st) ∧ Touch [b] w w'
set_option maxHeartbeats 8000000 in
theorem instr_any (D : List Nat) (cl b : Nat) (st : Option Nat) (w : World) (h : Rd D cl w b st) (hD : D.length ≤ 9223372036854775807) (hDb : ∀ x ∈ D, x < 256) :
    Calls Try.prog 37 #[.pointer (some ⟨b, 0, none⟩)] w (instrP D cl b st w) := by
  have HD := Lib.hid hD
  have HDB := Lib.hid hDb
  obtain ⟨x0, hx0⟩ : ∃ x, nv D st = x := ⟨_, rfl⟩
  have hy0 : nvA D st 0 = x0 := by rw [nvA_zero h, hx0]
  have HX0 := Lib.hid hx0
  have HY0 := Lib.hid hy0
  obtain ⟨x1, hx1⟩ : ∃ x, nv D (go_ D 8 st) = x := ⟨_, rfl⟩
  have hy1 : nvA D st 1 = x1 := by rw [← hx1]; rfl
  have HX1 := Lib.hid hx1
  have HY1 := Lib.hid hy1
  obtain ⟨x2, hx2⟩ : ∃ x, nv D (go_ D 16 st) = x := ⟨_, rfl⟩
  have hy2 : nvA D st 2 = x2 := by rw [← hx2]; rfl
  have HX2 := Lib.hid hx2
  have HY2 := Lib.hid hy2
  have HR0 : Hid (Rd D cl (w.alloc (.cells #[.int .i64 0, .int .i64 0, .int .i64 0] 44)) b st) := Lib.hid (h.touch ((Touch.refl [] w).alloc _))
  have hbw : b < w.heap.size := h.lt
  have HT0 : Hid (Touch [b] w (w.alloc (.cells #[.int .i64 0, .int .i64 0, .int .i64 0] 44))) := Lib.hid ((Touch.refl [b] w).alloc _)
  clear hx0 hy0 hx1 hy1 hx2 hy2 h
  go_enter Try.func37, Try.ntmps37
  go_wp2_with fail
  refine (num_any D cl b st _ HR0.out HD.out HDB.out).mono ?_
  rintro e w1 ⟨rfl, hR, ht⟩
  rw [HX0.out]
  have HR1 := Lib.hid hR
  have HT1 := Lib.hid (HT0.out.trans ht)
  clear hR
  have hbl : Blk w1 w.heap.size #[.int .i64 0, .int .i64 0, .int .i64 0] 44 := (Blk.new rfl : Blk (w.alloc (.cells #[.int .i64 0, .int .i64 0, .int .i64 0] 44)) w.heap.size #[.int .i64 0, .int .i64 0, .int .i64 0] 44).touch ht (by simp; omega)
  have HBL1 := Lib.hid hbl
  clear hbl ht
  go_wp2_with fail
  refine (num_any D cl b (go_ D 8 st) _ HR1.out HD.out HDB.out).mono ?_
  rintro e w2 ⟨rfl, hR, ht⟩
  rw [HX1.out]
  have HR2 := Lib.hid hR
  have HT2 := Lib.hid (HT1.out.trans ht)
  clear hR
  have hbl := HBL1.out.touch ht (by simp; omega)
  have HBL2 := Lib.hid hbl
  clear hbl ht
  rw [go_go] at HR2
  go_wp2_with fail
  refine (num_any D cl b (go_ D 16 st) _ HR2.out HD.out HDB.out).mono ?_
  rintro e w3 ⟨rfl, hR, ht⟩
  rw [HX2.out]
  have HR3 := Lib.hid hR
  have HT3 := Lib.hid (HT2.out.trans ht)
  clear hR
  have hbl := HBL2.out.touch ht (by simp; omega)
  have HBL3 := Lib.hid hbl
  clear hbl ht
  rw [go_go] at HR3
  obtain ⟨SZ, hSZ⟩ : ∃ s, w.heap.size = s := ⟨_, rfl⟩
  rw [hSZ] at HBL3 hbw
  have c0 := HBL3.out.cell (i := 0) rfl
  have f0 := HBL3.out.free 0
  have c1 := HBL3.out.cell (i := 1) rfl
  have f1 := HBL3.out.free 1
  have c2 := HBL3.out.cell (i := 2) rfl
  have f2 := HBL3.out.free 2
  go_wp2
  have T1 := ((((Touch.refl [SZ] w3).setCell (p := ⟨SZ, 0, none⟩) (by simp) (.int .i64 x0)).setCell (p := ⟨SZ, 1, none⟩) (by simp) (.int .i64 x1)).setCell (p := ⟨SZ, 2, none⟩) (by simp) (.int .i64 x2))
  have T2 := (((HT3.out.setNew (p := ⟨SZ, 0, none⟩) (by simp; omega) (.int .i64 x0)).setNew (p := ⟨SZ, 1, none⟩) (by simp; omega) (.int .i64 x1)).setNew (p := ⟨SZ, 2, none⟩) (by simp; omega) (.int .i64 x2))
  have HBF := (((HBL3.out.set 0 (.int .i64 x0)).set 1 (.int .i64 x1)).set 2 (.int .i64 x2))
  obtain ⟨W, hW⟩ : ∃ W, (((w3.setCell ⟨SZ, 0, none⟩ (.int .i64 x0)).setCell ⟨SZ, 1, none⟩ (.int .i64 x1)).setCell ⟨SZ, 2, none⟩ (.int .i64 x2)) = W := ⟨_, rfl⟩
  rw [hW] at T1 T2 HBF ⊢
  have HBFh := Lib.hid HBF
  have HT1 := Lib.hid T1
  have HT2 := Lib.hid T2
  have z0 := HBF.cell (i := 0) rfl
  have z1 := HBF.cell (i := 1) rfl
  have z2 := HBF.cell (i := 2) rfl
  clear T1 T2 HBF hW c0 f0 c1 f1 c2 f2
  (try simp only [Exit.inBlock, Exit.then]); refine bodyPost_ret (by simp [results, Try.results37, go_sem, z0, z1, z2]; try rfl) rfl ?_
  exact ⟨by rw [HY0.out, HY1.out, HY2.out], HR3.out.grown (S := [SZ]) HT1.out (by simp; omega), HT2.out⟩
def entryP (D : List Nat) (cl b : Nat) (st : Option Nat) (w : World) (e : Ending) (w' : World) : Prop :=
  e = .returned (.agg #[.int .i64 (nvA D st 0), .int .i64 (nvA D st 1), .int .i64 (nvA D st 2)]) ∧ Rd D cl w' b (go_ D 24 st) ∧ Touch [b] w w'
set_option maxHeartbeats 8000000 in
theorem entry_any (D : List Nat) (cl b : Nat) (st : Option Nat) (w : World) (h : Rd D cl w b st) (hD : D.length ≤ 9223372036854775807) (hDb : ∀ x ∈ D, x < 256) :
    Calls Try.prog 39 #[.pointer (some ⟨b, 0, none⟩)] w (entryP D cl b st w) := by
  have HD := Lib.hid hD
  have HDB := Lib.hid hDb
  obtain ⟨x0, hx0⟩ : ∃ x, nv D st = x := ⟨_, rfl⟩
  have hy0 : nvA D st 0 = x0 := by rw [nvA_zero h, hx0]
  have HX0 := Lib.hid hx0
  have HY0 := Lib.hid hy0
  obtain ⟨x1, hx1⟩ : ∃ x, nv D (go_ D 8 st) = x := ⟨_, rfl⟩
  have hy1 : nvA D st 1 = x1 := by rw [← hx1]; rfl
  have HX1 := Lib.hid hx1
  have HY1 := Lib.hid hy1
  obtain ⟨x2, hx2⟩ : ∃ x, nv D (go_ D 16 st) = x := ⟨_, rfl⟩
  have hy2 : nvA D st 2 = x2 := by rw [← hx2]; rfl
  have HX2 := Lib.hid hx2
  have HY2 := Lib.hid hy2
  have HR0 : Hid (Rd D cl (w.alloc (.cells #[.int .i64 0, .int .i64 0, .int .i64 0] 46)) b st) := Lib.hid (h.touch ((Touch.refl [] w).alloc _))
  have hbw : b < w.heap.size := h.lt
  have HT0 : Hid (Touch [b] w (w.alloc (.cells #[.int .i64 0, .int .i64 0, .int .i64 0] 46))) := Lib.hid ((Touch.refl [b] w).alloc _)
  clear hx0 hy0 hx1 hy1 hx2 hy2 h
  go_enter Try.func39, Try.ntmps39
  go_wp2_with fail
  refine (num_any D cl b st _ HR0.out HD.out HDB.out).mono ?_
  rintro e w1 ⟨rfl, hR, ht⟩
  rw [HX0.out]
  have HR1 := Lib.hid hR
  have HT1 := Lib.hid (HT0.out.trans ht)
  clear hR
  have hbl : Blk w1 w.heap.size #[.int .i64 0, .int .i64 0, .int .i64 0] 46 := (Blk.new rfl : Blk (w.alloc (.cells #[.int .i64 0, .int .i64 0, .int .i64 0] 46)) w.heap.size #[.int .i64 0, .int .i64 0, .int .i64 0] 46).touch ht (by simp; omega)
  have HBL1 := Lib.hid hbl
  clear hbl ht
  go_wp2_with fail
  refine (num_any D cl b (go_ D 8 st) _ HR1.out HD.out HDB.out).mono ?_
  rintro e w2 ⟨rfl, hR, ht⟩
  rw [HX1.out]
  have HR2 := Lib.hid hR
  have HT2 := Lib.hid (HT1.out.trans ht)
  clear hR
  have hbl := HBL1.out.touch ht (by simp; omega)
  have HBL2 := Lib.hid hbl
  clear hbl ht
  rw [go_go] at HR2
  go_wp2_with fail
  refine (num_any D cl b (go_ D 16 st) _ HR2.out HD.out HDB.out).mono ?_
  rintro e w3 ⟨rfl, hR, ht⟩
  rw [HX2.out]
  have HR3 := Lib.hid hR
  have HT3 := Lib.hid (HT2.out.trans ht)
  clear hR
  have hbl := HBL2.out.touch ht (by simp; omega)
  have HBL3 := Lib.hid hbl
  clear hbl ht
  rw [go_go] at HR3
  obtain ⟨SZ, hSZ⟩ : ∃ s, w.heap.size = s := ⟨_, rfl⟩
  rw [hSZ] at HBL3 hbw
  have c0 := HBL3.out.cell (i := 0) rfl
  have f0 := HBL3.out.free 0
  have c1 := HBL3.out.cell (i := 1) rfl
  have f1 := HBL3.out.free 1
  have c2 := HBL3.out.cell (i := 2) rfl
  have f2 := HBL3.out.free 2
  go_wp2
  have T1 := ((((Touch.refl [SZ] w3).setCell (p := ⟨SZ, 0, none⟩) (by simp) (.int .i64 x0)).setCell (p := ⟨SZ, 1, none⟩) (by simp) (.int .i64 x1)).setCell (p := ⟨SZ, 2, none⟩) (by simp) (.int .i64 x2))
  have T2 := (((HT3.out.setNew (p := ⟨SZ, 0, none⟩) (by simp; omega) (.int .i64 x0)).setNew (p := ⟨SZ, 1, none⟩) (by simp; omega) (.int .i64 x1)).setNew (p := ⟨SZ, 2, none⟩) (by simp; omega) (.int .i64 x2))
  have HBF := (((HBL3.out.set 0 (.int .i64 x0)).set 1 (.int .i64 x1)).set 2 (.int .i64 x2))
  obtain ⟨W, hW⟩ : ∃ W, (((w3.setCell ⟨SZ, 0, none⟩ (.int .i64 x0)).setCell ⟨SZ, 1, none⟩ (.int .i64 x1)).setCell ⟨SZ, 2, none⟩ (.int .i64 x2)) = W := ⟨_, rfl⟩
  rw [hW] at T1 T2 HBF ⊢
  have HBFh := Lib.hid HBF
  have HT1 := Lib.hid T1
  have HT2 := Lib.hid T2
  have z0 := HBF.cell (i := 0) rfl
  have z1 := HBF.cell (i := 1) rfl
  have z2 := HBF.cell (i := 2) rfl
  clear T1 T2 HBF hW c0 f0 c1 f1 c2 f2
  (try simp only [Exit.inBlock, Exit.then]); refine bodyPost_ret (by simp [results, Try.results39, go_sem, z0, z1, z2]; try rfl) rfl ?_
  exact ⟨by rw [HY0.out, HY1.out, HY2.out], HR3.out.grown (S := [SZ]) HT1.out (by simp; omega), HT2.out⟩
def cellP (D : List Nat) (cl b : Nat) (st : Option Nat) (w : World) (e : Ending) (w' : World) : Prop :=
  e = .returned (.agg #[.int .i64 (nvA D st 0), .int .i64 (nvA D st 1)]) ∧ Rd D cl w' b (go_ D 16 st) ∧ Touch [b] w w'
set_option maxHeartbeats 8000000 in
theorem cell_any (D : List Nat) (cl b : Nat) (st : Option Nat) (w : World) (h : Rd D cl w b st) (hD : D.length ≤ 9223372036854775807) (hDb : ∀ x ∈ D, x < 256) :
    Calls Try.prog 41 #[.pointer (some ⟨b, 0, none⟩)] w (cellP D cl b st w) := by
  have HD := Lib.hid hD
  have HDB := Lib.hid hDb
  obtain ⟨x0, hx0⟩ : ∃ x, nv D st = x := ⟨_, rfl⟩
  have hy0 : nvA D st 0 = x0 := by rw [nvA_zero h, hx0]
  have HX0 := Lib.hid hx0
  have HY0 := Lib.hid hy0
  obtain ⟨x1, hx1⟩ : ∃ x, nv D (go_ D 8 st) = x := ⟨_, rfl⟩
  have hy1 : nvA D st 1 = x1 := by rw [← hx1]; rfl
  have HX1 := Lib.hid hx1
  have HY1 := Lib.hid hy1
  have HR0 : Hid (Rd D cl (w.alloc (.cells #[.int .i64 0, .int .i64 0] 53)) b st) := Lib.hid (h.touch ((Touch.refl [] w).alloc _))
  have hbw : b < w.heap.size := h.lt
  have HT0 : Hid (Touch [b] w (w.alloc (.cells #[.int .i64 0, .int .i64 0] 53))) := Lib.hid ((Touch.refl [b] w).alloc _)
  clear hx0 hy0 hx1 hy1 h
  go_enter Try.func41, Try.ntmps41
  go_wp2_with fail
  refine (num_any D cl b st _ HR0.out HD.out HDB.out).mono ?_
  rintro e w1 ⟨rfl, hR, ht⟩
  rw [HX0.out]
  have HR1 := Lib.hid hR
  have HT1 := Lib.hid (HT0.out.trans ht)
  clear hR
  have hbl : Blk w1 w.heap.size #[.int .i64 0, .int .i64 0] 53 := (Blk.new rfl : Blk (w.alloc (.cells #[.int .i64 0, .int .i64 0] 53)) w.heap.size #[.int .i64 0, .int .i64 0] 53).touch ht (by simp; omega)
  have HBL1 := Lib.hid hbl
  clear hbl ht
  go_wp2_with fail
  refine (num_any D cl b (go_ D 8 st) _ HR1.out HD.out HDB.out).mono ?_
  rintro e w2 ⟨rfl, hR, ht⟩
  rw [HX1.out]
  have HR2 := Lib.hid hR
  have HT2 := Lib.hid (HT1.out.trans ht)
  clear hR
  have hbl := HBL1.out.touch ht (by simp; omega)
  have HBL2 := Lib.hid hbl
  clear hbl ht
  rw [go_go] at HR2
  obtain ⟨SZ, hSZ⟩ : ∃ s, w.heap.size = s := ⟨_, rfl⟩
  rw [hSZ] at HBL2 hbw
  have c0 := HBL2.out.cell (i := 0) rfl
  have f0 := HBL2.out.free 0
  have c1 := HBL2.out.cell (i := 1) rfl
  have f1 := HBL2.out.free 1
  go_wp2
  have T1 := (((Touch.refl [SZ] w2).setCell (p := ⟨SZ, 0, none⟩) (by simp) (.int .i64 x0)).setCell (p := ⟨SZ, 1, none⟩) (by simp) (.int .i64 x1))
  have T2 := ((HT2.out.setNew (p := ⟨SZ, 0, none⟩) (by simp; omega) (.int .i64 x0)).setNew (p := ⟨SZ, 1, none⟩) (by simp; omega) (.int .i64 x1))
  have HBF := ((HBL2.out.set 0 (.int .i64 x0)).set 1 (.int .i64 x1))
  obtain ⟨W, hW⟩ : ∃ W, ((w2.setCell ⟨SZ, 0, none⟩ (.int .i64 x0)).setCell ⟨SZ, 1, none⟩ (.int .i64 x1)) = W := ⟨_, rfl⟩
  rw [hW] at T1 T2 HBF ⊢
  have HBFh := Lib.hid HBF
  have HT1 := Lib.hid T1
  have HT2 := Lib.hid T2
  have z0 := HBF.cell (i := 0) rfl
  have z1 := HBF.cell (i := 1) rfl
  clear T1 T2 HBF hW c0 f0 c1 f1
  (try simp only [Exit.inBlock, Exit.then]); refine bodyPost_ret (by simp [results, Try.results41, go_sem, z0, z1]; try rfl) rfl ?_
  exact ⟨by rw [HY0.out, HY1.out], HR2.out.grown (S := [SZ]) HT1.out (by simp; omega), HT2.out⟩
def spawnP (D : List Nat) (cl b : Nat) (st : Option Nat) (w : World) (e : Ending) (w' : World) : Prop :=
  e = .returned (.agg #[.int .i64 (nvA D st 0), .int .i64 (nvA D st 1)]) ∧ Rd D cl w' b (go_ D 16 st) ∧ Touch [b] w w'
set_option maxHeartbeats 8000000 in
theorem spawn_any (D : List Nat) (cl b : Nat) (st : Option Nat) (w : World) (h : Rd D cl w b st) (hD : D.length ≤ 9223372036854775807) (hDb : ∀ x ∈ D, x < 256) :
    Calls Try.prog 47 #[.pointer (some ⟨b, 0, none⟩)] w (spawnP D cl b st w) := by
  have HD := Lib.hid hD
  have HDB := Lib.hid hDb
  obtain ⟨x0, hx0⟩ : ∃ x, nv D st = x := ⟨_, rfl⟩
  have hy0 : nvA D st 0 = x0 := by rw [nvA_zero h, hx0]
  have HX0 := Lib.hid hx0
  have HY0 := Lib.hid hy0
  obtain ⟨x1, hx1⟩ : ∃ x, nv D (go_ D 8 st) = x := ⟨_, rfl⟩
  have hy1 : nvA D st 1 = x1 := by rw [← hx1]; rfl
  have HX1 := Lib.hid hx1
  have HY1 := Lib.hid hy1
  have HR0 : Hid (Rd D cl (w.alloc (.cells #[.int .i64 0, .int .i64 0] 62)) b st) := Lib.hid (h.touch ((Touch.refl [] w).alloc _))
  have hbw : b < w.heap.size := h.lt
  have HT0 : Hid (Touch [b] w (w.alloc (.cells #[.int .i64 0, .int .i64 0] 62))) := Lib.hid ((Touch.refl [b] w).alloc _)
  clear hx0 hy0 hx1 hy1 h
  go_enter Try.func47, Try.ntmps47
  go_wp2_with fail
  refine (num_any D cl b st _ HR0.out HD.out HDB.out).mono ?_
  rintro e w1 ⟨rfl, hR, ht⟩
  rw [HX0.out]
  have HR1 := Lib.hid hR
  have HT1 := Lib.hid (HT0.out.trans ht)
  clear hR
  have hbl : Blk w1 w.heap.size #[.int .i64 0, .int .i64 0] 62 := (Blk.new rfl : Blk (w.alloc (.cells #[.int .i64 0, .int .i64 0] 62)) w.heap.size #[.int .i64 0, .int .i64 0] 62).touch ht (by simp; omega)
  have HBL1 := Lib.hid hbl
  clear hbl ht
  go_wp2_with fail
  refine (num_any D cl b (go_ D 8 st) _ HR1.out HD.out HDB.out).mono ?_
  rintro e w2 ⟨rfl, hR, ht⟩
  rw [HX1.out]
  have HR2 := Lib.hid hR
  have HT2 := Lib.hid (HT1.out.trans ht)
  clear hR
  have hbl := HBL1.out.touch ht (by simp; omega)
  have HBL2 := Lib.hid hbl
  clear hbl ht
  rw [go_go] at HR2
  obtain ⟨SZ, hSZ⟩ : ∃ s, w.heap.size = s := ⟨_, rfl⟩
  rw [hSZ] at HBL2 hbw
  have c0 := HBL2.out.cell (i := 0) rfl
  have f0 := HBL2.out.free 0
  have c1 := HBL2.out.cell (i := 1) rfl
  have f1 := HBL2.out.free 1
  go_wp2
  have T1 := (((Touch.refl [SZ] w2).setCell (p := ⟨SZ, 0, none⟩) (by simp) (.int .i64 x0)).setCell (p := ⟨SZ, 1, none⟩) (by simp) (.int .i64 x1))
  have T2 := ((HT2.out.setNew (p := ⟨SZ, 0, none⟩) (by simp; omega) (.int .i64 x0)).setNew (p := ⟨SZ, 1, none⟩) (by simp; omega) (.int .i64 x1))
  have HBF := ((HBL2.out.set 0 (.int .i64 x0)).set 1 (.int .i64 x1))
  obtain ⟨W, hW⟩ : ∃ W, ((w2.setCell ⟨SZ, 0, none⟩ (.int .i64 x0)).setCell ⟨SZ, 1, none⟩ (.int .i64 x1)) = W := ⟨_, rfl⟩
  rw [hW] at T1 T2 HBF ⊢
  have HBFh := Lib.hid HBF
  have HT1 := Lib.hid T1
  have HT2 := Lib.hid T2
  have z0 := HBF.cell (i := 0) rfl
  have z1 := HBF.cell (i := 1) rfl
  clear T1 T2 HBF hW c0 f0 c1 f1
  (try simp only [Exit.inBlock, Exit.then]); refine bodyPost_ret (by simp [results, Try.results47, go_sem, z0, z1]; try rfl) rfl ?_
  exact ⟨by rw [HY0.out, HY1.out], HR2.out.grown (S := [SZ]) HT1.out (by simp; omega), HT2.out⟩
theorem nvA_add (D : List Nat) (st : Option Nat) (m j : Nat) : nvA D (go_ D (8 * m) st) j = nvA D st (m + j) := by
  unfold nvA; rw [go_go, Nat.mul_add]
theorem un_some {D : List Nat} {n : Nat} {st : Option Nat} (h : 0 < un_ D n st) : ∃ q, go_ D n st = some q := by
  cases st with
  | none => exact absurd h (Nat.lt_irrefl 0)
  | some o =>
    by_cases ho : o + n ≤ D.length
    · exact ⟨o + n, if_pos ho⟩
    · have : un_ D n (some o) = 0 := if_neg ho
      omega
def RLP (T : TypeId) (k most : Nat) (D : List Nat) (cl b : Nat) (st : Option Nat) (w : World) (e : Ending) (w' : World) : Prop :=
  ∃ v l, e = .returned v ∧ Ar w' w.heap.size T k v l (fun i j => nvA D (go_ D 2 st) (i * k + j)) ∧ l ≤ most ∧ Rd D cl w' b (rl_ D k most st) ∧ Touch [b] w w' ∧ ∀ o, rl_ D k most st = some o → l = un_ D 2 st
theorem info_instr : ∃ (i : TypeInfo) (z : Value), Try.prog.info? 44 = some i ∧ i.zero = some z ∧ i.size = 3 ∧ z.cells.size = 3 ∧ i.bytes = 24 := by
  obtain ⟨i, hi⟩ := Option.isSome_iff_exists.mp (show (Try.prog.info? 44).isSome = true from by kernel_rfl)
  have h2 : (Try.prog.info? 44).map (fun i => (i.zero.isSome, i.size, i.bytes, (i.zero.map fun z => z.cells.size))) = some (true, 3, 24, some 3) := by kernel_rfl
  rw [hi] at h2
  simp at h2
  obtain ⟨h3, h4, h5, h6⟩ := h2
  obtain ⟨z, hz, hz2⟩ := h6
  exact ⟨i, z, hi, hz, h4, hz2, h5⟩
theorem app_instr (w : World) (base n : Nat) (v : Value) (ps : Nat → Nat → Int) (f : Nat → Int) (h : Ar w base 44 3 v n ps) (hb : base ≤ w.heap.size) (hn : n ≤ 100000) :
    ∃ v' w', (∀ ty, (Builtin.append_ #[22, 22] ty #[v, .slice (some ⟨w.heap.size, 0, none⟩) 1 1]).run Try.prog (w.alloc (.cells #[.int .i64 (f 0), .int .i64 (f 1), .int .i64 (f 2)] 44)) = .ok v' w') ∧ Ar w' base 44 3 v' (n + 1) (addP ps n f) ∧ Touch v.ownBlock.toList w w' := by
  obtain ⟨i, z, hi, hz, h5, hz5, h64⟩ := info_instr
  have bp : Blk (w.alloc (.cells #[.int .i64 (f 0), .int .i64 (f 1), .int .i64 (f 2)] 44)) w.heap.size #[.int .i64 (f 0), .int .i64 (f 1), .int .i64 (f 2)] 44 := Blk.new rfl
  have ta : Touch [] w (w.alloc (.cells #[.int .i64 (f 0), .int .i64 (f 1), .int .i64 (f 2)] 44)) := (Touch.refl _ _).alloc _
  have hsz := ta.size
  obtain ⟨v', w2, r1, A2, g2, o2⟩ := Ar.append (t := 22) Try.underlying22 hi hz h5 h64 hz5 (h.touch ta (fun _ _ => by simp)) (by omega) ⟨w.heap.size, 0, none⟩ 1 f (fun j hj => by
    rw [Addr.add_lit, Nat.zero_add]
    rcases (by omega : j = 0 ∨ j = 1 ∨ j = 2) with rfl | rfl | rfl <;> exact bp.cell rfl) (by omega) (by omega)
  exact ⟨v', w2, r1, A2, ((Touch.refl v.ownBlock.toList w).alloc _).grown g2 (fun k hk _ => by simp [hk])⟩
set_option maxHeartbeats 16000000 in
theorem rlist_instr (D : List Nat) (cl b most : Nat) (st : Option Nat) (w : World) (h : Rd D cl w b st) (hm : most ≤ 10000) (hD : D.length ≤ 9223372036854775807) (hDb : ∀ x ∈ D, x < 256) :
    Calls Try.prog 36 #[.pointer (some ⟨b, 0, none⟩), .int .i64 (most : Int), .func (.func 37) #[] #[]] w (RLP 44 3 most D cl b st w) := by
  have HD := Lib.hid hD
  have HDB := Lib.hid hDb
  have hbw : b < w.heap.size := h.lt
  have HU := Lib.hid (un_any D cl b 2 st w h (by omega) hD hDb)
  have hul := un_lt D 2 st (by omega) hDb
  obtain ⟨u, hu⟩ : ∃ u, un_ D 2 st = u := ⟨_, rfl⟩
  rw [hu] at hul
  have HUU := Lib.hid hu
  obtain ⟨s2, hs2⟩ : ∃ s, go_ D 2 st = s := ⟨_, rfl⟩
  have HS2 := Lib.hid hs2
  have HPS : Hid ((fun i j => nvA D (go_ D 2 st) (i * 3 + j)) = fun i j => nvA D s2 (i * 3 + j)) := Lib.hid (by rw [hs2])
  have hw : IntKind.wrap .i64 (u : Int) = (u : Int) := IntWalk.i64_in _ (by omega)
  clear hu h hs2
  go_enter Try.func36, Try.ntmps36
  go_wp2_with fail
  refine HU.out.mono ?_
  rintro e w1 ⟨rfl, hR, ht⟩
  rw [HUU.out]
  rw [HS2.out] at hR
  have hbw1 : b < w1.heap.size := hR.lt
  have hsz1 : w.heap.size ≤ w1.heap.size := ht.size
  have HT1 := Lib.hid ht
  have HR1 := Lib.hid hR
  clear HU ht hR
  by_cases hgt : most < u
  · have HRL : Hid (rl_ D 3 most st = none) := Lib.hid (by unfold rl_; rw [HUU.out]; exact if_neg (by omega))
    have hRq := HR1.out
    obtain ⟨q, hq⟩ : ∃ q, s2 = some q := by
      have := un_some (D := D) (n := 2) (st := st) (by rw [HUU.out]; omega)
      rw [HS2.out] at this; exact this
    rw [hq] at hRq
    obtain ⟨hq0, v, hbk, hbs, hown⟩ := hRq
    have HBK := Lib.hid hbk
    have HBS := Lib.hid hbs
    have HOW := Lib.hid hown
    have x2 := hbk.cell (i := 2) rfl
    have f2 := hbk.free 2
    have y2 := (hbk.set 2 (.bool true)).cell (i := 2) rfl
    clear hbk hbs hown hq
    go_wp2
    refine wp_loop_rounds 1 ?_
    rw [rounds_succ]
    go_wp2
    go_ret
    have tt : Touch [b] w1 (w1.setCell ⟨b, 2, none⟩ (.bool true)) := (Touch.refl [b] w1).setCell (by simp) _
    refine ⟨_, 0, rfl, Ar.nil _ _ _ _ _, Nat.zero_le _, ?_, HT1.out.trans tt, fun o ho => by rw [HRL.out] at ho; cases ho⟩
    rw [HRL.out]
    exact ⟨v, D.drop q, HBK.out.set 2 (.bool true), HBS.out.touch tt (fun k hk => by have := HOW.out k hk; simp; omega), by rw [List.length_drop]; omega, HOW.out⟩
  · have HRL : Hid (rl_ D 3 most st = go_ D (8 * (3 * u)) s2) := Lib.hid (by unfold rl_; rw [HUU.out, if_pos (by omega), ← HS2.out, go_go])
    go_wp2
    go_loopw [8, 9] (fun lv iv wr => ∃ i : Nat, i ≤ u ∧ iv = .int .i64 (i : Int) ∧ Ar wr w.heap.size 44 3 lv i (fun a j => nvA D s2 (a * 3 + j)) ∧ Rd D cl wr b (go_ D (8 * (3 * i)) s2) ∧ Touch [b] w wr) (fun _ iv _ => u + 1 - (intOf iv).toNat)
    case atStart => exact ⟨0, by omega, rfl, Ar.nil _ _ _ _ _, by rw [show 8 * (3 * 0) = 0 from rfl, go_zero HR1.out]; exact HR1.out, HT1.out⟩
    case round =>
      obtain ⟨i, hi, rfl, hA, hR, ht⟩ := hrel
      clear HR1 HT1 hw
      have HA := Lib.hid hA
      have HR := Lib.hid hR
      have HT := Lib.hid ht
      have hsr : w.heap.size ≤ wr.heap.size := ht.size
      obtain ⟨la, lc, rfl, hlm⟩ := hA.form
      clear hA hR ht hsz1 hbw1
      by_cases hlt : i < u
      · cases hst : go_ D (8 * (3 * i)) s2 with
        | none =>
          have HRL2 : Hid (rl_ D 3 most st = none) := Lib.hid (by rw [HRL.out]; exact go_mono hst (by have := Nat.mul_le_mul_left 3 hi; omega))
          have hR := HR.out
          rw [hst] at hR
          obtain ⟨v, R, hbk, hbs, hrl, hown⟩ := hR
          have x2 := hbk.cell (i := 2) rfl
          have HR3 : Hid (Rd D cl wr b none) := Lib.hid ⟨v, R, hbk, hbs, hrl, hown⟩
          clear hbk hbs hrl hown hst
          go_wp2
          go_ret
          exact ⟨_, i, rfl, by rw [HPS.out]; exact HA.out, by omega, by rw [HRL2.out]; exact HR3.out, HT.out, fun o ho => by rw [HRL2.out] at ho; cases ho⟩
        | some q =>
          have hR := HR.out
          rw [hst] at hR
          obtain ⟨hq0, v, hbk, hbs, hown⟩ := hR
          have x2 := hbk.cell (i := 2) rfl
          have HST := Lib.hid hst
          clear hbk hbs hown hst
          go_wp2_with fail
          refine (instr_any D cl b (go_ D (8 * (3 * i)) s2) _ HR.out HD.out HDB.out).mono ?_
          rintro e w2 ⟨rfl, hR2, ht2⟩
          rw [go_go] at hR2
          have HAo := Lib.hid (HA.out.touch ht2 (fun k hk => by have := (HA.out.own k hk).1; simp; omega))
          have hs2r : w.heap.size ≤ w2.heap.size := Nat.le_trans hsr ht2.size
          obtain ⟨f, hf⟩ : ∃ f : Nat → Int, (fun j => nvA D (go_ D (8 * (3 * i)) s2) j) = f := ⟨_, rfl⟩
          have hf0 : nvA D (go_ D (8 * (3 * i)) s2) 0 = f 0 := by rw [← hf]
          have hf1 : nvA D (go_ D (8 * (3 * i)) s2) 1 = f 1 := by rw [← hf]
          have hf2 : nvA D (go_ D (8 * (3 * i)) s2) 2 = f 2 := by rw [← hf]
          rw [hf0, hf1, hf2]
          obtain ⟨v3, w3, hr3, hA3, ht3⟩ := app_instr w2 w.heap.size i _ _ f HAo.out hs2r (by omega)
          have HA3 : Hid (Ar w3 w.heap.size 44 3 v3 (i + 1) (fun a j => nvA D s2 (a * 3 + j))) := Lib.hid (hA3.congr (fun a ha j hj => by
            by_cases e : a = i
            · subst e; rw [addP_new, ← hf]; show nvA D (go_ D (8 * (3 * a)) s2) j = _; rw [nvA_add, Nat.mul_comm]
            · rw [addP_old _ _ _ e]))
          have HR3 : Hid (Rd D cl w3 b (go_ D (8 * (3 * (i + 1))) s2)) := Lib.hid (by
            have := hR2.grown ht3 (fun k hk => by have := (HA.out.own k (by simpa using hk)).1; omega)
            rw [show 8 * (3 * i) + 24 = 8 * (3 * (i + 1)) from by omega] at this
            exact this)
          have HT3 : Hid (Touch [b] w w3) := Lib.hid ((HT.out.trans ht2).transF ht3 (fun k hk hlt => by have := (HA.out.own k (by simpa using hk)).1; omega))
          clear hR2 ht2 hA3 ht3 hf hf0 hf1 hf2 x2 HAo
          go_wp2_with (at_builtin; refine Lib.wpList_append_run _ rfl _ _ _ _ rfl _ _ rfl rfl _ _ (hr3 _) ?_; clear hr3)
          go_roundw
          case rel => exact ⟨i + 1, by omega, by go_num, HA3.out, HR3.out, HT3.out⟩
          case measure => simp [intOf]; omega
      · obtain rfl : u = i := by omega
        go_wp2
        go_ret
        exact ⟨_, u, rfl, by rw [HPS.out]; exact HA.out, by omega, by rw [HRL.out]; exact HR.out, HT.out, fun o ho => HUU.out.symm⟩
theorem info_entry : ∃ (i : TypeInfo) (z : Value), Try.prog.info? 46 = some i ∧ i.zero = some z ∧ i.size = 3 ∧ z.cells.size = 3 ∧ i.bytes = 24 := by
  obtain ⟨i, hi⟩ := Option.isSome_iff_exists.mp (show (Try.prog.info? 46).isSome = true from by kernel_rfl)
  have h2 : (Try.prog.info? 46).map (fun i => (i.zero.isSome, i.size, i.bytes, (i.zero.map fun z => z.cells.size))) = some (true, 3, 24, some 3) := by kernel_rfl
  rw [hi] at h2
  simp at h2
  obtain ⟨h3, h4, h5, h6⟩ := h2
  obtain ⟨z, hz, hz2⟩ := h6
  exact ⟨i, z, hi, hz, h4, hz2, h5⟩
theorem app_entry (w : World) (base n : Nat) (v : Value) (ps : Nat → Nat → Int) (f : Nat → Int) (h : Ar w base 46 3 v n ps) (hb : base ≤ w.heap.size) (hn : n ≤ 100000) :
    ∃ v' w', (∀ ty, (Builtin.append_ #[23, 23] ty #[v, .slice (some ⟨w.heap.size, 0, none⟩) 1 1]).run Try.prog (w.alloc (.cells #[.int .i64 (f 0), .int .i64 (f 1), .int .i64 (f 2)] 46)) = .ok v' w') ∧ Ar w' base 46 3 v' (n + 1) (addP ps n f) ∧ Touch v.ownBlock.toList w w' := by
  obtain ⟨i, z, hi, hz, h5, hz5, h64⟩ := info_entry
  have bp : Blk (w.alloc (.cells #[.int .i64 (f 0), .int .i64 (f 1), .int .i64 (f 2)] 46)) w.heap.size #[.int .i64 (f 0), .int .i64 (f 1), .int .i64 (f 2)] 46 := Blk.new rfl
  have ta : Touch [] w (w.alloc (.cells #[.int .i64 (f 0), .int .i64 (f 1), .int .i64 (f 2)] 46)) := (Touch.refl _ _).alloc _
  have hsz := ta.size
  obtain ⟨v', w2, r1, A2, g2, o2⟩ := Ar.append (t := 23) Try.underlying23 hi hz h5 h64 hz5 (h.touch ta (fun _ _ => by simp)) (by omega) ⟨w.heap.size, 0, none⟩ 1 f (fun j hj => by
    rw [Addr.add_lit, Nat.zero_add]
    rcases (by omega : j = 0 ∨ j = 1 ∨ j = 2) with rfl | rfl | rfl <;> exact bp.cell rfl) (by omega) (by omega)
  exact ⟨v', w2, r1, A2, ((Touch.refl v.ownBlock.toList w).alloc _).grown g2 (fun k hk _ => by simp [hk])⟩
set_option maxHeartbeats 16000000 in
theorem rlist_entry (D : List Nat) (cl b most : Nat) (st : Option Nat) (w : World) (h : Rd D cl w b st) (hm : most ≤ 10000) (hD : D.length ≤ 9223372036854775807) (hDb : ∀ x ∈ D, x < 256) :
    Calls Try.prog 38 #[.pointer (some ⟨b, 0, none⟩), .int .i64 (most : Int), .func (.func 39) #[] #[]] w (RLP 46 3 most D cl b st w) := by
  have HD := Lib.hid hD
  have HDB := Lib.hid hDb
  have hbw : b < w.heap.size := h.lt
  have HU := Lib.hid (un_any D cl b 2 st w h (by omega) hD hDb)
  have hul := un_lt D 2 st (by omega) hDb
  obtain ⟨u, hu⟩ : ∃ u, un_ D 2 st = u := ⟨_, rfl⟩
  rw [hu] at hul
  have HUU := Lib.hid hu
  obtain ⟨s2, hs2⟩ : ∃ s, go_ D 2 st = s := ⟨_, rfl⟩
  have HS2 := Lib.hid hs2
  have HPS : Hid ((fun i j => nvA D (go_ D 2 st) (i * 3 + j)) = fun i j => nvA D s2 (i * 3 + j)) := Lib.hid (by rw [hs2])
  have hw : IntKind.wrap .i64 (u : Int) = (u : Int) := IntWalk.i64_in _ (by omega)
  clear hu h hs2
  go_enter Try.func38, Try.ntmps38
  go_wp2_with fail
  refine HU.out.mono ?_
  rintro e w1 ⟨rfl, hR, ht⟩
  rw [HUU.out]
  rw [HS2.out] at hR
  have hbw1 : b < w1.heap.size := hR.lt
  have hsz1 : w.heap.size ≤ w1.heap.size := ht.size
  have HT1 := Lib.hid ht
  have HR1 := Lib.hid hR
  clear HU ht hR
  by_cases hgt : most < u
  · have HRL : Hid (rl_ D 3 most st = none) := Lib.hid (by unfold rl_; rw [HUU.out]; exact if_neg (by omega))
    have hRq := HR1.out
    obtain ⟨q, hq⟩ : ∃ q, s2 = some q := by
      have := un_some (D := D) (n := 2) (st := st) (by rw [HUU.out]; omega)
      rw [HS2.out] at this; exact this
    rw [hq] at hRq
    obtain ⟨hq0, v, hbk, hbs, hown⟩ := hRq
    have HBK := Lib.hid hbk
    have HBS := Lib.hid hbs
    have HOW := Lib.hid hown
    have x2 := hbk.cell (i := 2) rfl
    have f2 := hbk.free 2
    have y2 := (hbk.set 2 (.bool true)).cell (i := 2) rfl
    clear hbk hbs hown hq
    go_wp2
    refine wp_loop_rounds 1 ?_
    rw [rounds_succ]
    go_wp2
    go_ret
    have tt : Touch [b] w1 (w1.setCell ⟨b, 2, none⟩ (.bool true)) := (Touch.refl [b] w1).setCell (by simp) _
    refine ⟨_, 0, rfl, Ar.nil _ _ _ _ _, Nat.zero_le _, ?_, HT1.out.trans tt, fun o ho => by rw [HRL.out] at ho; cases ho⟩
    rw [HRL.out]
    exact ⟨v, D.drop q, HBK.out.set 2 (.bool true), HBS.out.touch tt (fun k hk => by have := HOW.out k hk; simp; omega), by rw [List.length_drop]; omega, HOW.out⟩
  · have HRL : Hid (rl_ D 3 most st = go_ D (8 * (3 * u)) s2) := Lib.hid (by unfold rl_; rw [HUU.out, if_pos (by omega), ← HS2.out, go_go])
    go_wp2
    go_loopw [8, 9] (fun lv iv wr => ∃ i : Nat, i ≤ u ∧ iv = .int .i64 (i : Int) ∧ Ar wr w.heap.size 46 3 lv i (fun a j => nvA D s2 (a * 3 + j)) ∧ Rd D cl wr b (go_ D (8 * (3 * i)) s2) ∧ Touch [b] w wr) (fun _ iv _ => u + 1 - (intOf iv).toNat)
    case atStart => exact ⟨0, by omega, rfl, Ar.nil _ _ _ _ _, by rw [show 8 * (3 * 0) = 0 from rfl, go_zero HR1.out]; exact HR1.out, HT1.out⟩
    case round =>
      obtain ⟨i, hi, rfl, hA, hR, ht⟩ := hrel
      clear HR1 HT1 hw
      have HA := Lib.hid hA
      have HR := Lib.hid hR
      have HT := Lib.hid ht
      have hsr : w.heap.size ≤ wr.heap.size := ht.size
      obtain ⟨la, lc, rfl, hlm⟩ := hA.form
      clear hA hR ht hsz1 hbw1
      by_cases hlt : i < u
      · cases hst : go_ D (8 * (3 * i)) s2 with
        | none =>
          have HRL2 : Hid (rl_ D 3 most st = none) := Lib.hid (by rw [HRL.out]; exact go_mono hst (by have := Nat.mul_le_mul_left 3 hi; omega))
          have hR := HR.out
          rw [hst] at hR
          obtain ⟨v, R, hbk, hbs, hrl, hown⟩ := hR
          have x2 := hbk.cell (i := 2) rfl
          have HR3 : Hid (Rd D cl wr b none) := Lib.hid ⟨v, R, hbk, hbs, hrl, hown⟩
          clear hbk hbs hrl hown hst
          go_wp2
          go_ret
          exact ⟨_, i, rfl, by rw [HPS.out]; exact HA.out, by omega, by rw [HRL2.out]; exact HR3.out, HT.out, fun o ho => by rw [HRL2.out] at ho; cases ho⟩
        | some q =>
          have hR := HR.out
          rw [hst] at hR
          obtain ⟨hq0, v, hbk, hbs, hown⟩ := hR
          have x2 := hbk.cell (i := 2) rfl
          have HST := Lib.hid hst
          clear hbk hbs hown hst
          go_wp2_with fail
          refine (entry_any D cl b (go_ D (8 * (3 * i)) s2) _ HR.out HD.out HDB.out).mono ?_
          rintro e w2 ⟨rfl, hR2, ht2⟩
          rw [go_go] at hR2
          have HAo := Lib.hid (HA.out.touch ht2 (fun k hk => by have := (HA.out.own k hk).1; simp; omega))
          have hs2r : w.heap.size ≤ w2.heap.size := Nat.le_trans hsr ht2.size
          obtain ⟨f, hf⟩ : ∃ f : Nat → Int, (fun j => nvA D (go_ D (8 * (3 * i)) s2) j) = f := ⟨_, rfl⟩
          have hf0 : nvA D (go_ D (8 * (3 * i)) s2) 0 = f 0 := by rw [← hf]
          have hf1 : nvA D (go_ D (8 * (3 * i)) s2) 1 = f 1 := by rw [← hf]
          have hf2 : nvA D (go_ D (8 * (3 * i)) s2) 2 = f 2 := by rw [← hf]
          rw [hf0, hf1, hf2]
          obtain ⟨v3, w3, hr3, hA3, ht3⟩ := app_entry w2 w.heap.size i _ _ f HAo.out hs2r (by omega)
          have HA3 : Hid (Ar w3 w.heap.size 46 3 v3 (i + 1) (fun a j => nvA D s2 (a * 3 + j))) := Lib.hid (hA3.congr (fun a ha j hj => by
            by_cases e : a = i
            · subst e; rw [addP_new, ← hf]; show nvA D (go_ D (8 * (3 * a)) s2) j = _; rw [nvA_add, Nat.mul_comm]
            · rw [addP_old _ _ _ e]))
          have HR3 : Hid (Rd D cl w3 b (go_ D (8 * (3 * (i + 1))) s2)) := Lib.hid (by
            have := hR2.grown ht3 (fun k hk => by have := (HA.out.own k (by simpa using hk)).1; omega)
            rw [show 8 * (3 * i) + 24 = 8 * (3 * (i + 1)) from by omega] at this
            exact this)
          have HT3 : Hid (Touch [b] w w3) := Lib.hid ((HT.out.trans ht2).transF ht3 (fun k hk hlt => by have := (HA.out.own k (by simpa using hk)).1; omega))
          clear hR2 ht2 hA3 ht3 hf hf0 hf1 hf2 x2 HAo
          go_wp2_with (at_builtin; refine Lib.wpList_append_run _ rfl _ _ _ _ rfl _ _ rfl rfl _ _ (hr3 _) ?_; clear hr3)
          go_roundw
          case rel => exact ⟨i + 1, by omega, by go_num, HA3.out, HR3.out, HT3.out⟩
          case measure => simp [intOf]; omega
      · obtain rfl : u = i := by omega
        go_wp2
        go_ret
        exact ⟨_, u, rfl, by rw [HPS.out]; exact HA.out, by omega, by rw [HRL.out]; exact HR.out, HT.out, fun o ho => HUU.out.symm⟩
theorem info_cell : ∃ (i : TypeInfo) (z : Value), Try.prog.info? 53 = some i ∧ i.zero = some z ∧ i.size = 2 ∧ z.cells.size = 2 ∧ i.bytes = 16 := by
  obtain ⟨i, hi⟩ := Option.isSome_iff_exists.mp (show (Try.prog.info? 53).isSome = true from by kernel_rfl)
  have h2 : (Try.prog.info? 53).map (fun i => (i.zero.isSome, i.size, i.bytes, (i.zero.map fun z => z.cells.size))) = some (true, 2, 16, some 2) := by kernel_rfl
  rw [hi] at h2
  simp at h2
  obtain ⟨h3, h4, h5, h6⟩ := h2
  obtain ⟨z, hz, hz2⟩ := h6
  exact ⟨i, z, hi, hz, h4, hz2, h5⟩
theorem app_cell (w : World) (base n : Nat) (v : Value) (ps : Nat → Nat → Int) (f : Nat → Int) (h : Ar w base 53 2 v n ps) (hb : base ≤ w.heap.size) (hn : n ≤ 100000) :
    ∃ v' w', (∀ ty, (Builtin.append_ #[24, 24] ty #[v, .slice (some ⟨w.heap.size, 0, none⟩) 1 1]).run Try.prog (w.alloc (.cells #[.int .i64 (f 0), .int .i64 (f 1)] 53)) = .ok v' w') ∧ Ar w' base 53 2 v' (n + 1) (addP ps n f) ∧ Touch v.ownBlock.toList w w' := by
  obtain ⟨i, z, hi, hz, h5, hz5, h64⟩ := info_cell
  have bp : Blk (w.alloc (.cells #[.int .i64 (f 0), .int .i64 (f 1)] 53)) w.heap.size #[.int .i64 (f 0), .int .i64 (f 1)] 53 := Blk.new rfl
  have ta : Touch [] w (w.alloc (.cells #[.int .i64 (f 0), .int .i64 (f 1)] 53)) := (Touch.refl _ _).alloc _
  have hsz := ta.size
  obtain ⟨v', w2, r1, A2, g2, o2⟩ := Ar.append (t := 24) Try.underlying24 hi hz h5 h64 hz5 (h.touch ta (fun _ _ => by simp)) (by omega) ⟨w.heap.size, 0, none⟩ 1 f (fun j hj => by
    rw [Addr.add_lit, Nat.zero_add]
    rcases (by omega : j = 0 ∨ j = 1) with rfl | rfl <;> exact bp.cell rfl) (by omega) (by omega)
  exact ⟨v', w2, r1, A2, ((Touch.refl v.ownBlock.toList w).alloc _).grown g2 (fun k hk _ => by simp [hk])⟩
set_option maxHeartbeats 16000000 in
theorem rlist_cell (D : List Nat) (cl b most : Nat) (st : Option Nat) (w : World) (h : Rd D cl w b st) (hm : most ≤ 10000) (hD : D.length ≤ 9223372036854775807) (hDb : ∀ x ∈ D, x < 256) :
    Calls Try.prog 40 #[.pointer (some ⟨b, 0, none⟩), .int .i64 (most : Int), .func (.func 41) #[] #[]] w (RLP 53 2 most D cl b st w) := by
  have HD := Lib.hid hD
  have HDB := Lib.hid hDb
  have hbw : b < w.heap.size := h.lt
  have HU := Lib.hid (un_any D cl b 2 st w h (by omega) hD hDb)
  have hul := un_lt D 2 st (by omega) hDb
  obtain ⟨u, hu⟩ : ∃ u, un_ D 2 st = u := ⟨_, rfl⟩
  rw [hu] at hul
  have HUU := Lib.hid hu
  obtain ⟨s2, hs2⟩ : ∃ s, go_ D 2 st = s := ⟨_, rfl⟩
  have HS2 := Lib.hid hs2
  have HPS : Hid ((fun i j => nvA D (go_ D 2 st) (i * 2 + j)) = fun i j => nvA D s2 (i * 2 + j)) := Lib.hid (by rw [hs2])
  have hw : IntKind.wrap .i64 (u : Int) = (u : Int) := IntWalk.i64_in _ (by omega)
  clear hu h hs2
  go_enter Try.func40, Try.ntmps40
  go_wp2_with fail
  refine HU.out.mono ?_
  rintro e w1 ⟨rfl, hR, ht⟩
  rw [HUU.out]
  rw [HS2.out] at hR
  have hbw1 : b < w1.heap.size := hR.lt
  have hsz1 : w.heap.size ≤ w1.heap.size := ht.size
  have HT1 := Lib.hid ht
  have HR1 := Lib.hid hR
  clear HU ht hR
  by_cases hgt : most < u
  · have HRL : Hid (rl_ D 2 most st = none) := Lib.hid (by unfold rl_; rw [HUU.out]; exact if_neg (by omega))
    have hRq := HR1.out
    obtain ⟨q, hq⟩ : ∃ q, s2 = some q := by
      have := un_some (D := D) (n := 2) (st := st) (by rw [HUU.out]; omega)
      rw [HS2.out] at this; exact this
    rw [hq] at hRq
    obtain ⟨hq0, v, hbk, hbs, hown⟩ := hRq
    have HBK := Lib.hid hbk
    have HBS := Lib.hid hbs
    have HOW := Lib.hid hown
    have x2 := hbk.cell (i := 2) rfl
    have f2 := hbk.free 2
    have y2 := (hbk.set 2 (.bool true)).cell (i := 2) rfl
    clear hbk hbs hown hq
    go_wp2
    refine wp_loop_rounds 1 ?_
    rw [rounds_succ]
    go_wp2
    go_ret
    have tt : Touch [b] w1 (w1.setCell ⟨b, 2, none⟩ (.bool true)) := (Touch.refl [b] w1).setCell (by simp) _
    refine ⟨_, 0, rfl, Ar.nil _ _ _ _ _, Nat.zero_le _, ?_, HT1.out.trans tt, fun o ho => by rw [HRL.out] at ho; cases ho⟩
    rw [HRL.out]
    exact ⟨v, D.drop q, HBK.out.set 2 (.bool true), HBS.out.touch tt (fun k hk => by have := HOW.out k hk; simp; omega), by rw [List.length_drop]; omega, HOW.out⟩
  · have HRL : Hid (rl_ D 2 most st = go_ D (8 * (2 * u)) s2) := Lib.hid (by unfold rl_; rw [HUU.out, if_pos (by omega), ← HS2.out, go_go])
    go_wp2
    go_loopw [8, 9] (fun lv iv wr => ∃ i : Nat, i ≤ u ∧ iv = .int .i64 (i : Int) ∧ Ar wr w.heap.size 53 2 lv i (fun a j => nvA D s2 (a * 2 + j)) ∧ Rd D cl wr b (go_ D (8 * (2 * i)) s2) ∧ Touch [b] w wr) (fun _ iv _ => u + 1 - (intOf iv).toNat)
    case atStart => exact ⟨0, by omega, rfl, Ar.nil _ _ _ _ _, by rw [show 8 * (2 * 0) = 0 from rfl, go_zero HR1.out]; exact HR1.out, HT1.out⟩
    case round =>
      obtain ⟨i, hi, rfl, hA, hR, ht⟩ := hrel
      clear HR1 HT1 hw
      have HA := Lib.hid hA
      have HR := Lib.hid hR
      have HT := Lib.hid ht
      have hsr : w.heap.size ≤ wr.heap.size := ht.size
      obtain ⟨la, lc, rfl, hlm⟩ := hA.form
      clear hA hR ht hsz1 hbw1
      by_cases hlt : i < u
      · cases hst : go_ D (8 * (2 * i)) s2 with
        | none =>
          have HRL2 : Hid (rl_ D 2 most st = none) := Lib.hid (by rw [HRL.out]; exact go_mono hst (by have := Nat.mul_le_mul_left 2 hi; omega))
          have hR := HR.out
          rw [hst] at hR
          obtain ⟨v, R, hbk, hbs, hrl, hown⟩ := hR
          have x2 := hbk.cell (i := 2) rfl
          have HR3 : Hid (Rd D cl wr b none) := Lib.hid ⟨v, R, hbk, hbs, hrl, hown⟩
          clear hbk hbs hrl hown hst
          go_wp2
          go_ret
          exact ⟨_, i, rfl, by rw [HPS.out]; exact HA.out, by omega, by rw [HRL2.out]; exact HR3.out, HT.out, fun o ho => by rw [HRL2.out] at ho; cases ho⟩
        | some q =>
          have hR := HR.out
          rw [hst] at hR
          obtain ⟨hq0, v, hbk, hbs, hown⟩ := hR
          have x2 := hbk.cell (i := 2) rfl
          have HST := Lib.hid hst
          clear hbk hbs hown hst
          go_wp2_with fail
          refine (cell_any D cl b (go_ D (8 * (2 * i)) s2) _ HR.out HD.out HDB.out).mono ?_
          rintro e w2 ⟨rfl, hR2, ht2⟩
          rw [go_go] at hR2
          have HAo := Lib.hid (HA.out.touch ht2 (fun k hk => by have := (HA.out.own k hk).1; simp; omega))
          have hs2r : w.heap.size ≤ w2.heap.size := Nat.le_trans hsr ht2.size
          obtain ⟨f, hf⟩ : ∃ f : Nat → Int, (fun j => nvA D (go_ D (8 * (2 * i)) s2) j) = f := ⟨_, rfl⟩
          have hf0 : nvA D (go_ D (8 * (2 * i)) s2) 0 = f 0 := by rw [← hf]
          have hf1 : nvA D (go_ D (8 * (2 * i)) s2) 1 = f 1 := by rw [← hf]
          rw [hf0, hf1]
          obtain ⟨v3, w3, hr3, hA3, ht3⟩ := app_cell w2 w.heap.size i _ _ f HAo.out hs2r (by omega)
          have HA3 : Hid (Ar w3 w.heap.size 53 2 v3 (i + 1) (fun a j => nvA D s2 (a * 2 + j))) := Lib.hid (hA3.congr (fun a ha j hj => by
            by_cases e : a = i
            · subst e; rw [addP_new, ← hf]; show nvA D (go_ D (8 * (2 * a)) s2) j = _; rw [nvA_add, Nat.mul_comm]
            · rw [addP_old _ _ _ e]))
          have HR3 : Hid (Rd D cl w3 b (go_ D (8 * (2 * (i + 1))) s2)) := Lib.hid (by
            have := hR2.grown ht3 (fun k hk => by have := (HA.out.own k (by simpa using hk)).1; omega)
            rw [show 8 * (2 * i) + 16 = 8 * (2 * (i + 1)) from by omega] at this
            exact this)
          have HT3 : Hid (Touch [b] w w3) := Lib.hid ((HT.out.trans ht2).transF ht3 (fun k hk hlt => by have := (HA.out.own k (by simpa using hk)).1; omega))
          clear hR2 ht2 hA3 ht3 hf hf0 hf1 x2 HAo
          go_wp2_with (at_builtin; refine Lib.wpList_append_run _ rfl _ _ _ _ rfl _ _ rfl rfl _ _ (hr3 _) ?_; clear hr3)
          go_roundw
          case rel => exact ⟨i + 1, by omega, by go_num, HA3.out, HR3.out, HT3.out⟩
          case measure => simp [intOf]; omega
      · obtain rfl : u = i := by omega
        go_wp2
        go_ret
        exact ⟨_, u, rfl, by rw [HPS.out]; exact HA.out, by omega, by rw [HRL.out]; exact HR.out, HT.out, fun o ho => HUU.out.symm⟩
theorem info_spawn : ∃ (i : TypeInfo) (z : Value), Try.prog.info? 62 = some i ∧ i.zero = some z ∧ i.size = 2 ∧ z.cells.size = 2 ∧ i.bytes = 16 := by
  obtain ⟨i, hi⟩ := Option.isSome_iff_exists.mp (show (Try.prog.info? 62).isSome = true from by kernel_rfl)
  have h2 : (Try.prog.info? 62).map (fun i => (i.zero.isSome, i.size, i.bytes, (i.zero.map fun z => z.cells.size))) = some (true, 2, 16, some 2) := by kernel_rfl
  rw [hi] at h2
  simp at h2
  obtain ⟨h3, h4, h5, h6⟩ := h2
  obtain ⟨z, hz, hz2⟩ := h6
  exact ⟨i, z, hi, hz, h4, hz2, h5⟩
theorem app_spawn (w : World) (base n : Nat) (v : Value) (ps : Nat → Nat → Int) (f : Nat → Int) (h : Ar w base 62 2 v n ps) (hb : base ≤ w.heap.size) (hn : n ≤ 100000) :
    ∃ v' w', (∀ ty, (Builtin.append_ #[27, 27] ty #[v, .slice (some ⟨w.heap.size, 0, none⟩) 1 1]).run Try.prog (w.alloc (.cells #[.int .i64 (f 0), .int .i64 (f 1)] 62)) = .ok v' w') ∧ Ar w' base 62 2 v' (n + 1) (addP ps n f) ∧ Touch v.ownBlock.toList w w' := by
  obtain ⟨i, z, hi, hz, h5, hz5, h64⟩ := info_spawn
  have bp : Blk (w.alloc (.cells #[.int .i64 (f 0), .int .i64 (f 1)] 62)) w.heap.size #[.int .i64 (f 0), .int .i64 (f 1)] 62 := Blk.new rfl
  have ta : Touch [] w (w.alloc (.cells #[.int .i64 (f 0), .int .i64 (f 1)] 62)) := (Touch.refl _ _).alloc _
  have hsz := ta.size
  obtain ⟨v', w2, r1, A2, g2, o2⟩ := Ar.append (t := 27) Try.underlying27 hi hz h5 h64 hz5 (h.touch ta (fun _ _ => by simp)) (by omega) ⟨w.heap.size, 0, none⟩ 1 f (fun j hj => by
    rw [Addr.add_lit, Nat.zero_add]
    rcases (by omega : j = 0 ∨ j = 1) with rfl | rfl <;> exact bp.cell rfl) (by omega) (by omega)
  exact ⟨v', w2, r1, A2, ((Touch.refl v.ownBlock.toList w).alloc _).grown g2 (fun k hk _ => by simp [hk])⟩
set_option maxHeartbeats 16000000 in
theorem rlist_spawn (D : List Nat) (cl b most : Nat) (st : Option Nat) (w : World) (h : Rd D cl w b st) (hm : most ≤ 10000) (hD : D.length ≤ 9223372036854775807) (hDb : ∀ x ∈ D, x < 256) :
    Calls Try.prog 46 #[.pointer (some ⟨b, 0, none⟩), .int .i64 (most : Int), .func (.func 47) #[] #[]] w (RLP 62 2 most D cl b st w) := by
  have HD := Lib.hid hD
  have HDB := Lib.hid hDb
  have hbw : b < w.heap.size := h.lt
  have HU := Lib.hid (un_any D cl b 2 st w h (by omega) hD hDb)
  have hul := un_lt D 2 st (by omega) hDb
  obtain ⟨u, hu⟩ : ∃ u, un_ D 2 st = u := ⟨_, rfl⟩
  rw [hu] at hul
  have HUU := Lib.hid hu
  obtain ⟨s2, hs2⟩ : ∃ s, go_ D 2 st = s := ⟨_, rfl⟩
  have HS2 := Lib.hid hs2
  have HPS : Hid ((fun i j => nvA D (go_ D 2 st) (i * 2 + j)) = fun i j => nvA D s2 (i * 2 + j)) := Lib.hid (by rw [hs2])
  have hw : IntKind.wrap .i64 (u : Int) = (u : Int) := IntWalk.i64_in _ (by omega)
  clear hu h hs2
  go_enter Try.func46, Try.ntmps46
  go_wp2_with fail
  refine HU.out.mono ?_
  rintro e w1 ⟨rfl, hR, ht⟩
  rw [HUU.out]
  rw [HS2.out] at hR
  have hbw1 : b < w1.heap.size := hR.lt
  have hsz1 : w.heap.size ≤ w1.heap.size := ht.size
  have HT1 := Lib.hid ht
  have HR1 := Lib.hid hR
  clear HU ht hR
  by_cases hgt : most < u
  · have HRL : Hid (rl_ D 2 most st = none) := Lib.hid (by unfold rl_; rw [HUU.out]; exact if_neg (by omega))
    have hRq := HR1.out
    obtain ⟨q, hq⟩ : ∃ q, s2 = some q := by
      have := un_some (D := D) (n := 2) (st := st) (by rw [HUU.out]; omega)
      rw [HS2.out] at this; exact this
    rw [hq] at hRq
    obtain ⟨hq0, v, hbk, hbs, hown⟩ := hRq
    have HBK := Lib.hid hbk
    have HBS := Lib.hid hbs
    have HOW := Lib.hid hown
    have x2 := hbk.cell (i := 2) rfl
    have f2 := hbk.free 2
    have y2 := (hbk.set 2 (.bool true)).cell (i := 2) rfl
    clear hbk hbs hown hq
    go_wp2
    refine wp_loop_rounds 1 ?_
    rw [rounds_succ]
    go_wp2
    go_ret
    have tt : Touch [b] w1 (w1.setCell ⟨b, 2, none⟩ (.bool true)) := (Touch.refl [b] w1).setCell (by simp) _
    refine ⟨_, 0, rfl, Ar.nil _ _ _ _ _, Nat.zero_le _, ?_, HT1.out.trans tt, fun o ho => by rw [HRL.out] at ho; cases ho⟩
    rw [HRL.out]
    exact ⟨v, D.drop q, HBK.out.set 2 (.bool true), HBS.out.touch tt (fun k hk => by have := HOW.out k hk; simp; omega), by rw [List.length_drop]; omega, HOW.out⟩
  · have HRL : Hid (rl_ D 2 most st = go_ D (8 * (2 * u)) s2) := Lib.hid (by unfold rl_; rw [HUU.out, if_pos (by omega), ← HS2.out, go_go])
    go_wp2
    go_loopw [8, 9] (fun lv iv wr => ∃ i : Nat, i ≤ u ∧ iv = .int .i64 (i : Int) ∧ Ar wr w.heap.size 62 2 lv i (fun a j => nvA D s2 (a * 2 + j)) ∧ Rd D cl wr b (go_ D (8 * (2 * i)) s2) ∧ Touch [b] w wr) (fun _ iv _ => u + 1 - (intOf iv).toNat)
    case atStart => exact ⟨0, by omega, rfl, Ar.nil _ _ _ _ _, by rw [show 8 * (2 * 0) = 0 from rfl, go_zero HR1.out]; exact HR1.out, HT1.out⟩
    case round =>
      obtain ⟨i, hi, rfl, hA, hR, ht⟩ := hrel
      clear HR1 HT1 hw
      have HA := Lib.hid hA
      have HR := Lib.hid hR
      have HT := Lib.hid ht
      have hsr : w.heap.size ≤ wr.heap.size := ht.size
      obtain ⟨la, lc, rfl, hlm⟩ := hA.form
      clear hA hR ht hsz1 hbw1
      by_cases hlt : i < u
      · cases hst : go_ D (8 * (2 * i)) s2 with
        | none =>
          have HRL2 : Hid (rl_ D 2 most st = none) := Lib.hid (by rw [HRL.out]; exact go_mono hst (by have := Nat.mul_le_mul_left 2 hi; omega))
          have hR := HR.out
          rw [hst] at hR
          obtain ⟨v, R, hbk, hbs, hrl, hown⟩ := hR
          have x2 := hbk.cell (i := 2) rfl
          have HR3 : Hid (Rd D cl wr b none) := Lib.hid ⟨v, R, hbk, hbs, hrl, hown⟩
          clear hbk hbs hrl hown hst
          go_wp2
          go_ret
          exact ⟨_, i, rfl, by rw [HPS.out]; exact HA.out, by omega, by rw [HRL2.out]; exact HR3.out, HT.out, fun o ho => by rw [HRL2.out] at ho; cases ho⟩
        | some q =>
          have hR := HR.out
          rw [hst] at hR
          obtain ⟨hq0, v, hbk, hbs, hown⟩ := hR
          have x2 := hbk.cell (i := 2) rfl
          have HST := Lib.hid hst
          clear hbk hbs hown hst
          go_wp2_with fail
          refine (spawn_any D cl b (go_ D (8 * (2 * i)) s2) _ HR.out HD.out HDB.out).mono ?_
          rintro e w2 ⟨rfl, hR2, ht2⟩
          rw [go_go] at hR2
          have HAo := Lib.hid (HA.out.touch ht2 (fun k hk => by have := (HA.out.own k hk).1; simp; omega))
          have hs2r : w.heap.size ≤ w2.heap.size := Nat.le_trans hsr ht2.size
          obtain ⟨f, hf⟩ : ∃ f : Nat → Int, (fun j => nvA D (go_ D (8 * (2 * i)) s2) j) = f := ⟨_, rfl⟩
          have hf0 : nvA D (go_ D (8 * (2 * i)) s2) 0 = f 0 := by rw [← hf]
          have hf1 : nvA D (go_ D (8 * (2 * i)) s2) 1 = f 1 := by rw [← hf]
          rw [hf0, hf1]
          obtain ⟨v3, w3, hr3, hA3, ht3⟩ := app_spawn w2 w.heap.size i _ _ f HAo.out hs2r (by omega)
          have HA3 : Hid (Ar w3 w.heap.size 62 2 v3 (i + 1) (fun a j => nvA D s2 (a * 2 + j))) := Lib.hid (hA3.congr (fun a ha j hj => by
            by_cases e : a = i
            · subst e; rw [addP_new, ← hf]; show nvA D (go_ D (8 * (2 * a)) s2) j = _; rw [nvA_add, Nat.mul_comm]
            · rw [addP_old _ _ _ e]))
          have HR3 : Hid (Rd D cl w3 b (go_ D (8 * (2 * (i + 1))) s2)) := Lib.hid (by
            have := hR2.grown ht3 (fun k hk => by have := (HA.out.own k (by simpa using hk)).1; omega)
            rw [show 8 * (2 * i) + 16 = 8 * (2 * (i + 1)) from by omega] at this
            exact this)
          have HT3 : Hid (Touch [b] w w3) := Lib.hid ((HT.out.trans ht2).transF ht3 (fun k hk hlt => by have := (HA.out.own k (by simpa using hk)).1; omega))
          clear hR2 ht2 hA3 ht3 hf hf0 hf1 x2 HAo
          go_wp2_with (at_builtin; refine Lib.wpList_append_run _ rfl _ _ _ _ rfl _ _ rfl rfl _ _ (hr3 _) ?_; clear hr3)
          go_roundw
          case rel => exact ⟨i + 1, by omega, by go_num, HA3.out, HR3.out, HT3.out⟩
          case measure => simp [intOf]; omega
      · obtain rfl : u = i := by omega
        go_wp2
        go_ret
        exact ⟨_, u, rfl, by rw [HPS.out]; exact HA.out, by omega, by rw [HRL.out]; exact HR.out, HT.out, fun o ho => HUU.out.symm⟩
end Go.Proofs.Ytoedkomckgidiaa
