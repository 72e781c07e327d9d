/-
  The reference's instr: the instructions 32 33 34 35 36.
-/
import Derived.Test.YtjfnoondkgjabaaGreatDoorYAL
set_option linter.unusedVariables false
set_option linter.unusedSimpArgs false
namespace Go.Proofs.YtjfnoondkgjabaaGreatDoor
open Go Go.RowKit

set_option maxHeartbeats 64000000 in
set_option maxRecDepth 100000 in
theorem rinstr_32 (pv : Value) (P : Pg) (k i : Nat) (op a b : Int) (w : World) (h : PgV w pv P) (ht : TabOk P) (hk : k < P.n2) (hi1 : fromP P k ≤ i) (hi2 : i < toP P k) (e1 : P.op i = op) (e2 : P.a i = a) (e3 : P.b i = b) (eop : op = 32) : Calls Tryz.prog 22 #[pv, .int .i64 (k : Int), .int .i64 (i : Int)] w (IntQ (insC P k i) w) := by
  have hm : MayP P := ht 0 (by omega)
  have hen : EntOk P k := (show ∀ i, i < P.n2 → EntOk P i from ht 1 (by omega)) k hk
  have hrg : betw 0 16 P.rg := ht 3 (by omega)
  have hl0 : 0 ≤ P.z2 k 2 := Int.le_trans hen.p0 hen.l0
  have hl1 := hen.l1
  obtain ⟨hr0, hr1⟩ := hrg
  obtain ⟨hft1, hft2, hft3⟩ := from_lt ht hk
  obtain ⟨hC27, hC28, hC0⟩ := insC_z (P := P) (k := k) (i := i) e1 e2 e3
  have HC27 := Lib.hid hC27
  have HC28 := Lib.hid hC28
  have HC0 := Lib.hid hC0
  have HTO := Lib.hid ht
  obtain ⟨C, hC⟩ : ∃ z, insC P k i = z := ⟨_, rfl⟩
  rw [hC] at HC27 HC28 HC0 ⊢
  clear hC hC27 hC28 hC0
  obtain ⟨a1, a2, a3, a5, a6, a7, a8, c1, c2, c3, c5, c6, c7, c8, rfl, ho⟩ := h.open
  obtain ⟨m1, m2, m3, m4, m5, m6, m7, m8, m9⟩ := id hm
  have HO := Lib.hid ho
  have HEND : Hid (∀ wz, Touch [] w wz → Calls Tryz.prog 21 #[.agg #[.slice a1 P.n1 c1, .slice a2 P.n2 c2, .slice a3 P.n3 c3, .int .i64 P.rg, .slice a5 P.se.length c5, .slice a6 P.tt.length c6, .slice a7 P.ve.length c7, .slice a8 P.n8 c8, .int .i64 P.cl], .int .i64 (k : Int)] wz (IntQ (toP P k : Int) wz)) := Lib.hid (fun wz htz => rend_any _ P k wz (ho.touch htz).val ht hk)
  have hin1 : i < P.n1 := by omega
  obtain ⟨g1, off1, hg1, xo1⟩ := ho.h1.at3 hin1
  obtain ⟨g, off, hg, xo⟩ := ho.h2.at3 hk
  have hb0 : Blk (w.alloc (.cells #[.slice a1 P.n1 c1, .slice a2 P.n2 c2, .slice a3 P.n3 c3, .int .i64 P.rg, .slice a5 P.se.length c5, .slice a6 P.tt.length c6, .slice a7 P.ve.length c7, .slice a8 P.n8 c8, .int .i64 P.cl] 29)) w.heap.size #[.slice a1 P.n1 c1, .slice a2 P.n2 c2, .slice a3 P.n3 c3, .int .i64 P.rg, .slice a5 P.se.length c5, .slice a6 P.tt.length c6, .slice a7 P.ve.length c7, .slice a8 P.n8 c8, .int .i64 P.cl] 29 := Blk.new rfl
  have hb1 := hb0.alloc (.cells #[.int .i64 op, .int .i64 a, .int .i64 b] 42)
  have hn1 : Blk ((w.alloc (.cells #[.slice a1 P.n1 c1, .slice a2 P.n2 c2, .slice a3 P.n3 c3, .int .i64 P.rg, .slice a5 P.se.length c5, .slice a6 P.tt.length c6, .slice a7 P.ve.length c7, .slice a8 P.n8 c8, .int .i64 P.cl] 29)).alloc (.cells #[.int .i64 op, .int .i64 a, .int .i64 b] 42)) (w.heap.size + 1) #[.int .i64 op, .int .i64 a, .int .i64 b] 42 := Blk.new (by simp)
  have ht1 : Touch [] w (w.alloc (.cells #[.slice a1 P.n1 c1, .slice a2 P.n2 c2, .slice a3 P.n3 c3, .int .i64 P.rg, .slice a5 P.se.length c5, .slice a6 P.tt.length c6, .slice a7 P.ve.length c7, .slice a8 P.n8 c8, .int .i64 P.cl] 29)) := (Touch.refl [] w).alloc _
  have ht2 : Touch [] w ((w.alloc (.cells #[.slice a1 P.n1 c1, .slice a2 P.n2 c2, .slice a3 P.n3 c3, .int .i64 P.rg, .slice a5 P.se.length c5, .slice a6 P.tt.length c6, .slice a7 P.ve.length c7, .slice a8 P.n8 c8, .int .i64 P.cl] 29)).alloc (.cells #[.int .i64 op, .int .i64 a, .int .i64 b] 42)) := ((Touch.refl [] w).alloc _).alloc _
  have xi := xo1 _ ht1
  rw [show P.z1 i 0 = op from e1, show P.z1 i 1 = a from e2, show P.z1 i 2 = b from e3] at xi
  obtain ⟨x0, x1, x2⟩ := xi
  obtain ⟨W2, hW2⟩ : ∃ x, ((w.alloc (.cells #[.slice a1 P.n1 c1, .slice a2 P.n2 c2, .slice a3 P.n3 c3, .int .i64 P.rg, .slice a5 P.se.length c5, .slice a6 P.tt.length c6, .slice a7 P.ve.length c7, .slice a8 P.n8 c8, .int .i64 P.cl] 29)).alloc (.cells #[.int .i64 op, .int .i64 a, .int .i64 b] 42)) = x := ⟨_, rfl⟩
  rw [hW2] at hb1 hn1 ht2
  have HW2 := Lib.hid hW2
  have HT2 := Lib.hid ht2
  have HN1 := Lib.hid hn1
  have HB1 := Lib.hid hb1
  have HXO : Hid (∀ w', Touch [] w w' → w'.cell? ⟨g, off + k * 3, none⟩ = some (.int .i64 (fromP P k : Int)) ∧ w'.cell? ⟨g, off + k * 3 + 2, none⟩ = some (.int .i64 (P.z2 k 2))) := Lib.hid (fun w' h => ⟨by rw [hft3]; exact (xo w' h).1, (xo w' h).2.2⟩)
  have b0 := hb0.cell (i := 0) rfl
  have q0 := hn1.cell (i := 0) rfl
  have im0 : (0 : Int) ≤ (k : Int) := by omega
  have im1 : (k : Int) < (P.n2 : Int) := by omega
  have ii0 : (0 : Int) ≤ (i : Int) := by omega
  have ii1 : (i : Int) < (P.n1 : Int) := by omega
  have HGG := Lib.hid hg
  have HGI : Hid ((fromP P k : Int) ≤ (i : Int) ∧ (i : Int) < (toP P k : Int) ∧ (toP P k : Int) ≤ 5000) := Lib.hid ⟨by omega, by omega, by omega⟩
  have HIFF : Hid ((i : Int) + 1 < (toP P k : Int) ↔ i + 1 < toP P k) := Lib.hid (by omega)
  subst hg1
  obtain ⟨fr, hfr⟩ : ∃ z, fromP P k = z := ⟨_, rfl⟩
  obtain ⟨tt, htt⟩ : ∃ z, toP P k = z := ⟨_, rfl⟩
  rw [hfr] at HC28 HC0 HXO HGI
  rw [htt] at HC28 HC0 HGI HEND HIFF
  obtain ⟨hgi1, hgi2, hgi3⟩ := HGI.out
  have HNM : Hid (∀ wz, Calls Tryz.prog 51 #[.int .i64 op] wz (StrP (nmZ op) wz)) := Lib.hid (fun wz => rname_any op wz)
  have HOP : Hid (∀ wz, Calls Tryz.prog 52 #[.int .i64 op] wz fun e w' => e = .returned (.int .i64 (opZ op)) ∧ wz = w') := Lib.hid (fun wz => roperands_any op wz)
  obtain ⟨nm, hnm⟩ : ∃ z, nmZ op = z := ⟨_, rfl⟩
  have HNN := Lib.hid hnm
  rw [hnm] at HNM
  clear h ht hm hen ho hb0 hb1 hn1 ht1 ht2 hW2 xo xo1 hg hft1 hft2 hft3 hfr htt hnm hi1 hi2 e1 e2 e3 hin1
  subst eop
  have el : limN P k 32 = P.rg := by simp [limN]
  have HNV : Hid (opZ 32 = 1) := Lib.hid (by decide)
  have ei : isZ 32 = true := by decide
  have hne : ¬ nm = ByteArray.empty := by rw [← HNN.out]; exact nm_ne ei
  have dn : nm.toList.isEmpty = false := emF7 hne
  have HFZ : Hid (FitZ P k 32 a b ↔ (b = 0 ∧ (0 ≤ a ∧ a ≤ P.rg - 1))) := Lib.hid ⟨fun h => ⟨h.b0 (by rw [HNV.out]; decide), by have := h.lim (by rw [el]; omega); rw [el] at this; omega⟩, fun h => ⟨ei, fun e => h.1, fun e => absurd e (by rw [HNV.out]; decide), fun _ => by rw [el]; exact ⟨h.2.1, by have := h.2.2; omega⟩, fun e => absurd e (by decide)⟩⟩
  clear el ei hne
  go_enter Tryz.func22, Tryz.ntmps22
  go_wp2_with fail
  rw [HW2.out]
  refine (HNM.out _).mono ?_
  rintro e w3 ⟨rfl, ht3⟩
  have hn3 := HN1.out.touch ht3 (by simp)
  have hb3 := HB1.out.touch ht3 (by simp)
  have HT3 := Lib.hid (HT2.out.trans ht3)
  have HN3 := Lib.hid hn3
  have HB3 := Lib.hid hb3
  clear q0 b0 x0 x1 x2 ht3
  have q0 := hn3.cell (i := 0) rfl
  have q1 := hn3.cell (i := 1) rfl
  have q2 := hn3.cell (i := 2) rfl
  have b1 := hb3.cell (i := 1) rfl
  have b2 := hb3.cell (i := 2) rfl
  have b3 := hb3.cell (i := 3) rfl
  have b4 := hb3.cell (i := 4) rfl
  have b6 := hb3.cell (i := 6) rfl
  have b7 := hb3.cell (i := 7) rfl
  clear hn3 hb3
  go_wp2_with fail
  refine (HOP.out _).mono ?_
  rintro e w4 ⟨rfl, rfl⟩
  rw [HNV.out]
  by_cases hb : ¬ b = 0
  · have HE : Hid (C = 27) := Lib.hid (HC27.out (fun q => hb (HFZ.out.1 q).1))
    have db : (b != 0) = true := bneT hb
    clear hb
    go_wp2_with fail
    go_ret
    exact ⟨by (rw [HE.out]) <;> rfl, HT3.out⟩
  have hb : b = 0 := Decidable.not_not.1 hb
  subst hb
  go_wp2_with fail
  refine (HOP.out _).mono ?_
  rintro e w4 ⟨rfl, rfl⟩
  rw [HNV.out]
  have HIN : Hid (∀ wz, Calls Tryz.prog 49 #[.int .i64 a, .int .i64 0, .int .i64 (P.rg - 1)] wz (BoolQ (decide (0 ≤ a ∧ a ≤ P.rg - 1)) wz)) := Lib.hid (fun wz => rin_any _ _ _ wz)
  go_wp2_with fail
  refine (HIN.out _).mono ?_
  rintro e w4 ⟨rfl, rfl⟩
  by_cases hp : ¬ (0 ≤ a ∧ a ≤ P.rg - 1)
  · have HE : Hid (C = 27) := Lib.hid (HC27.out (fun q => hp (HFZ.out.1 q).2))
    rw [decide_eq_false hp]
    clear hp
    go_wp2_with fail
    go_ret
    exact ⟨by (rw [HE.out]) <;> rfl, HT3.out⟩
  have hp := Decidable.not_not.1 hp
  rw [decide_eq_true hp]
  have HF : Hid (FitZ P k 32 a 0) := Lib.hid (HFZ.out.2 ⟨(by first | rfl | trivial), hp⟩)
  clear hp
  have hgg := HGG.out
  subst hgg
  have XF : ∀ q : Later w3, q.world.cell? ⟨g, off + k * 3, none⟩ = some (.int .i64 (fr : Int)) := fun q => (HXO.out _ (HT3.out.trans q.ok)).1
  have B0 : ∀ q : Later w3, q.world.cell? ⟨w.heap.size, 0, none⟩ = some (.slice (some ⟨g1, off1, none⟩) P.n1 c1) := fun q => (HB3.out.touch q.ok (by simp)).cell rfl
  have B1 : ∀ q : Later w3, q.world.cell? ⟨w.heap.size, 1, none⟩ = some (.slice (some ⟨g, off, none⟩) P.n2 c2) := fun q => (HB3.out.touch q.ok (by simp)).cell rfl
  have B2 : ∀ q : Later w3, q.world.cell? ⟨w.heap.size, 2, none⟩ = some (.slice a3 P.n3 c3) := fun q => (HB3.out.touch q.ok (by simp)).cell rfl
  have B3 : ∀ q : Later w3, q.world.cell? ⟨w.heap.size, 3, none⟩ = some (.int .i64 P.rg) := fun q => (HB3.out.touch q.ok (by simp)).cell rfl
  have B4 : ∀ q : Later w3, q.world.cell? ⟨w.heap.size, 4, none⟩ = some (.slice a5 P.se.length c5) := fun q => (HB3.out.touch q.ok (by simp)).cell rfl
  have B5 : ∀ q : Later w3, q.world.cell? ⟨w.heap.size, 5, none⟩ = some (.slice a6 P.tt.length c6) := fun q => (HB3.out.touch q.ok (by simp)).cell rfl
  have B6 : ∀ q : Later w3, q.world.cell? ⟨w.heap.size, 6, none⟩ = some (.slice a7 P.ve.length c7) := fun q => (HB3.out.touch q.ok (by simp)).cell rfl
  have B7 : ∀ q : Later w3, q.world.cell? ⟨w.heap.size, 7, none⟩ = some (.slice a8 P.n8 c8) := fun q => (HB3.out.touch q.ok (by simp)).cell rfl
  have B8 : ∀ q : Later w3, q.world.cell? ⟨w.heap.size, 8, none⟩ = some (.int .i64 P.cl) := fun q => (HB3.out.touch q.ok (by simp)).cell rfl
  have HTE := Lib.hid HT3.out
  go_wp2_with fail
  refine wp_region_later (by kernel_rfl) (by kernel_rfl) ?_
  repeat (first
    | (go_big_quiet_step ((first | (with_reducible rfl) | (with_reducible exact Later.met (HEND.out _ (HTE.out.trans (Later.ok _)))))))
    | (quiet_step (fail)))
  refine wpQuiet_nil ?_
  intro wq hw'
  obtain ⟨⟨wq', hwq⟩, hwe⟩ := hw'
  have hwe : wq = wq' := hwe
  subst hwe
  have hn5 := HN3.out.touch hwq (by simp)
  have HT5 := Lib.hid (HT3.out.trans hwq)
  clear hwe hwq XF B0 B1 B2 B3 B4 B5 B6 B7 B8 q0 q1 q2 b1 b2 b3 b4 b6 b7
  have q0 := hn5.cell (i := 0) rfl
  have q1 := hn5.cell (i := 1) rfl
  have q2 := hn5.cell (i := 2) rfl
  clear hn5
  by_cases hl : (i : Int) = (tt : Int) - 1
  · have HE : Hid (C = 28) := Lib.hid (HC28.out HF.out (fun q => by have := HIFF.out.2 (q.on (by decide) (by decide)); omega))
    have dl : ((i : Int) == (tt : Int) - 1) = true := beqT hl
    clear hl
    go_wp2_with fail
    go_ret
    exact ⟨by (rw [HE.out]) <;> rfl, HT5.out⟩
  · have HE : Hid (C = 0) := Lib.hid (HC0.out HF.out ⟨fun e => absurd e (by decide), fun e => absurd e (by decide), fun _ _ => HIFF.out.1 (by omega)⟩)
    have dl : ((i : Int) == (tt : Int) - 1) = false := beqF hl
    clear hl
    go_wp2_with fail
    go_ret
    exact ⟨by (rw [HE.out]) <;> rfl, HT5.out⟩
set_option maxHeartbeats 64000000 in
set_option maxRecDepth 100000 in
theorem rinstr_33 (pv : Value) (P : Pg) (k i : Nat) (op a b : Int) (w : World) (h : PgV w pv P) (ht : TabOk P) (hk : k < P.n2) (hi1 : fromP P k ≤ i) (hi2 : i < toP P k) (e1 : P.op i = op) (e2 : P.a i = a) (e3 : P.b i = b) (eop : op = 33) : Calls Tryz.prog 22 #[pv, .int .i64 (k : Int), .int .i64 (i : Int)] w (IntQ (insC P k i) w) := by
  have hm : MayP P := ht 0 (by omega)
  have hen : EntOk P k := (show ∀ i, i < P.n2 → EntOk P i from ht 1 (by omega)) k hk
  have hrg : betw 0 16 P.rg := ht 3 (by omega)
  have hl0 : 0 ≤ P.z2 k 2 := Int.le_trans hen.p0 hen.l0
  have hl1 := hen.l1
  obtain ⟨hr0, hr1⟩ := hrg
  obtain ⟨hft1, hft2, hft3⟩ := from_lt ht hk
  obtain ⟨hC27, hC28, hC0⟩ := insC_z (P := P) (k := k) (i := i) e1 e2 e3
  have HC27 := Lib.hid hC27
  have HC28 := Lib.hid hC28
  have HC0 := Lib.hid hC0
  have HTO := Lib.hid ht
  obtain ⟨C, hC⟩ : ∃ z, insC P k i = z := ⟨_, rfl⟩
  rw [hC] at HC27 HC28 HC0 ⊢
  clear hC hC27 hC28 hC0
  obtain ⟨a1, a2, a3, a5, a6, a7, a8, c1, c2, c3, c5, c6, c7, c8, rfl, ho⟩ := h.open
  obtain ⟨m1, m2, m3, m4, m5, m6, m7, m8, m9⟩ := id hm
  have HO := Lib.hid ho
  have HEND : Hid (∀ wz, Touch [] w wz → Calls Tryz.prog 21 #[.agg #[.slice a1 P.n1 c1, .slice a2 P.n2 c2, .slice a3 P.n3 c3, .int .i64 P.rg, .slice a5 P.se.length c5, .slice a6 P.tt.length c6, .slice a7 P.ve.length c7, .slice a8 P.n8 c8, .int .i64 P.cl], .int .i64 (k : Int)] wz (IntQ (toP P k : Int) wz)) := Lib.hid (fun wz htz => rend_any _ P k wz (ho.touch htz).val ht hk)
  have hin1 : i < P.n1 := by omega
  obtain ⟨g1, off1, hg1, xo1⟩ := ho.h1.at3 hin1
  obtain ⟨g, off, hg, xo⟩ := ho.h2.at3 hk
  have hb0 : Blk (w.alloc (.cells #[.slice a1 P.n1 c1, .slice a2 P.n2 c2, .slice a3 P.n3 c3, .int .i64 P.rg, .slice a5 P.se.length c5, .slice a6 P.tt.length c6, .slice a7 P.ve.length c7, .slice a8 P.n8 c8, .int .i64 P.cl] 29)) w.heap.size #[.slice a1 P.n1 c1, .slice a2 P.n2 c2, .slice a3 P.n3 c3, .int .i64 P.rg, .slice a5 P.se.length c5, .slice a6 P.tt.length c6, .slice a7 P.ve.length c7, .slice a8 P.n8 c8, .int .i64 P.cl] 29 := Blk.new rfl
  have hb1 := hb0.alloc (.cells #[.int .i64 op, .int .i64 a, .int .i64 b] 42)
  have hn1 : Blk ((w.alloc (.cells #[.slice a1 P.n1 c1, .slice a2 P.n2 c2, .slice a3 P.n3 c3, .int .i64 P.rg, .slice a5 P.se.length c5, .slice a6 P.tt.length c6, .slice a7 P.ve.length c7, .slice a8 P.n8 c8, .int .i64 P.cl] 29)).alloc (.cells #[.int .i64 op, .int .i64 a, .int .i64 b] 42)) (w.heap.size + 1) #[.int .i64 op, .int .i64 a, .int .i64 b] 42 := Blk.new (by simp)
  have ht1 : Touch [] w (w.alloc (.cells #[.slice a1 P.n1 c1, .slice a2 P.n2 c2, .slice a3 P.n3 c3, .int .i64 P.rg, .slice a5 P.se.length c5, .slice a6 P.tt.length c6, .slice a7 P.ve.length c7, .slice a8 P.n8 c8, .int .i64 P.cl] 29)) := (Touch.refl [] w).alloc _
  have ht2 : Touch [] w ((w.alloc (.cells #[.slice a1 P.n1 c1, .slice a2 P.n2 c2, .slice a3 P.n3 c3, .int .i64 P.rg, .slice a5 P.se.length c5, .slice a6 P.tt.length c6, .slice a7 P.ve.length c7, .slice a8 P.n8 c8, .int .i64 P.cl] 29)).alloc (.cells #[.int .i64 op, .int .i64 a, .int .i64 b] 42)) := ((Touch.refl [] w).alloc _).alloc _
  have xi := xo1 _ ht1
  rw [show P.z1 i 0 = op from e1, show P.z1 i 1 = a from e2, show P.z1 i 2 = b from e3] at xi
  obtain ⟨x0, x1, x2⟩ := xi
  obtain ⟨W2, hW2⟩ : ∃ x, ((w.alloc (.cells #[.slice a1 P.n1 c1, .slice a2 P.n2 c2, .slice a3 P.n3 c3, .int .i64 P.rg, .slice a5 P.se.length c5, .slice a6 P.tt.length c6, .slice a7 P.ve.length c7, .slice a8 P.n8 c8, .int .i64 P.cl] 29)).alloc (.cells #[.int .i64 op, .int .i64 a, .int .i64 b] 42)) = x := ⟨_, rfl⟩
  rw [hW2] at hb1 hn1 ht2
  have HW2 := Lib.hid hW2
  have HT2 := Lib.hid ht2
  have HN1 := Lib.hid hn1
  have HB1 := Lib.hid hb1
  have HXO : Hid (∀ w', Touch [] w w' → w'.cell? ⟨g, off + k * 3, none⟩ = some (.int .i64 (fromP P k : Int)) ∧ w'.cell? ⟨g, off + k * 3 + 2, none⟩ = some (.int .i64 (P.z2 k 2))) := Lib.hid (fun w' h => ⟨by rw [hft3]; exact (xo w' h).1, (xo w' h).2.2⟩)
  have b0 := hb0.cell (i := 0) rfl
  have q0 := hn1.cell (i := 0) rfl
  have im0 : (0 : Int) ≤ (k : Int) := by omega
  have im1 : (k : Int) < (P.n2 : Int) := by omega
  have ii0 : (0 : Int) ≤ (i : Int) := by omega
  have ii1 : (i : Int) < (P.n1 : Int) := by omega
  have HGG := Lib.hid hg
  have HGI : Hid ((fromP P k : Int) ≤ (i : Int) ∧ (i : Int) < (toP P k : Int) ∧ (toP P k : Int) ≤ 5000) := Lib.hid ⟨by omega, by omega, by omega⟩
  have HIFF : Hid ((i : Int) + 1 < (toP P k : Int) ↔ i + 1 < toP P k) := Lib.hid (by omega)
  subst hg1
  obtain ⟨fr, hfr⟩ : ∃ z, fromP P k = z := ⟨_, rfl⟩
  obtain ⟨tt, htt⟩ : ∃ z, toP P k = z := ⟨_, rfl⟩
  rw [hfr] at HC28 HC0 HXO HGI
  rw [htt] at HC28 HC0 HGI HEND HIFF
  obtain ⟨hgi1, hgi2, hgi3⟩ := HGI.out
  have HNM : Hid (∀ wz, Calls Tryz.prog 51 #[.int .i64 op] wz (StrP (nmZ op) wz)) := Lib.hid (fun wz => rname_any op wz)
  have HOP : Hid (∀ wz, Calls Tryz.prog 52 #[.int .i64 op] wz fun e w' => e = .returned (.int .i64 (opZ op)) ∧ wz = w') := Lib.hid (fun wz => roperands_any op wz)
  obtain ⟨nm, hnm⟩ : ∃ z, nmZ op = z := ⟨_, rfl⟩
  have HNN := Lib.hid hnm
  rw [hnm] at HNM
  clear h ht hm hen ho hb0 hb1 hn1 ht1 ht2 hW2 xo xo1 hg hft1 hft2 hft3 hfr htt hnm hi1 hi2 e1 e2 e3 hin1
  subst eop
  have el : limN P k 33 = P.rg := by simp [limN]
  have HNV : Hid (opZ 33 = 2) := Lib.hid (by decide)
  have ei : isZ 33 = true := by decide
  have hne : ¬ nm = ByteArray.empty := by rw [← HNN.out]; exact nm_ne ei
  have dn : nm.toList.isEmpty = false := emF7 hne
  have HFZ : Hid (FitZ P k 33 a b ↔ ((0 ≤ a ∧ a ≤ P.rg - 1))) := Lib.hid ⟨fun h => by have := h.lim (by rw [el]; omega); rw [el] at this; omega, fun h => ⟨ei, fun e => absurd e (by rw [HNV.out]; decide), fun e => absurd e (by rw [HNV.out]; decide), fun _ => by rw [el]; exact ⟨h.1, by have := h.2; omega⟩, fun e => absurd e (by decide)⟩⟩
  clear el ei hne
  go_enter Tryz.func22, Tryz.ntmps22
  go_wp2_with fail
  rw [HW2.out]
  refine (HNM.out _).mono ?_
  rintro e w3 ⟨rfl, ht3⟩
  have hn3 := HN1.out.touch ht3 (by simp)
  have hb3 := HB1.out.touch ht3 (by simp)
  have HT3 := Lib.hid (HT2.out.trans ht3)
  have HN3 := Lib.hid hn3
  have HB3 := Lib.hid hb3
  clear q0 b0 x0 x1 x2 ht3
  have q0 := hn3.cell (i := 0) rfl
  have q1 := hn3.cell (i := 1) rfl
  have q2 := hn3.cell (i := 2) rfl
  have b1 := hb3.cell (i := 1) rfl
  have b2 := hb3.cell (i := 2) rfl
  have b3 := hb3.cell (i := 3) rfl
  have b4 := hb3.cell (i := 4) rfl
  have b6 := hb3.cell (i := 6) rfl
  have b7 := hb3.cell (i := 7) rfl
  clear hn3 hb3
  go_wp2_with fail
  refine (HOP.out _).mono ?_
  rintro e w4 ⟨rfl, rfl⟩
  rw [HNV.out]
  go_wp2_with fail
  refine (HOP.out _).mono ?_
  rintro e w4 ⟨rfl, rfl⟩
  rw [HNV.out]
  have HIN : Hid (∀ wz, Calls Tryz.prog 49 #[.int .i64 a, .int .i64 0, .int .i64 (P.rg - 1)] wz (BoolQ (decide (0 ≤ a ∧ a ≤ P.rg - 1)) wz)) := Lib.hid (fun wz => rin_any _ _ _ wz)
  go_wp2_with fail
  refine (HIN.out _).mono ?_
  rintro e w4 ⟨rfl, rfl⟩
  by_cases hp : ¬ (0 ≤ a ∧ a ≤ P.rg - 1)
  · have HE : Hid (C = 27) := Lib.hid (HC27.out (fun q => hp (HFZ.out.1 q)))
    rw [decide_eq_false hp]
    clear hp
    go_wp2_with fail
    go_ret
    exact ⟨by (rw [HE.out]) <;> rfl, HT3.out⟩
  have hp := Decidable.not_not.1 hp
  rw [decide_eq_true hp]
  have HF : Hid (FitZ P k 33 a b) := Lib.hid (HFZ.out.2 hp)
  clear hp
  have hgg := HGG.out
  subst hgg
  have XF : ∀ q : Later w3, q.world.cell? ⟨g, off + k * 3, none⟩ = some (.int .i64 (fr : Int)) := fun q => (HXO.out _ (HT3.out.trans q.ok)).1
  have B0 : ∀ q : Later w3, q.world.cell? ⟨w.heap.size, 0, none⟩ = some (.slice (some ⟨g1, off1, none⟩) P.n1 c1) := fun q => (HB3.out.touch q.ok (by simp)).cell rfl
  have B1 : ∀ q : Later w3, q.world.cell? ⟨w.heap.size, 1, none⟩ = some (.slice (some ⟨g, off, none⟩) P.n2 c2) := fun q => (HB3.out.touch q.ok (by simp)).cell rfl
  have B2 : ∀ q : Later w3, q.world.cell? ⟨w.heap.size, 2, none⟩ = some (.slice a3 P.n3 c3) := fun q => (HB3.out.touch q.ok (by simp)).cell rfl
  have B3 : ∀ q : Later w3, q.world.cell? ⟨w.heap.size, 3, none⟩ = some (.int .i64 P.rg) := fun q => (HB3.out.touch q.ok (by simp)).cell rfl
  have B4 : ∀ q : Later w3, q.world.cell? ⟨w.heap.size, 4, none⟩ = some (.slice a5 P.se.length c5) := fun q => (HB3.out.touch q.ok (by simp)).cell rfl
  have B5 : ∀ q : Later w3, q.world.cell? ⟨w.heap.size, 5, none⟩ = some (.slice a6 P.tt.length c6) := fun q => (HB3.out.touch q.ok (by simp)).cell rfl
  have B6 : ∀ q : Later w3, q.world.cell? ⟨w.heap.size, 6, none⟩ = some (.slice a7 P.ve.length c7) := fun q => (HB3.out.touch q.ok (by simp)).cell rfl
  have B7 : ∀ q : Later w3, q.world.cell? ⟨w.heap.size, 7, none⟩ = some (.slice a8 P.n8 c8) := fun q => (HB3.out.touch q.ok (by simp)).cell rfl
  have B8 : ∀ q : Later w3, q.world.cell? ⟨w.heap.size, 8, none⟩ = some (.int .i64 P.cl) := fun q => (HB3.out.touch q.ok (by simp)).cell rfl
  have HTE := Lib.hid HT3.out
  go_wp2_with fail
  refine wp_region_later (by kernel_rfl) (by kernel_rfl) ?_
  repeat (first
    | (go_big_quiet_step ((first | (with_reducible rfl) | (with_reducible exact Later.met (HEND.out _ (HTE.out.trans (Later.ok _)))))))
    | (quiet_step (fail)))
  refine wpQuiet_nil ?_
  intro wq hw'
  obtain ⟨⟨wq', hwq⟩, hwe⟩ := hw'
  have hwe : wq = wq' := hwe
  subst hwe
  have hn5 := HN3.out.touch hwq (by simp)
  have HT5 := Lib.hid (HT3.out.trans hwq)
  clear hwe hwq XF B0 B1 B2 B3 B4 B5 B6 B7 B8 q0 q1 q2 b1 b2 b3 b4 b6 b7
  have q0 := hn5.cell (i := 0) rfl
  have q1 := hn5.cell (i := 1) rfl
  have q2 := hn5.cell (i := 2) rfl
  clear hn5
  go_wp2_with fail
  refine (rin_any _ _ _ _).mono ?_
  rintro e w6 ⟨rfl, rfl⟩
  by_cases hj : ¬ ((fr : Int) ≤ b ∧ b ≤ (tt : Int) - 1)
  · have HE : Hid (C = 28) := Lib.hid (HC28.out HF.out (fun q => hj (by have := q.await rfl; omega)))
    rw [decide_eq_false hj]
    clear hj
    go_wp2_with fail
    go_ret
    exact ⟨by (rw [HE.out]) <;> rfl, HT5.out⟩
  have hj := Decidable.not_not.1 hj
  have HJ := Lib.hid hj
  rw [decide_eq_true hj]
  clear hj
  by_cases hl : (i : Int) = (tt : Int) - 1
  · have HE : Hid (C = 28) := Lib.hid (HC28.out HF.out (fun q => by have := HIFF.out.2 (q.on (by decide) (by decide)); omega))
    have dl : ((i : Int) == (tt : Int) - 1) = true := beqT hl
    clear hl
    go_wp2_with fail
    go_ret
    exact ⟨by (rw [HE.out]) <;> rfl, HT5.out⟩
  · have HE : Hid (C = 0) := Lib.hid (HC0.out HF.out ⟨fun e => absurd e (by decide), fun _ => by have := HJ.out; omega, fun _ _ => HIFF.out.1 (by omega)⟩)
    have dl : ((i : Int) == (tt : Int) - 1) = false := beqF hl
    clear hl
    go_wp2_with fail
    go_ret
    exact ⟨by (rw [HE.out]) <;> rfl, HT5.out⟩
set_option maxHeartbeats 64000000 in
set_option maxRecDepth 100000 in
theorem rinstr_34 (pv : Value) (P : Pg) (k i : Nat) (op a b : Int) (w : World) (h : PgV w pv P) (ht : TabOk P) (hk : k < P.n2) (hi1 : fromP P k ≤ i) (hi2 : i < toP P k) (e1 : P.op i = op) (e2 : P.a i = a) (e3 : P.b i = b) (eop : op = 34) : Calls Tryz.prog 22 #[pv, .int .i64 (k : Int), .int .i64 (i : Int)] w (IntQ (insC P k i) w) := by
  have hm : MayP P := ht 0 (by omega)
  have hen : EntOk P k := (show ∀ i, i < P.n2 → EntOk P i from ht 1 (by omega)) k hk
  have hrg : betw 0 16 P.rg := ht 3 (by omega)
  have hl0 : 0 ≤ P.z2 k 2 := Int.le_trans hen.p0 hen.l0
  have hl1 := hen.l1
  obtain ⟨hr0, hr1⟩ := hrg
  obtain ⟨hft1, hft2, hft3⟩ := from_lt ht hk
  obtain ⟨hC27, hC28, hC0⟩ := insC_z (P := P) (k := k) (i := i) e1 e2 e3
  have HC27 := Lib.hid hC27
  have HC28 := Lib.hid hC28
  have HC0 := Lib.hid hC0
  have HTO := Lib.hid ht
  obtain ⟨C, hC⟩ : ∃ z, insC P k i = z := ⟨_, rfl⟩
  rw [hC] at HC27 HC28 HC0 ⊢
  clear hC hC27 hC28 hC0
  obtain ⟨a1, a2, a3, a5, a6, a7, a8, c1, c2, c3, c5, c6, c7, c8, rfl, ho⟩ := h.open
  obtain ⟨m1, m2, m3, m4, m5, m6, m7, m8, m9⟩ := id hm
  have HO := Lib.hid ho
  have HEND : Hid (∀ wz, Touch [] w wz → Calls Tryz.prog 21 #[.agg #[.slice a1 P.n1 c1, .slice a2 P.n2 c2, .slice a3 P.n3 c3, .int .i64 P.rg, .slice a5 P.se.length c5, .slice a6 P.tt.length c6, .slice a7 P.ve.length c7, .slice a8 P.n8 c8, .int .i64 P.cl], .int .i64 (k : Int)] wz (IntQ (toP P k : Int) wz)) := Lib.hid (fun wz htz => rend_any _ P k wz (ho.touch htz).val ht hk)
  have hin1 : i < P.n1 := by omega
  obtain ⟨g1, off1, hg1, xo1⟩ := ho.h1.at3 hin1
  obtain ⟨g, off, hg, xo⟩ := ho.h2.at3 hk
  have hb0 : Blk (w.alloc (.cells #[.slice a1 P.n1 c1, .slice a2 P.n2 c2, .slice a3 P.n3 c3, .int .i64 P.rg, .slice a5 P.se.length c5, .slice a6 P.tt.length c6, .slice a7 P.ve.length c7, .slice a8 P.n8 c8, .int .i64 P.cl] 29)) w.heap.size #[.slice a1 P.n1 c1, .slice a2 P.n2 c2, .slice a3 P.n3 c3, .int .i64 P.rg, .slice a5 P.se.length c5, .slice a6 P.tt.length c6, .slice a7 P.ve.length c7, .slice a8 P.n8 c8, .int .i64 P.cl] 29 := Blk.new rfl
  have hb1 := hb0.alloc (.cells #[.int .i64 op, .int .i64 a, .int .i64 b] 42)
  have hn1 : Blk ((w.alloc (.cells #[.slice a1 P.n1 c1, .slice a2 P.n2 c2, .slice a3 P.n3 c3, .int .i64 P.rg, .slice a5 P.se.length c5, .slice a6 P.tt.length c6, .slice a7 P.ve.length c7, .slice a8 P.n8 c8, .int .i64 P.cl] 29)).alloc (.cells #[.int .i64 op, .int .i64 a, .int .i64 b] 42)) (w.heap.size + 1) #[.int .i64 op, .int .i64 a, .int .i64 b] 42 := Blk.new (by simp)
  have ht1 : Touch [] w (w.alloc (.cells #[.slice a1 P.n1 c1, .slice a2 P.n2 c2, .slice a3 P.n3 c3, .int .i64 P.rg, .slice a5 P.se.length c5, .slice a6 P.tt.length c6, .slice a7 P.ve.length c7, .slice a8 P.n8 c8, .int .i64 P.cl] 29)) := (Touch.refl [] w).alloc _
  have ht2 : Touch [] w ((w.alloc (.cells #[.slice a1 P.n1 c1, .slice a2 P.n2 c2, .slice a3 P.n3 c3, .int .i64 P.rg, .slice a5 P.se.length c5, .slice a6 P.tt.length c6, .slice a7 P.ve.length c7, .slice a8 P.n8 c8, .int .i64 P.cl] 29)).alloc (.cells #[.int .i64 op, .int .i64 a, .int .i64 b] 42)) := ((Touch.refl [] w).alloc _).alloc _
  have xi := xo1 _ ht1
  rw [show P.z1 i 0 = op from e1, show P.z1 i 1 = a from e2, show P.z1 i 2 = b from e3] at xi
  obtain ⟨x0, x1, x2⟩ := xi
  obtain ⟨W2, hW2⟩ : ∃ x, ((w.alloc (.cells #[.slice a1 P.n1 c1, .slice a2 P.n2 c2, .slice a3 P.n3 c3, .int .i64 P.rg, .slice a5 P.se.length c5, .slice a6 P.tt.length c6, .slice a7 P.ve.length c7, .slice a8 P.n8 c8, .int .i64 P.cl] 29)).alloc (.cells #[.int .i64 op, .int .i64 a, .int .i64 b] 42)) = x := ⟨_, rfl⟩
  rw [hW2] at hb1 hn1 ht2
  have HW2 := Lib.hid hW2
  have HT2 := Lib.hid ht2
  have HN1 := Lib.hid hn1
  have HB1 := Lib.hid hb1
  have HXO : Hid (∀ w', Touch [] w w' → w'.cell? ⟨g, off + k * 3, none⟩ = some (.int .i64 (fromP P k : Int)) ∧ w'.cell? ⟨g, off + k * 3 + 2, none⟩ = some (.int .i64 (P.z2 k 2))) := Lib.hid (fun w' h => ⟨by rw [hft3]; exact (xo w' h).1, (xo w' h).2.2⟩)
  have b0 := hb0.cell (i := 0) rfl
  have q0 := hn1.cell (i := 0) rfl
  have im0 : (0 : Int) ≤ (k : Int) := by omega
  have im1 : (k : Int) < (P.n2 : Int) := by omega
  have ii0 : (0 : Int) ≤ (i : Int) := by omega
  have ii1 : (i : Int) < (P.n1 : Int) := by omega
  have HGG := Lib.hid hg
  have HGI : Hid ((fromP P k : Int) ≤ (i : Int) ∧ (i : Int) < (toP P k : Int) ∧ (toP P k : Int) ≤ 5000) := Lib.hid ⟨by omega, by omega, by omega⟩
  have HIFF : Hid ((i : Int) + 1 < (toP P k : Int) ↔ i + 1 < toP P k) := Lib.hid (by omega)
  subst hg1
  obtain ⟨fr, hfr⟩ : ∃ z, fromP P k = z := ⟨_, rfl⟩
  obtain ⟨tt, htt⟩ : ∃ z, toP P k = z := ⟨_, rfl⟩
  rw [hfr] at HC28 HC0 HXO HGI
  rw [htt] at HC28 HC0 HGI HEND HIFF
  obtain ⟨hgi1, hgi2, hgi3⟩ := HGI.out
  have HNM : Hid (∀ wz, Calls Tryz.prog 51 #[.int .i64 op] wz (StrP (nmZ op) wz)) := Lib.hid (fun wz => rname_any op wz)
  have HOP : Hid (∀ wz, Calls Tryz.prog 52 #[.int .i64 op] wz fun e w' => e = .returned (.int .i64 (opZ op)) ∧ wz = w') := Lib.hid (fun wz => roperands_any op wz)
  obtain ⟨nm, hnm⟩ : ∃ z, nmZ op = z := ⟨_, rfl⟩
  have HNN := Lib.hid hnm
  rw [hnm] at HNM
  clear h ht hm hen ho hb0 hb1 hn1 ht1 ht2 hW2 xo xo1 hg hft1 hft2 hft3 hfr htt hnm hi1 hi2 e1 e2 e3 hin1
  subst eop
  have el : limN P k 34 = P.rg := by simp [limN]
  have HNV : Hid (opZ 34 = 1) := Lib.hid (by decide)
  have ei : isZ 34 = true := by decide
  have hne : ¬ nm = ByteArray.empty := by rw [← HNN.out]; exact nm_ne ei
  have dn : nm.toList.isEmpty = false := emF7 hne
  have HFZ : Hid (FitZ P k 34 a b ↔ (b = 0 ∧ (0 ≤ a ∧ a ≤ P.rg - 1))) := Lib.hid ⟨fun h => ⟨h.b0 (by rw [HNV.out]; decide), by have := h.lim (by rw [el]; omega); rw [el] at this; omega⟩, fun h => ⟨ei, fun e => h.1, fun e => absurd e (by rw [HNV.out]; decide), fun _ => by rw [el]; exact ⟨h.2.1, by have := h.2.2; omega⟩, fun e => absurd e (by decide)⟩⟩
  clear el ei hne
  go_enter Tryz.func22, Tryz.ntmps22
  go_wp2_with fail
  rw [HW2.out]
  refine (HNM.out _).mono ?_
  rintro e w3 ⟨rfl, ht3⟩
  have hn3 := HN1.out.touch ht3 (by simp)
  have hb3 := HB1.out.touch ht3 (by simp)
  have HT3 := Lib.hid (HT2.out.trans ht3)
  have HN3 := Lib.hid hn3
  have HB3 := Lib.hid hb3
  clear q0 b0 x0 x1 x2 ht3
  have q0 := hn3.cell (i := 0) rfl
  have q1 := hn3.cell (i := 1) rfl
  have q2 := hn3.cell (i := 2) rfl
  have b1 := hb3.cell (i := 1) rfl
  have b2 := hb3.cell (i := 2) rfl
  have b3 := hb3.cell (i := 3) rfl
  have b4 := hb3.cell (i := 4) rfl
  have b6 := hb3.cell (i := 6) rfl
  have b7 := hb3.cell (i := 7) rfl
  clear hn3 hb3
  go_wp2_with fail
  refine (HOP.out _).mono ?_
  rintro e w4 ⟨rfl, rfl⟩
  rw [HNV.out]
  by_cases hb : ¬ b = 0
  · have HE : Hid (C = 27) := Lib.hid (HC27.out (fun q => hb (HFZ.out.1 q).1))
    have db : (b != 0) = true := bneT hb
    clear hb
    go_wp2_with fail
    go_ret
    exact ⟨by (rw [HE.out]) <;> rfl, HT3.out⟩
  have hb : b = 0 := Decidable.not_not.1 hb
  subst hb
  go_wp2_with fail
  refine (HOP.out _).mono ?_
  rintro e w4 ⟨rfl, rfl⟩
  rw [HNV.out]
  have HIN : Hid (∀ wz, Calls Tryz.prog 49 #[.int .i64 a, .int .i64 0, .int .i64 (P.rg - 1)] wz (BoolQ (decide (0 ≤ a ∧ a ≤ P.rg - 1)) wz)) := Lib.hid (fun wz => rin_any _ _ _ wz)
  go_wp2_with fail
  refine (HIN.out _).mono ?_
  rintro e w4 ⟨rfl, rfl⟩
  by_cases hp : ¬ (0 ≤ a ∧ a ≤ P.rg - 1)
  · have HE : Hid (C = 27) := Lib.hid (HC27.out (fun q => hp (HFZ.out.1 q).2))
    rw [decide_eq_false hp]
    clear hp
    go_wp2_with fail
    go_ret
    exact ⟨by (rw [HE.out]) <;> rfl, HT3.out⟩
  have hp := Decidable.not_not.1 hp
  rw [decide_eq_true hp]
  have HF : Hid (FitZ P k 34 a 0) := Lib.hid (HFZ.out.2 ⟨(by first | rfl | trivial), hp⟩)
  clear hp
  have hgg := HGG.out
  subst hgg
  have XF : ∀ q : Later w3, q.world.cell? ⟨g, off + k * 3, none⟩ = some (.int .i64 (fr : Int)) := fun q => (HXO.out _ (HT3.out.trans q.ok)).1
  have B0 : ∀ q : Later w3, q.world.cell? ⟨w.heap.size, 0, none⟩ = some (.slice (some ⟨g1, off1, none⟩) P.n1 c1) := fun q => (HB3.out.touch q.ok (by simp)).cell rfl
  have B1 : ∀ q : Later w3, q.world.cell? ⟨w.heap.size, 1, none⟩ = some (.slice (some ⟨g, off, none⟩) P.n2 c2) := fun q => (HB3.out.touch q.ok (by simp)).cell rfl
  have B2 : ∀ q : Later w3, q.world.cell? ⟨w.heap.size, 2, none⟩ = some (.slice a3 P.n3 c3) := fun q => (HB3.out.touch q.ok (by simp)).cell rfl
  have B3 : ∀ q : Later w3, q.world.cell? ⟨w.heap.size, 3, none⟩ = some (.int .i64 P.rg) := fun q => (HB3.out.touch q.ok (by simp)).cell rfl
  have B4 : ∀ q : Later w3, q.world.cell? ⟨w.heap.size, 4, none⟩ = some (.slice a5 P.se.length c5) := fun q => (HB3.out.touch q.ok (by simp)).cell rfl
  have B5 : ∀ q : Later w3, q.world.cell? ⟨w.heap.size, 5, none⟩ = some (.slice a6 P.tt.length c6) := fun q => (HB3.out.touch q.ok (by simp)).cell rfl
  have B6 : ∀ q : Later w3, q.world.cell? ⟨w.heap.size, 6, none⟩ = some (.slice a7 P.ve.length c7) := fun q => (HB3.out.touch q.ok (by simp)).cell rfl
  have B7 : ∀ q : Later w3, q.world.cell? ⟨w.heap.size, 7, none⟩ = some (.slice a8 P.n8 c8) := fun q => (HB3.out.touch q.ok (by simp)).cell rfl
  have B8 : ∀ q : Later w3, q.world.cell? ⟨w.heap.size, 8, none⟩ = some (.int .i64 P.cl) := fun q => (HB3.out.touch q.ok (by simp)).cell rfl
  have HTE := Lib.hid HT3.out
  go_wp2_with fail
  refine wp_region_later (by kernel_rfl) (by kernel_rfl) ?_
  repeat (first
    | (go_big_quiet_step ((first | (with_reducible rfl) | (with_reducible exact Later.met (HEND.out _ (HTE.out.trans (Later.ok _)))))))
    | (quiet_step (fail)))
  refine wpQuiet_nil ?_
  intro wq hw'
  obtain ⟨⟨wq', hwq⟩, hwe⟩ := hw'
  have hwe : wq = wq' := hwe
  subst hwe
  have hn5 := HN3.out.touch hwq (by simp)
  have HT5 := Lib.hid (HT3.out.trans hwq)
  clear hwe hwq XF B0 B1 B2 B3 B4 B5 B6 B7 B8 q0 q1 q2 b1 b2 b3 b4 b6 b7
  have q0 := hn5.cell (i := 0) rfl
  have q1 := hn5.cell (i := 1) rfl
  have q2 := hn5.cell (i := 2) rfl
  clear hn5
  by_cases hl : (i : Int) = (tt : Int) - 1
  · have HE : Hid (C = 28) := Lib.hid (HC28.out HF.out (fun q => by have := HIFF.out.2 (q.on (by decide) (by decide)); omega))
    have dl : ((i : Int) == (tt : Int) - 1) = true := beqT hl
    clear hl
    go_wp2_with fail
    go_ret
    exact ⟨by (rw [HE.out]) <;> rfl, HT5.out⟩
  · have HE : Hid (C = 0) := Lib.hid (HC0.out HF.out ⟨fun e => absurd e (by decide), fun e => absurd e (by decide), fun _ _ => HIFF.out.1 (by omega)⟩)
    have dl : ((i : Int) == (tt : Int) - 1) = false := beqF hl
    clear hl
    go_wp2_with fail
    go_ret
    exact ⟨by (rw [HE.out]) <;> rfl, HT5.out⟩
set_option maxHeartbeats 64000000 in
set_option maxRecDepth 100000 in
theorem rinstr_35 (pv : Value) (P : Pg) (k i : Nat) (op a b : Int) (w : World) (h : PgV w pv P) (ht : TabOk P) (hk : k < P.n2) (hi1 : fromP P k ≤ i) (hi2 : i < toP P k) (e1 : P.op i = op) (e2 : P.a i = a) (e3 : P.b i = b) (eop : op = 35) : Calls Tryz.prog 22 #[pv, .int .i64 (k : Int), .int .i64 (i : Int)] w (IntQ (insC P k i) w) := by
  have hm : MayP P := ht 0 (by omega)
  have hen : EntOk P k := (show ∀ i, i < P.n2 → EntOk P i from ht 1 (by omega)) k hk
  have hrg : betw 0 16 P.rg := ht 3 (by omega)
  have hl0 : 0 ≤ P.z2 k 2 := Int.le_trans hen.p0 hen.l0
  have hl1 := hen.l1
  obtain ⟨hr0, hr1⟩ := hrg
  obtain ⟨hft1, hft2, hft3⟩ := from_lt ht hk
  obtain ⟨hC27, hC28, hC0⟩ := insC_z (P := P) (k := k) (i := i) e1 e2 e3
  have HC27 := Lib.hid hC27
  have HC28 := Lib.hid hC28
  have HC0 := Lib.hid hC0
  have HTO := Lib.hid ht
  obtain ⟨C, hC⟩ : ∃ z, insC P k i = z := ⟨_, rfl⟩
  rw [hC] at HC27 HC28 HC0 ⊢
  clear hC hC27 hC28 hC0
  obtain ⟨a1, a2, a3, a5, a6, a7, a8, c1, c2, c3, c5, c6, c7, c8, rfl, ho⟩ := h.open
  obtain ⟨m1, m2, m3, m4, m5, m6, m7, m8, m9⟩ := id hm
  have HO := Lib.hid ho
  have HEND : Hid (∀ wz, Touch [] w wz → Calls Tryz.prog 21 #[.agg #[.slice a1 P.n1 c1, .slice a2 P.n2 c2, .slice a3 P.n3 c3, .int .i64 P.rg, .slice a5 P.se.length c5, .slice a6 P.tt.length c6, .slice a7 P.ve.length c7, .slice a8 P.n8 c8, .int .i64 P.cl], .int .i64 (k : Int)] wz (IntQ (toP P k : Int) wz)) := Lib.hid (fun wz htz => rend_any _ P k wz (ho.touch htz).val ht hk)
  have hin1 : i < P.n1 := by omega
  obtain ⟨g1, off1, hg1, xo1⟩ := ho.h1.at3 hin1
  obtain ⟨g, off, hg, xo⟩ := ho.h2.at3 hk
  have hb0 : Blk (w.alloc (.cells #[.slice a1 P.n1 c1, .slice a2 P.n2 c2, .slice a3 P.n3 c3, .int .i64 P.rg, .slice a5 P.se.length c5, .slice a6 P.tt.length c6, .slice a7 P.ve.length c7, .slice a8 P.n8 c8, .int .i64 P.cl] 29)) w.heap.size #[.slice a1 P.n1 c1, .slice a2 P.n2 c2, .slice a3 P.n3 c3, .int .i64 P.rg, .slice a5 P.se.length c5, .slice a6 P.tt.length c6, .slice a7 P.ve.length c7, .slice a8 P.n8 c8, .int .i64 P.cl] 29 := Blk.new rfl
  have hb1 := hb0.alloc (.cells #[.int .i64 op, .int .i64 a, .int .i64 b] 42)
  have hn1 : Blk ((w.alloc (.cells #[.slice a1 P.n1 c1, .slice a2 P.n2 c2, .slice a3 P.n3 c3, .int .i64 P.rg, .slice a5 P.se.length c5, .slice a6 P.tt.length c6, .slice a7 P.ve.length c7, .slice a8 P.n8 c8, .int .i64 P.cl] 29)).alloc (.cells #[.int .i64 op, .int .i64 a, .int .i64 b] 42)) (w.heap.size + 1) #[.int .i64 op, .int .i64 a, .int .i64 b] 42 := Blk.new (by simp)
  have ht1 : Touch [] w (w.alloc (.cells #[.slice a1 P.n1 c1, .slice a2 P.n2 c2, .slice a3 P.n3 c3, .int .i64 P.rg, .slice a5 P.se.length c5, .slice a6 P.tt.length c6, .slice a7 P.ve.length c7, .slice a8 P.n8 c8, .int .i64 P.cl] 29)) := (Touch.refl [] w).alloc _
  have ht2 : Touch [] w ((w.alloc (.cells #[.slice a1 P.n1 c1, .slice a2 P.n2 c2, .slice a3 P.n3 c3, .int .i64 P.rg, .slice a5 P.se.length c5, .slice a6 P.tt.length c6, .slice a7 P.ve.length c7, .slice a8 P.n8 c8, .int .i64 P.cl] 29)).alloc (.cells #[.int .i64 op, .int .i64 a, .int .i64 b] 42)) := ((Touch.refl [] w).alloc _).alloc _
  have xi := xo1 _ ht1
  rw [show P.z1 i 0 = op from e1, show P.z1 i 1 = a from e2, show P.z1 i 2 = b from e3] at xi
  obtain ⟨x0, x1, x2⟩ := xi
  obtain ⟨W2, hW2⟩ : ∃ x, ((w.alloc (.cells #[.slice a1 P.n1 c1, .slice a2 P.n2 c2, .slice a3 P.n3 c3, .int .i64 P.rg, .slice a5 P.se.length c5, .slice a6 P.tt.length c6, .slice a7 P.ve.length c7, .slice a8 P.n8 c8, .int .i64 P.cl] 29)).alloc (.cells #[.int .i64 op, .int .i64 a, .int .i64 b] 42)) = x := ⟨_, rfl⟩
  rw [hW2] at hb1 hn1 ht2
  have HW2 := Lib.hid hW2
  have HT2 := Lib.hid ht2
  have HN1 := Lib.hid hn1
  have HB1 := Lib.hid hb1
  have HXO : Hid (∀ w', Touch [] w w' → w'.cell? ⟨g, off + k * 3, none⟩ = some (.int .i64 (fromP P k : Int)) ∧ w'.cell? ⟨g, off + k * 3 + 2, none⟩ = some (.int .i64 (P.z2 k 2))) := Lib.hid (fun w' h => ⟨by rw [hft3]; exact (xo w' h).1, (xo w' h).2.2⟩)
  have b0 := hb0.cell (i := 0) rfl
  have q0 := hn1.cell (i := 0) rfl
  have im0 : (0 : Int) ≤ (k : Int) := by omega
  have im1 : (k : Int) < (P.n2 : Int) := by omega
  have ii0 : (0 : Int) ≤ (i : Int) := by omega
  have ii1 : (i : Int) < (P.n1 : Int) := by omega
  have HGG := Lib.hid hg
  have HGI : Hid ((fromP P k : Int) ≤ (i : Int) ∧ (i : Int) < (toP P k : Int) ∧ (toP P k : Int) ≤ 5000) := Lib.hid ⟨by omega, by omega, by omega⟩
  have HIFF : Hid ((i : Int) + 1 < (toP P k : Int) ↔ i + 1 < toP P k) := Lib.hid (by omega)
  subst hg1
  obtain ⟨fr, hfr⟩ : ∃ z, fromP P k = z := ⟨_, rfl⟩
  obtain ⟨tt, htt⟩ : ∃ z, toP P k = z := ⟨_, rfl⟩
  rw [hfr] at HC28 HC0 HXO HGI
  rw [htt] at HC28 HC0 HGI HEND HIFF
  obtain ⟨hgi1, hgi2, hgi3⟩ := HGI.out
  have HNM : Hid (∀ wz, Calls Tryz.prog 51 #[.int .i64 op] wz (StrP (nmZ op) wz)) := Lib.hid (fun wz => rname_any op wz)
  have HOP : Hid (∀ wz, Calls Tryz.prog 52 #[.int .i64 op] wz fun e w' => e = .returned (.int .i64 (opZ op)) ∧ wz = w') := Lib.hid (fun wz => roperands_any op wz)
  obtain ⟨nm, hnm⟩ : ∃ z, nmZ op = z := ⟨_, rfl⟩
  have HNN := Lib.hid hnm
  rw [hnm] at HNM
  clear h ht hm hen ho hb0 hb1 hn1 ht1 ht2 hW2 xo xo1 hg hft1 hft2 hft3 hfr htt hnm hi1 hi2 e1 e2 e3 hin1
  subst eop
  have el : limN P k 35 = (P.ve.length : Int) := by simp [limN]
  have HNV : Hid (opZ 35 = 1) := Lib.hid (by decide)
  have ei : isZ 35 = true := by decide
  have hne : ¬ nm = ByteArray.empty := by rw [← HNN.out]; exact nm_ne ei
  have dn : nm.toList.isEmpty = false := emF7 hne
  have HFZ : Hid (FitZ P k 35 a b ↔ (b = 0 ∧ (0 ≤ a ∧ a ≤ (P.ve.length : Int) - 1))) := Lib.hid ⟨fun h => ⟨h.b0 (by rw [HNV.out]; decide), by have := h.lim (by rw [el]; omega); rw [el] at this; omega⟩, fun h => ⟨ei, fun e => h.1, fun e => absurd e (by rw [HNV.out]; decide), fun _ => by rw [el]; exact ⟨h.2.1, by have := h.2.2; omega⟩, fun e => absurd e (by decide)⟩⟩
  clear el ei hne
  go_enter Tryz.func22, Tryz.ntmps22
  go_wp2_with fail
  rw [HW2.out]
  refine (HNM.out _).mono ?_
  rintro e w3 ⟨rfl, ht3⟩
  have hn3 := HN1.out.touch ht3 (by simp)
  have hb3 := HB1.out.touch ht3 (by simp)
  have HT3 := Lib.hid (HT2.out.trans ht3)
  have HN3 := Lib.hid hn3
  have HB3 := Lib.hid hb3
  clear q0 b0 x0 x1 x2 ht3
  have q0 := hn3.cell (i := 0) rfl
  have q1 := hn3.cell (i := 1) rfl
  have q2 := hn3.cell (i := 2) rfl
  have b1 := hb3.cell (i := 1) rfl
  have b2 := hb3.cell (i := 2) rfl
  have b3 := hb3.cell (i := 3) rfl
  have b4 := hb3.cell (i := 4) rfl
  have b6 := hb3.cell (i := 6) rfl
  have b7 := hb3.cell (i := 7) rfl
  clear hn3 hb3
  go_wp2_with fail
  refine (HOP.out _).mono ?_
  rintro e w4 ⟨rfl, rfl⟩
  rw [HNV.out]
  by_cases hb : ¬ b = 0
  · have HE : Hid (C = 27) := Lib.hid (HC27.out (fun q => hb (HFZ.out.1 q).1))
    have db : (b != 0) = true := bneT hb
    clear hb
    go_wp2_with fail
    go_ret
    exact ⟨by (rw [HE.out]) <;> rfl, HT3.out⟩
  have hb : b = 0 := Decidable.not_not.1 hb
  subst hb
  go_wp2_with fail
  refine (HOP.out _).mono ?_
  rintro e w4 ⟨rfl, rfl⟩
  rw [HNV.out]
  have HIN : Hid (∀ wz, Calls Tryz.prog 49 #[.int .i64 a, .int .i64 0, .int .i64 ((P.ve.length : Int) - 1)] wz (BoolQ (decide (0 ≤ a ∧ a ≤ (P.ve.length : Int) - 1)) wz)) := Lib.hid (fun wz => rin_any _ _ _ wz)
  go_wp2_with fail
  refine (HIN.out _).mono ?_
  rintro e w4 ⟨rfl, rfl⟩
  by_cases hp : ¬ (0 ≤ a ∧ a ≤ (P.ve.length : Int) - 1)
  · have HE : Hid (C = 27) := Lib.hid (HC27.out (fun q => hp (HFZ.out.1 q).2))
    rw [decide_eq_false hp]
    clear hp
    go_wp2_with fail
    go_ret
    exact ⟨by (rw [HE.out]) <;> rfl, HT3.out⟩
  have hp := Decidable.not_not.1 hp
  rw [decide_eq_true hp]
  have HF : Hid (FitZ P k 35 a 0) := Lib.hid (HFZ.out.2 ⟨(by first | rfl | trivial), hp⟩)
  clear hp
  have hgg := HGG.out
  subst hgg
  have XF : ∀ q : Later w3, q.world.cell? ⟨g, off + k * 3, none⟩ = some (.int .i64 (fr : Int)) := fun q => (HXO.out _ (HT3.out.trans q.ok)).1
  have B0 : ∀ q : Later w3, q.world.cell? ⟨w.heap.size, 0, none⟩ = some (.slice (some ⟨g1, off1, none⟩) P.n1 c1) := fun q => (HB3.out.touch q.ok (by simp)).cell rfl
  have B1 : ∀ q : Later w3, q.world.cell? ⟨w.heap.size, 1, none⟩ = some (.slice (some ⟨g, off, none⟩) P.n2 c2) := fun q => (HB3.out.touch q.ok (by simp)).cell rfl
  have B2 : ∀ q : Later w3, q.world.cell? ⟨w.heap.size, 2, none⟩ = some (.slice a3 P.n3 c3) := fun q => (HB3.out.touch q.ok (by simp)).cell rfl
  have B3 : ∀ q : Later w3, q.world.cell? ⟨w.heap.size, 3, none⟩ = some (.int .i64 P.rg) := fun q => (HB3.out.touch q.ok (by simp)).cell rfl
  have B4 : ∀ q : Later w3, q.world.cell? ⟨w.heap.size, 4, none⟩ = some (.slice a5 P.se.length c5) := fun q => (HB3.out.touch q.ok (by simp)).cell rfl
  have B5 : ∀ q : Later w3, q.world.cell? ⟨w.heap.size, 5, none⟩ = some (.slice a6 P.tt.length c6) := fun q => (HB3.out.touch q.ok (by simp)).cell rfl
  have B6 : ∀ q : Later w3, q.world.cell? ⟨w.heap.size, 6, none⟩ = some (.slice a7 P.ve.length c7) := fun q => (HB3.out.touch q.ok (by simp)).cell rfl
  have B7 : ∀ q : Later w3, q.world.cell? ⟨w.heap.size, 7, none⟩ = some (.slice a8 P.n8 c8) := fun q => (HB3.out.touch q.ok (by simp)).cell rfl
  have B8 : ∀ q : Later w3, q.world.cell? ⟨w.heap.size, 8, none⟩ = some (.int .i64 P.cl) := fun q => (HB3.out.touch q.ok (by simp)).cell rfl
  have HTE := Lib.hid HT3.out
  go_wp2_with fail
  refine wp_region_later (by kernel_rfl) (by kernel_rfl) ?_
  repeat (first
    | (go_big_quiet_step ((first | (with_reducible rfl) | (with_reducible exact Later.met (HEND.out _ (HTE.out.trans (Later.ok _)))))))
    | (quiet_step (fail)))
  refine wpQuiet_nil ?_
  intro wq hw'
  obtain ⟨⟨wq', hwq⟩, hwe⟩ := hw'
  have hwe : wq = wq' := hwe
  subst hwe
  have hn5 := HN3.out.touch hwq (by simp)
  have HT5 := Lib.hid (HT3.out.trans hwq)
  clear hwe hwq XF B0 B1 B2 B3 B4 B5 B6 B7 B8 q0 q1 q2 b1 b2 b3 b4 b6 b7
  have q0 := hn5.cell (i := 0) rfl
  have q1 := hn5.cell (i := 1) rfl
  have q2 := hn5.cell (i := 2) rfl
  clear hn5
  by_cases hl : (i : Int) = (tt : Int) - 1
  · have HE : Hid (C = 28) := Lib.hid (HC28.out HF.out (fun q => by have := HIFF.out.2 (q.on (by decide) (by decide)); omega))
    have dl : ((i : Int) == (tt : Int) - 1) = true := beqT hl
    clear hl
    go_wp2_with fail
    go_ret
    exact ⟨by (rw [HE.out]) <;> rfl, HT5.out⟩
  · have HE : Hid (C = 0) := Lib.hid (HC0.out HF.out ⟨fun e => absurd e (by decide), fun e => absurd e (by decide), fun _ _ => HIFF.out.1 (by omega)⟩)
    have dl : ((i : Int) == (tt : Int) - 1) = false := beqF hl
    clear hl
    go_wp2_with fail
    go_ret
    exact ⟨by (rw [HE.out]) <;> rfl, HT5.out⟩
set_option maxHeartbeats 64000000 in
set_option maxRecDepth 100000 in
theorem rinstr_36 (pv : Value) (P : Pg) (k i : Nat) (op a b : Int) (w : World) (h : PgV w pv P) (ht : TabOk P) (hk : k < P.n2) (hi1 : fromP P k ≤ i) (hi2 : i < toP P k) (e1 : P.op i = op) (e2 : P.a i = a) (e3 : P.b i = b) (eop : op = 36) : Calls Tryz.prog 22 #[pv, .int .i64 (k : Int), .int .i64 (i : Int)] w (IntQ (insC P k i) w) := by
  have hm : MayP P := ht 0 (by omega)
  have hen : EntOk P k := (show ∀ i, i < P.n2 → EntOk P i from ht 1 (by omega)) k hk
  have hrg : betw 0 16 P.rg := ht 3 (by omega)
  have hl0 : 0 ≤ P.z2 k 2 := Int.le_trans hen.p0 hen.l0
  have hl1 := hen.l1
  obtain ⟨hr0, hr1⟩ := hrg
  obtain ⟨hft1, hft2, hft3⟩ := from_lt ht hk
  obtain ⟨hC27, hC28, hC0⟩ := insC_z (P := P) (k := k) (i := i) e1 e2 e3
  have HC27 := Lib.hid hC27
  have HC28 := Lib.hid hC28
  have HC0 := Lib.hid hC0
  have HTO := Lib.hid ht
  obtain ⟨C, hC⟩ : ∃ z, insC P k i = z := ⟨_, rfl⟩
  rw [hC] at HC27 HC28 HC0 ⊢
  clear hC hC27 hC28 hC0
  obtain ⟨a1, a2, a3, a5, a6, a7, a8, c1, c2, c3, c5, c6, c7, c8, rfl, ho⟩ := h.open
  obtain ⟨m1, m2, m3, m4, m5, m6, m7, m8, m9⟩ := id hm
  have HO := Lib.hid ho
  have HEND : Hid (∀ wz, Touch [] w wz → Calls Tryz.prog 21 #[.agg #[.slice a1 P.n1 c1, .slice a2 P.n2 c2, .slice a3 P.n3 c3, .int .i64 P.rg, .slice a5 P.se.length c5, .slice a6 P.tt.length c6, .slice a7 P.ve.length c7, .slice a8 P.n8 c8, .int .i64 P.cl], .int .i64 (k : Int)] wz (IntQ (toP P k : Int) wz)) := Lib.hid (fun wz htz => rend_any _ P k wz (ho.touch htz).val ht hk)
  have hin1 : i < P.n1 := by omega
  obtain ⟨g1, off1, hg1, xo1⟩ := ho.h1.at3 hin1
  obtain ⟨g, off, hg, xo⟩ := ho.h2.at3 hk
  have hb0 : Blk (w.alloc (.cells #[.slice a1 P.n1 c1, .slice a2 P.n2 c2, .slice a3 P.n3 c3, .int .i64 P.rg, .slice a5 P.se.length c5, .slice a6 P.tt.length c6, .slice a7 P.ve.length c7, .slice a8 P.n8 c8, .int .i64 P.cl] 29)) w.heap.size #[.slice a1 P.n1 c1, .slice a2 P.n2 c2, .slice a3 P.n3 c3, .int .i64 P.rg, .slice a5 P.se.length c5, .slice a6 P.tt.length c6, .slice a7 P.ve.length c7, .slice a8 P.n8 c8, .int .i64 P.cl] 29 := Blk.new rfl
  have hb1 := hb0.alloc (.cells #[.int .i64 op, .int .i64 a, .int .i64 b] 42)
  have hn1 : Blk ((w.alloc (.cells #[.slice a1 P.n1 c1, .slice a2 P.n2 c2, .slice a3 P.n3 c3, .int .i64 P.rg, .slice a5 P.se.length c5, .slice a6 P.tt.length c6, .slice a7 P.ve.length c7, .slice a8 P.n8 c8, .int .i64 P.cl] 29)).alloc (.cells #[.int .i64 op, .int .i64 a, .int .i64 b] 42)) (w.heap.size + 1) #[.int .i64 op, .int .i64 a, .int .i64 b] 42 := Blk.new (by simp)
  have ht1 : Touch [] w (w.alloc (.cells #[.slice a1 P.n1 c1, .slice a2 P.n2 c2, .slice a3 P.n3 c3, .int .i64 P.rg, .slice a5 P.se.length c5, .slice a6 P.tt.length c6, .slice a7 P.ve.length c7, .slice a8 P.n8 c8, .int .i64 P.cl] 29)) := (Touch.refl [] w).alloc _
  have ht2 : Touch [] w ((w.alloc (.cells #[.slice a1 P.n1 c1, .slice a2 P.n2 c2, .slice a3 P.n3 c3, .int .i64 P.rg, .slice a5 P.se.length c5, .slice a6 P.tt.length c6, .slice a7 P.ve.length c7, .slice a8 P.n8 c8, .int .i64 P.cl] 29)).alloc (.cells #[.int .i64 op, .int .i64 a, .int .i64 b] 42)) := ((Touch.refl [] w).alloc _).alloc _
  have xi := xo1 _ ht1
  rw [show P.z1 i 0 = op from e1, show P.z1 i 1 = a from e2, show P.z1 i 2 = b from e3] at xi
  obtain ⟨x0, x1, x2⟩ := xi
  obtain ⟨W2, hW2⟩ : ∃ x, ((w.alloc (.cells #[.slice a1 P.n1 c1, .slice a2 P.n2 c2, .slice a3 P.n3 c3, .int .i64 P.rg, .slice a5 P.se.length c5, .slice a6 P.tt.length c6, .slice a7 P.ve.length c7, .slice a8 P.n8 c8, .int .i64 P.cl] 29)).alloc (.cells #[.int .i64 op, .int .i64 a, .int .i64 b] 42)) = x := ⟨_, rfl⟩
  rw [hW2] at hb1 hn1 ht2
  have HW2 := Lib.hid hW2
  have HT2 := Lib.hid ht2
  have HN1 := Lib.hid hn1
  have HB1 := Lib.hid hb1
  have HXO : Hid (∀ w', Touch [] w w' → w'.cell? ⟨g, off + k * 3, none⟩ = some (.int .i64 (fromP P k : Int)) ∧ w'.cell? ⟨g, off + k * 3 + 2, none⟩ = some (.int .i64 (P.z2 k 2))) := Lib.hid (fun w' h => ⟨by rw [hft3]; exact (xo w' h).1, (xo w' h).2.2⟩)
  have b0 := hb0.cell (i := 0) rfl
  have q0 := hn1.cell (i := 0) rfl
  have im0 : (0 : Int) ≤ (k : Int) := by omega
  have im1 : (k : Int) < (P.n2 : Int) := by omega
  have ii0 : (0 : Int) ≤ (i : Int) := by omega
  have ii1 : (i : Int) < (P.n1 : Int) := by omega
  have HGG := Lib.hid hg
  have HGI : Hid ((fromP P k : Int) ≤ (i : Int) ∧ (i : Int) < (toP P k : Int) ∧ (toP P k : Int) ≤ 5000) := Lib.hid ⟨by omega, by omega, by omega⟩
  have HIFF : Hid ((i : Int) + 1 < (toP P k : Int) ↔ i + 1 < toP P k) := Lib.hid (by omega)
  subst hg1
  obtain ⟨fr, hfr⟩ : ∃ z, fromP P k = z := ⟨_, rfl⟩
  obtain ⟨tt, htt⟩ : ∃ z, toP P k = z := ⟨_, rfl⟩
  rw [hfr] at HC28 HC0 HXO HGI
  rw [htt] at HC28 HC0 HGI HEND HIFF
  obtain ⟨hgi1, hgi2, hgi3⟩ := HGI.out
  have HNM : Hid (∀ wz, Calls Tryz.prog 51 #[.int .i64 op] wz (StrP (nmZ op) wz)) := Lib.hid (fun wz => rname_any op wz)
  have HOP : Hid (∀ wz, Calls Tryz.prog 52 #[.int .i64 op] wz fun e w' => e = .returned (.int .i64 (opZ op)) ∧ wz = w') := Lib.hid (fun wz => roperands_any op wz)
  obtain ⟨nm, hnm⟩ : ∃ z, nmZ op = z := ⟨_, rfl⟩
  have HNN := Lib.hid hnm
  rw [hnm] at HNM
  clear h ht hm hen ho hb0 hb1 hn1 ht1 ht2 hW2 xo xo1 hg hft1 hft2 hft3 hfr htt hnm hi1 hi2 e1 e2 e3 hin1
  subst eop
  have el : limN P k 36 = (P.ve.length : Int) := by simp [limN]
  have HNV : Hid (opZ 36 = 1) := Lib.hid (by decide)
  have ei : isZ 36 = true := by decide
  have hne : ¬ nm = ByteArray.empty := by rw [← HNN.out]; exact nm_ne ei
  have dn : nm.toList.isEmpty = false := emF7 hne
  have HFZ : Hid (FitZ P k 36 a b ↔ (b = 0 ∧ (0 ≤ a ∧ a ≤ (P.ve.length : Int) - 1))) := Lib.hid ⟨fun h => ⟨h.b0 (by rw [HNV.out]; decide), by have := h.lim (by rw [el]; omega); rw [el] at this; omega⟩, fun h => ⟨ei, fun e => h.1, fun e => absurd e (by rw [HNV.out]; decide), fun _ => by rw [el]; exact ⟨h.2.1, by have := h.2.2; omega⟩, fun e => absurd e (by decide)⟩⟩
  clear el ei hne
  go_enter Tryz.func22, Tryz.ntmps22
  go_wp2_with fail
  rw [HW2.out]
  refine (HNM.out _).mono ?_
  rintro e w3 ⟨rfl, ht3⟩
  have hn3 := HN1.out.touch ht3 (by simp)
  have hb3 := HB1.out.touch ht3 (by simp)
  have HT3 := Lib.hid (HT2.out.trans ht3)
  have HN3 := Lib.hid hn3
  have HB3 := Lib.hid hb3
  clear q0 b0 x0 x1 x2 ht3
  have q0 := hn3.cell (i := 0) rfl
  have q1 := hn3.cell (i := 1) rfl
  have q2 := hn3.cell (i := 2) rfl
  have b1 := hb3.cell (i := 1) rfl
  have b2 := hb3.cell (i := 2) rfl
  have b3 := hb3.cell (i := 3) rfl
  have b4 := hb3.cell (i := 4) rfl
  have b6 := hb3.cell (i := 6) rfl
  have b7 := hb3.cell (i := 7) rfl
  clear hn3 hb3
  go_wp2_with fail
  refine (HOP.out _).mono ?_
  rintro e w4 ⟨rfl, rfl⟩
  rw [HNV.out]
  by_cases hb : ¬ b = 0
  · have HE : Hid (C = 27) := Lib.hid (HC27.out (fun q => hb (HFZ.out.1 q).1))
    have db : (b != 0) = true := bneT hb
    clear hb
    go_wp2_with fail
    go_ret
    exact ⟨by (rw [HE.out]) <;> rfl, HT3.out⟩
  have hb : b = 0 := Decidable.not_not.1 hb
  subst hb
  go_wp2_with fail
  refine (HOP.out _).mono ?_
  rintro e w4 ⟨rfl, rfl⟩
  rw [HNV.out]
  have HIN : Hid (∀ wz, Calls Tryz.prog 49 #[.int .i64 a, .int .i64 0, .int .i64 ((P.ve.length : Int) - 1)] wz (BoolQ (decide (0 ≤ a ∧ a ≤ (P.ve.length : Int) - 1)) wz)) := Lib.hid (fun wz => rin_any _ _ _ wz)
  go_wp2_with fail
  refine (HIN.out _).mono ?_
  rintro e w4 ⟨rfl, rfl⟩
  by_cases hp : ¬ (0 ≤ a ∧ a ≤ (P.ve.length : Int) - 1)
  · have HE : Hid (C = 27) := Lib.hid (HC27.out (fun q => hp (HFZ.out.1 q).2))
    rw [decide_eq_false hp]
    clear hp
    go_wp2_with fail
    go_ret
    exact ⟨by (rw [HE.out]) <;> rfl, HT3.out⟩
  have hp := Decidable.not_not.1 hp
  rw [decide_eq_true hp]
  have HF : Hid (FitZ P k 36 a 0) := Lib.hid (HFZ.out.2 ⟨(by first | rfl | trivial), hp⟩)
  clear hp
  have hgg := HGG.out
  subst hgg
  have XF : ∀ q : Later w3, q.world.cell? ⟨g, off + k * 3, none⟩ = some (.int .i64 (fr : Int)) := fun q => (HXO.out _ (HT3.out.trans q.ok)).1
  have B0 : ∀ q : Later w3, q.world.cell? ⟨w.heap.size, 0, none⟩ = some (.slice (some ⟨g1, off1, none⟩) P.n1 c1) := fun q => (HB3.out.touch q.ok (by simp)).cell rfl
  have B1 : ∀ q : Later w3, q.world.cell? ⟨w.heap.size, 1, none⟩ = some (.slice (some ⟨g, off, none⟩) P.n2 c2) := fun q => (HB3.out.touch q.ok (by simp)).cell rfl
  have B2 : ∀ q : Later w3, q.world.cell? ⟨w.heap.size, 2, none⟩ = some (.slice a3 P.n3 c3) := fun q => (HB3.out.touch q.ok (by simp)).cell rfl
  have B3 : ∀ q : Later w3, q.world.cell? ⟨w.heap.size, 3, none⟩ = some (.int .i64 P.rg) := fun q => (HB3.out.touch q.ok (by simp)).cell rfl
  have B4 : ∀ q : Later w3, q.world.cell? ⟨w.heap.size, 4, none⟩ = some (.slice a5 P.se.length c5) := fun q => (HB3.out.touch q.ok (by simp)).cell rfl
  have B5 : ∀ q : Later w3, q.world.cell? ⟨w.heap.size, 5, none⟩ = some (.slice a6 P.tt.length c6) := fun q => (HB3.out.touch q.ok (by simp)).cell rfl
  have B6 : ∀ q : Later w3, q.world.cell? ⟨w.heap.size, 6, none⟩ = some (.slice a7 P.ve.length c7) := fun q => (HB3.out.touch q.ok (by simp)).cell rfl
  have B7 : ∀ q : Later w3, q.world.cell? ⟨w.heap.size, 7, none⟩ = some (.slice a8 P.n8 c8) := fun q => (HB3.out.touch q.ok (by simp)).cell rfl
  have B8 : ∀ q : Later w3, q.world.cell? ⟨w.heap.size, 8, none⟩ = some (.int .i64 P.cl) := fun q => (HB3.out.touch q.ok (by simp)).cell rfl
  have HTE := Lib.hid HT3.out
  go_wp2_with fail
  refine wp_region_later (by kernel_rfl) (by kernel_rfl) ?_
  repeat (first
    | (go_big_quiet_step ((first | (with_reducible rfl) | (with_reducible exact Later.met (HEND.out _ (HTE.out.trans (Later.ok _)))))))
    | (quiet_step (fail)))
  refine wpQuiet_nil ?_
  intro wq hw'
  obtain ⟨⟨wq', hwq⟩, hwe⟩ := hw'
  have hwe : wq = wq' := hwe
  subst hwe
  have hn5 := HN3.out.touch hwq (by simp)
  have HT5 := Lib.hid (HT3.out.trans hwq)
  clear hwe hwq XF B0 B1 B2 B3 B4 B5 B6 B7 B8 q0 q1 q2 b1 b2 b3 b4 b6 b7
  have q0 := hn5.cell (i := 0) rfl
  have q1 := hn5.cell (i := 1) rfl
  have q2 := hn5.cell (i := 2) rfl
  clear hn5
  by_cases hl : (i : Int) = (tt : Int) - 1
  · have HE : Hid (C = 28) := Lib.hid (HC28.out HF.out (fun q => by have := HIFF.out.2 (q.on (by decide) (by decide)); omega))
    have dl : ((i : Int) == (tt : Int) - 1) = true := beqT hl
    clear hl
    go_wp2_with fail
    go_ret
    exact ⟨by (rw [HE.out]) <;> rfl, HT5.out⟩
  · have HE : Hid (C = 0) := Lib.hid (HC0.out HF.out ⟨fun e => absurd e (by decide), fun e => absurd e (by decide), fun _ _ => HIFF.out.1 (by omega)⟩)
    have dl : ((i : Int) == (tt : Int) - 1) = false := beqF hl
    clear hl
    go_wp2_with fail
    go_ret
    exact ⟨by (rw [HE.out]) <;> rfl, HT5.out⟩
end Go.Proofs.YtjfnoondkgjabaaGreatDoor
