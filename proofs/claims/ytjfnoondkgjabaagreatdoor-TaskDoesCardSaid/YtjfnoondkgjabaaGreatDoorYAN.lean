/-
  The reference's instr: the instructions 24 25 27 g0 g1 g2 no.
  The reference's instr.
  What the reference's Depths leans on: Copy, next with whose memory it is, the places as numbers, a queue's last.
-/
import Derived.Test.YtjfnoondkgjabaaGreatDoorYAM
set_option linter.unusedVariables false
set_option linter.unusedSimpArgs false
namespace Go.Proofs.YtjfnoondkgjabaaGreatDoor
open Go Go.RowKit

set_option maxHeartbeats 64000000 in
set_option maxRecDepth 100000 in
theorem rinstr_24 (pv : Value) (P : Pg) (k i : Nat) (op a b : Int) (w : World) (h : PgV w pv P) (ht : TabOk P) (hk : k < P.n2) (hi1 : fromP P k ≤ i) (hi2 : i < toP P k) (e1 : P.op i = op) (e2 : P.a i = a) (e3 : P.b i = b) (eop : op = 24) : Calls Tryz.prog 22 #[pv, .int .i64 (k : Int), .int .i64 (i : Int)] w (IntQ (insC P k i) w) := by
  have hm : MayP P := ht 0 (by omega)
  have hen : EntOk P k := (show ∀ i, i < P.n2 → EntOk P i from ht 1 (by omega)) k hk
  have hrg : betw 0 16 P.rg := ht 3 (by omega)
  have hl0 : 0 ≤ P.z2 k 2 := Int.le_trans hen.p0 hen.l0
  have hl1 := hen.l1
  obtain ⟨hr0, hr1⟩ := hrg
  obtain ⟨hft1, hft2, hft3⟩ := from_lt ht hk
  obtain ⟨hC27, hC28, hC0⟩ := insC_z (P := P) (k := k) (i := i) e1 e2 e3
  have HC27 := Lib.hid hC27
  have HC28 := Lib.hid hC28
  have HC0 := Lib.hid hC0
  have HTO := Lib.hid ht
  obtain ⟨C, hC⟩ : ∃ z, insC P k i = z := ⟨_, rfl⟩
  rw [hC] at HC27 HC28 HC0 ⊢
  clear hC hC27 hC28 hC0
  obtain ⟨a1, a2, a3, a5, a6, a7, a8, c1, c2, c3, c5, c6, c7, c8, rfl, ho⟩ := h.open
  obtain ⟨m1, m2, m3, m4, m5, m6, m7, m8, m9⟩ := id hm
  have HO := Lib.hid ho
  have HEND : Hid (∀ wz, Touch [] w wz → Calls Tryz.prog 21 #[.agg #[.slice a1 P.n1 c1, .slice a2 P.n2 c2, .slice a3 P.n3 c3, .int .i64 P.rg, .slice a5 P.se.length c5, .slice a6 P.tt.length c6, .slice a7 P.ve.length c7, .slice a8 P.n8 c8, .int .i64 P.cl], .int .i64 (k : Int)] wz (IntQ (toP P k : Int) wz)) := Lib.hid (fun wz htz => rend_any _ P k wz (ho.touch htz).val ht hk)
  have hin1 : i < P.n1 := by omega
  obtain ⟨g1, off1, hg1, xo1⟩ := ho.h1.at3 hin1
  obtain ⟨g, off, hg, xo⟩ := ho.h2.at3 hk
  have hb0 : Blk (w.alloc (.cells #[.slice a1 P.n1 c1, .slice a2 P.n2 c2, .slice a3 P.n3 c3, .int .i64 P.rg, .slice a5 P.se.length c5, .slice a6 P.tt.length c6, .slice a7 P.ve.length c7, .slice a8 P.n8 c8, .int .i64 P.cl] 29)) w.heap.size #[.slice a1 P.n1 c1, .slice a2 P.n2 c2, .slice a3 P.n3 c3, .int .i64 P.rg, .slice a5 P.se.length c5, .slice a6 P.tt.length c6, .slice a7 P.ve.length c7, .slice a8 P.n8 c8, .int .i64 P.cl] 29 := Blk.new rfl
  have hb1 := hb0.alloc (.cells #[.int .i64 op, .int .i64 a, .int .i64 b] 42)
  have hn1 : Blk ((w.alloc (.cells #[.slice a1 P.n1 c1, .slice a2 P.n2 c2, .slice a3 P.n3 c3, .int .i64 P.rg, .slice a5 P.se.length c5, .slice a6 P.tt.length c6, .slice a7 P.ve.length c7, .slice a8 P.n8 c8, .int .i64 P.cl] 29)).alloc (.cells #[.int .i64 op, .int .i64 a, .int .i64 b] 42)) (w.heap.size + 1) #[.int .i64 op, .int .i64 a, .int .i64 b] 42 := Blk.new (by simp)
  have ht1 : Touch [] w (w.alloc (.cells #[.slice a1 P.n1 c1, .slice a2 P.n2 c2, .slice a3 P.n3 c3, .int .i64 P.rg, .slice a5 P.se.length c5, .slice a6 P.tt.length c6, .slice a7 P.ve.length c7, .slice a8 P.n8 c8, .int .i64 P.cl] 29)) := (Touch.refl [] w).alloc _
  have ht2 : Touch [] w ((w.alloc (.cells #[.slice a1 P.n1 c1, .slice a2 P.n2 c2, .slice a3 P.n3 c3, .int .i64 P.rg, .slice a5 P.se.length c5, .slice a6 P.tt.length c6, .slice a7 P.ve.length c7, .slice a8 P.n8 c8, .int .i64 P.cl] 29)).alloc (.cells #[.int .i64 op, .int .i64 a, .int .i64 b] 42)) := ((Touch.refl [] w).alloc _).alloc _
  have xi := xo1 _ ht1
  rw [show P.z1 i 0 = op from e1, show P.z1 i 1 = a from e2, show P.z1 i 2 = b from e3] at xi
  obtain ⟨x0, x1, x2⟩ := xi
  obtain ⟨W2, hW2⟩ : ∃ x, ((w.alloc (.cells #[.slice a1 P.n1 c1, .slice a2 P.n2 c2, .slice a3 P.n3 c3, .int .i64 P.rg, .slice a5 P.se.length c5, .slice a6 P.tt.length c6, .slice a7 P.ve.length c7, .slice a8 P.n8 c8, .int .i64 P.cl] 29)).alloc (.cells #[.int .i64 op, .int .i64 a, .int .i64 b] 42)) = x := ⟨_, rfl⟩
  rw [hW2] at hb1 hn1 ht2
  have HW2 := Lib.hid hW2
  have HT2 := Lib.hid ht2
  have HN1 := Lib.hid hn1
  have HB1 := Lib.hid hb1
  have HXO : Hid (∀ w', Touch [] w w' → w'.cell? ⟨g, off + k * 3, none⟩ = some (.int .i64 (fromP P k : Int)) ∧ w'.cell? ⟨g, off + k * 3 + 2, none⟩ = some (.int .i64 (P.z2 k 2))) := Lib.hid (fun w' h => ⟨by rw [hft3]; exact (xo w' h).1, (xo w' h).2.2⟩)
  have b0 := hb0.cell (i := 0) rfl
  have q0 := hn1.cell (i := 0) rfl
  have im0 : (0 : Int) ≤ (k : Int) := by omega
  have im1 : (k : Int) < (P.n2 : Int) := by omega
  have ii0 : (0 : Int) ≤ (i : Int) := by omega
  have ii1 : (i : Int) < (P.n1 : Int) := by omega
  have HGG := Lib.hid hg
  have HGI : Hid ((fromP P k : Int) ≤ (i : Int) ∧ (i : Int) < (toP P k : Int) ∧ (toP P k : Int) ≤ 5000) := Lib.hid ⟨by omega, by omega, by omega⟩
  have HIFF : Hid ((i : Int) + 1 < (toP P k : Int) ↔ i + 1 < toP P k) := Lib.hid (by omega)
  subst hg1
  obtain ⟨fr, hfr⟩ : ∃ z, fromP P k = z := ⟨_, rfl⟩
  obtain ⟨tt, htt⟩ : ∃ z, toP P k = z := ⟨_, rfl⟩
  rw [hfr] at HC28 HC0 HXO HGI
  rw [htt] at HC28 HC0 HGI HEND HIFF
  obtain ⟨hgi1, hgi2, hgi3⟩ := HGI.out
  have HNM : Hid (∀ wz, Calls Tryz.prog 51 #[.int .i64 op] wz (StrP (nmZ op) wz)) := Lib.hid (fun wz => rname_any op wz)
  have HOP : Hid (∀ wz, Calls Tryz.prog 52 #[.int .i64 op] wz fun e w' => e = .returned (.int .i64 (opZ op)) ∧ wz = w') := Lib.hid (fun wz => roperands_any op wz)
  obtain ⟨nm, hnm⟩ : ∃ z, nmZ op = z := ⟨_, rfl⟩
  have HNN := Lib.hid hnm
  rw [hnm] at HNM
  clear h ht hm hen ho hb0 hb1 hn1 ht1 ht2 hW2 xo xo1 hg hft1 hft2 hft3 hfr htt hnm hi1 hi2 e1 e2 e3 hin1
  subst eop
  have el : limN P k 24 = -1 := lim_none (by decide)
  have HNV : Hid (opZ 24 = 1) := Lib.hid (by decide)
  have ei : isZ 24 = true := by decide
  have hne : ¬ nm = ByteArray.empty := by rw [← HNN.out]; exact nm_ne ei
  have dn : nm.toList.isEmpty = false := emF7 hne
  have HFZ : Hid (FitZ P k 24 a b ↔ b = 0) := Lib.hid ⟨fun h => h.b0 (by rw [HNV.out]; decide), fun h => ⟨ei, fun _ => h, fun e => absurd e (by rw [HNV.out]; decide), fun e => absurd e (by rw [el]; decide), fun e => absurd e (by decide)⟩⟩
  clear el ei hne
  go_enter Tryz.func22, Tryz.ntmps22
  go_wp2_with fail
  rw [HW2.out]
  refine (HNM.out _).mono ?_
  rintro e w3 ⟨rfl, ht3⟩
  have hn3 := HN1.out.touch ht3 (by simp)
  have hb3 := HB1.out.touch ht3 (by simp)
  have HT3 := Lib.hid (HT2.out.trans ht3)
  have HN3 := Lib.hid hn3
  have HB3 := Lib.hid hb3
  clear q0 b0 x0 x1 x2 ht3
  have q0 := hn3.cell (i := 0) rfl
  have q1 := hn3.cell (i := 1) rfl
  have q2 := hn3.cell (i := 2) rfl
  have b1 := hb3.cell (i := 1) rfl
  have b2 := hb3.cell (i := 2) rfl
  have b3 := hb3.cell (i := 3) rfl
  have b4 := hb3.cell (i := 4) rfl
  have b6 := hb3.cell (i := 6) rfl
  have b7 := hb3.cell (i := 7) rfl
  clear hn3 hb3
  go_wp2_with fail
  refine (HOP.out _).mono ?_
  rintro e w4 ⟨rfl, rfl⟩
  rw [HNV.out]
  by_cases hb : ¬ b = 0
  · have HE : Hid (C = 27) := Lib.hid (HC27.out (fun q => hb ((HFZ.out.1 q))))
    have db : (b != 0) = true := bneT hb
    clear hb
    go_wp2_with fail
    go_ret
    exact ⟨by (rw [HE.out]) <;> rfl, HT3.out⟩
  have hb : b = 0 := Decidable.not_not.1 hb
  subst hb
  go_wp2_with fail
  refine (HOP.out _).mono ?_
  rintro e w4 ⟨rfl, rfl⟩
  rw [HNV.out]
  have HF : Hid (FitZ P k 24 a 0) := Lib.hid (HFZ.out.2 (by first | rfl | trivial))
  have hgg := HGG.out
  subst hgg
  have XF : ∀ q : Later w3, q.world.cell? ⟨g, off + k * 3, none⟩ = some (.int .i64 (fr : Int)) := fun q => (HXO.out _ (HT3.out.trans q.ok)).1
  have B0 : ∀ q : Later w3, q.world.cell? ⟨w.heap.size, 0, none⟩ = some (.slice (some ⟨g1, off1, none⟩) P.n1 c1) := fun q => (HB3.out.touch q.ok (by simp)).cell rfl
  have B1 : ∀ q : Later w3, q.world.cell? ⟨w.heap.size, 1, none⟩ = some (.slice (some ⟨g, off, none⟩) P.n2 c2) := fun q => (HB3.out.touch q.ok (by simp)).cell rfl
  have B2 : ∀ q : Later w3, q.world.cell? ⟨w.heap.size, 2, none⟩ = some (.slice a3 P.n3 c3) := fun q => (HB3.out.touch q.ok (by simp)).cell rfl
  have B3 : ∀ q : Later w3, q.world.cell? ⟨w.heap.size, 3, none⟩ = some (.int .i64 P.rg) := fun q => (HB3.out.touch q.ok (by simp)).cell rfl
  have B4 : ∀ q : Later w3, q.world.cell? ⟨w.heap.size, 4, none⟩ = some (.slice a5 P.se.length c5) := fun q => (HB3.out.touch q.ok (by simp)).cell rfl
  have B5 : ∀ q : Later w3, q.world.cell? ⟨w.heap.size, 5, none⟩ = some (.slice a6 P.tt.length c6) := fun q => (HB3.out.touch q.ok (by simp)).cell rfl
  have B6 : ∀ q : Later w3, q.world.cell? ⟨w.heap.size, 6, none⟩ = some (.slice a7 P.ve.length c7) := fun q => (HB3.out.touch q.ok (by simp)).cell rfl
  have B7 : ∀ q : Later w3, q.world.cell? ⟨w.heap.size, 7, none⟩ = some (.slice a8 P.n8 c8) := fun q => (HB3.out.touch q.ok (by simp)).cell rfl
  have B8 : ∀ q : Later w3, q.world.cell? ⟨w.heap.size, 8, none⟩ = some (.int .i64 P.cl) := fun q => (HB3.out.touch q.ok (by simp)).cell rfl
  have HTE := Lib.hid HT3.out
  go_wp2_with fail
  refine wp_region_later (by kernel_rfl) (by kernel_rfl) ?_
  repeat (first
    | (go_big_quiet_step ((first | (with_reducible rfl) | (with_reducible exact Later.met (HEND.out _ (HTE.out.trans (Later.ok _)))))))
    | (quiet_step (fail)))
  refine wpQuiet_nil ?_
  intro wq hw'
  obtain ⟨⟨wq', hwq⟩, hwe⟩ := hw'
  have hwe : wq = wq' := hwe
  subst hwe
  have hn5 := HN3.out.touch hwq (by simp)
  have HT5 := Lib.hid (HT3.out.trans hwq)
  clear hwe hwq XF B0 B1 B2 B3 B4 B5 B6 B7 B8 q0 q1 q2 b1 b2 b3 b4 b6 b7
  have q0 := hn5.cell (i := 0) rfl
  have q1 := hn5.cell (i := 1) rfl
  have q2 := hn5.cell (i := 2) rfl
  clear hn5
  go_wp2_with fail
  refine (rin_any _ _ _ _).mono ?_
  rintro e w6 ⟨rfl, rfl⟩
  by_cases hj : ¬ ((fr : Int) ≤ a ∧ a ≤ (tt : Int) - 1)
  · have HE : Hid (C = 28) := Lib.hid (HC28.out HF.out (fun q => hj (by have := q.jump (by decide); omega)))
    rw [decide_eq_false hj]
    clear hj
    go_wp2_with fail
    go_ret
    exact ⟨by (rw [HE.out]) <;> rfl, HT5.out⟩
  have hj := Decidable.not_not.1 hj
  have HJ := Lib.hid hj
  rw [decide_eq_true hj]
  clear hj
  by_cases hl : (i : Int) = (tt : Int) - 1
  · have HE : Hid (C = 0) := Lib.hid (HC0.out HF.out ⟨fun _ => by have := HJ.out; omega, fun e => absurd e (by decide), fun e => absurd rfl e⟩)
    have dl : ((i : Int) == (tt : Int) - 1) = true := beqT hl
    clear hl
    go_wp2_with fail
    go_ret
    exact ⟨by (rw [HE.out]) <;> rfl, HT5.out⟩
  · have HE : Hid (C = 0) := Lib.hid (HC0.out HF.out ⟨fun _ => by have := HJ.out; omega, fun e => absurd e (by decide), fun e => absurd rfl e⟩)
    have dl : ((i : Int) == (tt : Int) - 1) = false := beqF hl
    clear hl
    go_wp2_with fail
    go_ret
    exact ⟨by (rw [HE.out]) <;> rfl, HT5.out⟩
set_option maxHeartbeats 64000000 in
set_option maxRecDepth 100000 in
theorem rinstr_25 (pv : Value) (P : Pg) (k i : Nat) (op a b : Int) (w : World) (h : PgV w pv P) (ht : TabOk P) (hk : k < P.n2) (hi1 : fromP P k ≤ i) (hi2 : i < toP P k) (e1 : P.op i = op) (e2 : P.a i = a) (e3 : P.b i = b) (eop : op = 25) : Calls Tryz.prog 22 #[pv, .int .i64 (k : Int), .int .i64 (i : Int)] w (IntQ (insC P k i) w) := by
  have hm : MayP P := ht 0 (by omega)
  have hen : EntOk P k := (show ∀ i, i < P.n2 → EntOk P i from ht 1 (by omega)) k hk
  have hrg : betw 0 16 P.rg := ht 3 (by omega)
  have hl0 : 0 ≤ P.z2 k 2 := Int.le_trans hen.p0 hen.l0
  have hl1 := hen.l1
  obtain ⟨hr0, hr1⟩ := hrg
  obtain ⟨hft1, hft2, hft3⟩ := from_lt ht hk
  obtain ⟨hC27, hC28, hC0⟩ := insC_z (P := P) (k := k) (i := i) e1 e2 e3
  have HC27 := Lib.hid hC27
  have HC28 := Lib.hid hC28
  have HC0 := Lib.hid hC0
  have HTO := Lib.hid ht
  obtain ⟨C, hC⟩ : ∃ z, insC P k i = z := ⟨_, rfl⟩
  rw [hC] at HC27 HC28 HC0 ⊢
  clear hC hC27 hC28 hC0
  obtain ⟨a1, a2, a3, a5, a6, a7, a8, c1, c2, c3, c5, c6, c7, c8, rfl, ho⟩ := h.open
  obtain ⟨m1, m2, m3, m4, m5, m6, m7, m8, m9⟩ := id hm
  have HO := Lib.hid ho
  have HEND : Hid (∀ wz, Touch [] w wz → Calls Tryz.prog 21 #[.agg #[.slice a1 P.n1 c1, .slice a2 P.n2 c2, .slice a3 P.n3 c3, .int .i64 P.rg, .slice a5 P.se.length c5, .slice a6 P.tt.length c6, .slice a7 P.ve.length c7, .slice a8 P.n8 c8, .int .i64 P.cl], .int .i64 (k : Int)] wz (IntQ (toP P k : Int) wz)) := Lib.hid (fun wz htz => rend_any _ P k wz (ho.touch htz).val ht hk)
  have hin1 : i < P.n1 := by omega
  obtain ⟨g1, off1, hg1, xo1⟩ := ho.h1.at3 hin1
  obtain ⟨g, off, hg, xo⟩ := ho.h2.at3 hk
  have hb0 : Blk (w.alloc (.cells #[.slice a1 P.n1 c1, .slice a2 P.n2 c2, .slice a3 P.n3 c3, .int .i64 P.rg, .slice a5 P.se.length c5, .slice a6 P.tt.length c6, .slice a7 P.ve.length c7, .slice a8 P.n8 c8, .int .i64 P.cl] 29)) w.heap.size #[.slice a1 P.n1 c1, .slice a2 P.n2 c2, .slice a3 P.n3 c3, .int .i64 P.rg, .slice a5 P.se.length c5, .slice a6 P.tt.length c6, .slice a7 P.ve.length c7, .slice a8 P.n8 c8, .int .i64 P.cl] 29 := Blk.new rfl
  have hb1 := hb0.alloc (.cells #[.int .i64 op, .int .i64 a, .int .i64 b] 42)
  have hn1 : Blk ((w.alloc (.cells #[.slice a1 P.n1 c1, .slice a2 P.n2 c2, .slice a3 P.n3 c3, .int .i64 P.rg, .slice a5 P.se.length c5, .slice a6 P.tt.length c6, .slice a7 P.ve.length c7, .slice a8 P.n8 c8, .int .i64 P.cl] 29)).alloc (.cells #[.int .i64 op, .int .i64 a, .int .i64 b] 42)) (w.heap.size + 1) #[.int .i64 op, .int .i64 a, .int .i64 b] 42 := Blk.new (by simp)
  have ht1 : Touch [] w (w.alloc (.cells #[.slice a1 P.n1 c1, .slice a2 P.n2 c2, .slice a3 P.n3 c3, .int .i64 P.rg, .slice a5 P.se.length c5, .slice a6 P.tt.length c6, .slice a7 P.ve.length c7, .slice a8 P.n8 c8, .int .i64 P.cl] 29)) := (Touch.refl [] w).alloc _
  have ht2 : Touch [] w ((w.alloc (.cells #[.slice a1 P.n1 c1, .slice a2 P.n2 c2, .slice a3 P.n3 c3, .int .i64 P.rg, .slice a5 P.se.length c5, .slice a6 P.tt.length c6, .slice a7 P.ve.length c7, .slice a8 P.n8 c8, .int .i64 P.cl] 29)).alloc (.cells #[.int .i64 op, .int .i64 a, .int .i64 b] 42)) := ((Touch.refl [] w).alloc _).alloc _
  have xi := xo1 _ ht1
  rw [show P.z1 i 0 = op from e1, show P.z1 i 1 = a from e2, show P.z1 i 2 = b from e3] at xi
  obtain ⟨x0, x1, x2⟩ := xi
  obtain ⟨W2, hW2⟩ : ∃ x, ((w.alloc (.cells #[.slice a1 P.n1 c1, .slice a2 P.n2 c2, .slice a3 P.n3 c3, .int .i64 P.rg, .slice a5 P.se.length c5, .slice a6 P.tt.length c6, .slice a7 P.ve.length c7, .slice a8 P.n8 c8, .int .i64 P.cl] 29)).alloc (.cells #[.int .i64 op, .int .i64 a, .int .i64 b] 42)) = x := ⟨_, rfl⟩
  rw [hW2] at hb1 hn1 ht2
  have HW2 := Lib.hid hW2
  have HT2 := Lib.hid ht2
  have HN1 := Lib.hid hn1
  have HB1 := Lib.hid hb1
  have HXO : Hid (∀ w', Touch [] w w' → w'.cell? ⟨g, off + k * 3, none⟩ = some (.int .i64 (fromP P k : Int)) ∧ w'.cell? ⟨g, off + k * 3 + 2, none⟩ = some (.int .i64 (P.z2 k 2))) := Lib.hid (fun w' h => ⟨by rw [hft3]; exact (xo w' h).1, (xo w' h).2.2⟩)
  have b0 := hb0.cell (i := 0) rfl
  have q0 := hn1.cell (i := 0) rfl
  have im0 : (0 : Int) ≤ (k : Int) := by omega
  have im1 : (k : Int) < (P.n2 : Int) := by omega
  have ii0 : (0 : Int) ≤ (i : Int) := by omega
  have ii1 : (i : Int) < (P.n1 : Int) := by omega
  have HGG := Lib.hid hg
  have HGI : Hid ((fromP P k : Int) ≤ (i : Int) ∧ (i : Int) < (toP P k : Int) ∧ (toP P k : Int) ≤ 5000) := Lib.hid ⟨by omega, by omega, by omega⟩
  have HIFF : Hid ((i : Int) + 1 < (toP P k : Int) ↔ i + 1 < toP P k) := Lib.hid (by omega)
  subst hg1
  obtain ⟨fr, hfr⟩ : ∃ z, fromP P k = z := ⟨_, rfl⟩
  obtain ⟨tt, htt⟩ : ∃ z, toP P k = z := ⟨_, rfl⟩
  rw [hfr] at HC28 HC0 HXO HGI
  rw [htt] at HC28 HC0 HGI HEND HIFF
  obtain ⟨hgi1, hgi2, hgi3⟩ := HGI.out
  have HNM : Hid (∀ wz, Calls Tryz.prog 51 #[.int .i64 op] wz (StrP (nmZ op) wz)) := Lib.hid (fun wz => rname_any op wz)
  have HOP : Hid (∀ wz, Calls Tryz.prog 52 #[.int .i64 op] wz fun e w' => e = .returned (.int .i64 (opZ op)) ∧ wz = w') := Lib.hid (fun wz => roperands_any op wz)
  obtain ⟨nm, hnm⟩ : ∃ z, nmZ op = z := ⟨_, rfl⟩
  have HNN := Lib.hid hnm
  rw [hnm] at HNM
  clear h ht hm hen ho hb0 hb1 hn1 ht1 ht2 hW2 xo xo1 hg hft1 hft2 hft3 hfr htt hnm hi1 hi2 e1 e2 e3 hin1
  subst eop
  have el : limN P k 25 = -1 := lim_none (by decide)
  have HNV : Hid (opZ 25 = 1) := Lib.hid (by decide)
  have ei : isZ 25 = true := by decide
  have hne : ¬ nm = ByteArray.empty := by rw [← HNN.out]; exact nm_ne ei
  have dn : nm.toList.isEmpty = false := emF7 hne
  have HFZ : Hid (FitZ P k 25 a b ↔ b = 0) := Lib.hid ⟨fun h => h.b0 (by rw [HNV.out]; decide), fun h => ⟨ei, fun _ => h, fun e => absurd e (by rw [HNV.out]; decide), fun e => absurd e (by rw [el]; decide), fun e => absurd e (by decide)⟩⟩
  clear el ei hne
  go_enter Tryz.func22, Tryz.ntmps22
  go_wp2_with fail
  rw [HW2.out]
  refine (HNM.out _).mono ?_
  rintro e w3 ⟨rfl, ht3⟩
  have hn3 := HN1.out.touch ht3 (by simp)
  have hb3 := HB1.out.touch ht3 (by simp)
  have HT3 := Lib.hid (HT2.out.trans ht3)
  have HN3 := Lib.hid hn3
  have HB3 := Lib.hid hb3
  clear q0 b0 x0 x1 x2 ht3
  have q0 := hn3.cell (i := 0) rfl
  have q1 := hn3.cell (i := 1) rfl
  have q2 := hn3.cell (i := 2) rfl
  have b1 := hb3.cell (i := 1) rfl
  have b2 := hb3.cell (i := 2) rfl
  have b3 := hb3.cell (i := 3) rfl
  have b4 := hb3.cell (i := 4) rfl
  have b6 := hb3.cell (i := 6) rfl
  have b7 := hb3.cell (i := 7) rfl
  clear hn3 hb3
  go_wp2_with fail
  refine (HOP.out _).mono ?_
  rintro e w4 ⟨rfl, rfl⟩
  rw [HNV.out]
  by_cases hb : ¬ b = 0
  · have HE : Hid (C = 27) := Lib.hid (HC27.out (fun q => hb ((HFZ.out.1 q))))
    have db : (b != 0) = true := bneT hb
    clear hb
    go_wp2_with fail
    go_ret
    exact ⟨by (rw [HE.out]) <;> rfl, HT3.out⟩
  have hb : b = 0 := Decidable.not_not.1 hb
  subst hb
  go_wp2_with fail
  refine (HOP.out _).mono ?_
  rintro e w4 ⟨rfl, rfl⟩
  rw [HNV.out]
  have HF : Hid (FitZ P k 25 a 0) := Lib.hid (HFZ.out.2 (by first | rfl | trivial))
  have hgg := HGG.out
  subst hgg
  have XF : ∀ q : Later w3, q.world.cell? ⟨g, off + k * 3, none⟩ = some (.int .i64 (fr : Int)) := fun q => (HXO.out _ (HT3.out.trans q.ok)).1
  have B0 : ∀ q : Later w3, q.world.cell? ⟨w.heap.size, 0, none⟩ = some (.slice (some ⟨g1, off1, none⟩) P.n1 c1) := fun q => (HB3.out.touch q.ok (by simp)).cell rfl
  have B1 : ∀ q : Later w3, q.world.cell? ⟨w.heap.size, 1, none⟩ = some (.slice (some ⟨g, off, none⟩) P.n2 c2) := fun q => (HB3.out.touch q.ok (by simp)).cell rfl
  have B2 : ∀ q : Later w3, q.world.cell? ⟨w.heap.size, 2, none⟩ = some (.slice a3 P.n3 c3) := fun q => (HB3.out.touch q.ok (by simp)).cell rfl
  have B3 : ∀ q : Later w3, q.world.cell? ⟨w.heap.size, 3, none⟩ = some (.int .i64 P.rg) := fun q => (HB3.out.touch q.ok (by simp)).cell rfl
  have B4 : ∀ q : Later w3, q.world.cell? ⟨w.heap.size, 4, none⟩ = some (.slice a5 P.se.length c5) := fun q => (HB3.out.touch q.ok (by simp)).cell rfl
  have B5 : ∀ q : Later w3, q.world.cell? ⟨w.heap.size, 5, none⟩ = some (.slice a6 P.tt.length c6) := fun q => (HB3.out.touch q.ok (by simp)).cell rfl
  have B6 : ∀ q : Later w3, q.world.cell? ⟨w.heap.size, 6, none⟩ = some (.slice a7 P.ve.length c7) := fun q => (HB3.out.touch q.ok (by simp)).cell rfl
  have B7 : ∀ q : Later w3, q.world.cell? ⟨w.heap.size, 7, none⟩ = some (.slice a8 P.n8 c8) := fun q => (HB3.out.touch q.ok (by simp)).cell rfl
  have B8 : ∀ q : Later w3, q.world.cell? ⟨w.heap.size, 8, none⟩ = some (.int .i64 P.cl) := fun q => (HB3.out.touch q.ok (by simp)).cell rfl
  have HTE := Lib.hid HT3.out
  go_wp2_with fail
  refine wp_region_later (by kernel_rfl) (by kernel_rfl) ?_
  repeat (first
    | (go_big_quiet_step ((first | (with_reducible rfl) | (with_reducible exact Later.met (HEND.out _ (HTE.out.trans (Later.ok _)))))))
    | (quiet_step (fail)))
  refine wpQuiet_nil ?_
  intro wq hw'
  obtain ⟨⟨wq', hwq⟩, hwe⟩ := hw'
  have hwe : wq = wq' := hwe
  subst hwe
  have hn5 := HN3.out.touch hwq (by simp)
  have HT5 := Lib.hid (HT3.out.trans hwq)
  clear hwe hwq XF B0 B1 B2 B3 B4 B5 B6 B7 B8 q0 q1 q2 b1 b2 b3 b4 b6 b7
  have q0 := hn5.cell (i := 0) rfl
  have q1 := hn5.cell (i := 1) rfl
  have q2 := hn5.cell (i := 2) rfl
  clear hn5
  go_wp2_with fail
  refine (rin_any _ _ _ _).mono ?_
  rintro e w6 ⟨rfl, rfl⟩
  by_cases hj : ¬ ((fr : Int) ≤ a ∧ a ≤ (tt : Int) - 1)
  · have HE : Hid (C = 28) := Lib.hid (HC28.out HF.out (fun q => hj (by have := q.jump (by decide); omega)))
    rw [decide_eq_false hj]
    clear hj
    go_wp2_with fail
    go_ret
    exact ⟨by (rw [HE.out]) <;> rfl, HT5.out⟩
  have hj := Decidable.not_not.1 hj
  have HJ := Lib.hid hj
  rw [decide_eq_true hj]
  clear hj
  by_cases hl : (i : Int) = (tt : Int) - 1
  · have HE : Hid (C = 28) := Lib.hid (HC28.out HF.out (fun q => by have := HIFF.out.2 (q.on (by decide) (by decide)); omega))
    have dl : ((i : Int) == (tt : Int) - 1) = true := beqT hl
    clear hl
    go_wp2_with fail
    go_ret
    exact ⟨by (rw [HE.out]) <;> rfl, HT5.out⟩
  · have HE : Hid (C = 0) := Lib.hid (HC0.out HF.out ⟨fun _ => by have := HJ.out; omega, fun e => absurd e (by decide), fun _ _ => HIFF.out.1 (by omega)⟩)
    have dl : ((i : Int) == (tt : Int) - 1) = false := beqF hl
    clear hl
    go_wp2_with fail
    go_ret
    exact ⟨by (rw [HE.out]) <;> rfl, HT5.out⟩
set_option maxHeartbeats 64000000 in
set_option maxRecDepth 100000 in
theorem rinstr_27 (pv : Value) (P : Pg) (k i : Nat) (op a b : Int) (w : World) (h : PgV w pv P) (ht : TabOk P) (hk : k < P.n2) (hi1 : fromP P k ≤ i) (hi2 : i < toP P k) (e1 : P.op i = op) (e2 : P.a i = a) (e3 : P.b i = b) (eop : op = 27) : Calls Tryz.prog 22 #[pv, .int .i64 (k : Int), .int .i64 (i : Int)] w (IntQ (insC P k i) w) := by
  have hm : MayP P := ht 0 (by omega)
  have hen : EntOk P k := (show ∀ i, i < P.n2 → EntOk P i from ht 1 (by omega)) k hk
  have hrg : betw 0 16 P.rg := ht 3 (by omega)
  have hl0 : 0 ≤ P.z2 k 2 := Int.le_trans hen.p0 hen.l0
  have hl1 := hen.l1
  obtain ⟨hr0, hr1⟩ := hrg
  obtain ⟨hft1, hft2, hft3⟩ := from_lt ht hk
  obtain ⟨hC27, hC28, hC0⟩ := insC_z (P := P) (k := k) (i := i) e1 e2 e3
  have HC27 := Lib.hid hC27
  have HC28 := Lib.hid hC28
  have HC0 := Lib.hid hC0
  have HTO := Lib.hid ht
  obtain ⟨C, hC⟩ : ∃ z, insC P k i = z := ⟨_, rfl⟩
  rw [hC] at HC27 HC28 HC0 ⊢
  clear hC hC27 hC28 hC0
  obtain ⟨a1, a2, a3, a5, a6, a7, a8, c1, c2, c3, c5, c6, c7, c8, rfl, ho⟩ := h.open
  obtain ⟨m1, m2, m3, m4, m5, m6, m7, m8, m9⟩ := id hm
  have HO := Lib.hid ho
  have HEND : Hid (∀ wz, Touch [] w wz → Calls Tryz.prog 21 #[.agg #[.slice a1 P.n1 c1, .slice a2 P.n2 c2, .slice a3 P.n3 c3, .int .i64 P.rg, .slice a5 P.se.length c5, .slice a6 P.tt.length c6, .slice a7 P.ve.length c7, .slice a8 P.n8 c8, .int .i64 P.cl], .int .i64 (k : Int)] wz (IntQ (toP P k : Int) wz)) := Lib.hid (fun wz htz => rend_any _ P k wz (ho.touch htz).val ht hk)
  have hin1 : i < P.n1 := by omega
  obtain ⟨g1, off1, hg1, xo1⟩ := ho.h1.at3 hin1
  obtain ⟨g, off, hg, xo⟩ := ho.h2.at3 hk
  have hb0 : Blk (w.alloc (.cells #[.slice a1 P.n1 c1, .slice a2 P.n2 c2, .slice a3 P.n3 c3, .int .i64 P.rg, .slice a5 P.se.length c5, .slice a6 P.tt.length c6, .slice a7 P.ve.length c7, .slice a8 P.n8 c8, .int .i64 P.cl] 29)) w.heap.size #[.slice a1 P.n1 c1, .slice a2 P.n2 c2, .slice a3 P.n3 c3, .int .i64 P.rg, .slice a5 P.se.length c5, .slice a6 P.tt.length c6, .slice a7 P.ve.length c7, .slice a8 P.n8 c8, .int .i64 P.cl] 29 := Blk.new rfl
  have hb1 := hb0.alloc (.cells #[.int .i64 op, .int .i64 a, .int .i64 b] 42)
  have hn1 : Blk ((w.alloc (.cells #[.slice a1 P.n1 c1, .slice a2 P.n2 c2, .slice a3 P.n3 c3, .int .i64 P.rg, .slice a5 P.se.length c5, .slice a6 P.tt.length c6, .slice a7 P.ve.length c7, .slice a8 P.n8 c8, .int .i64 P.cl] 29)).alloc (.cells #[.int .i64 op, .int .i64 a, .int .i64 b] 42)) (w.heap.size + 1) #[.int .i64 op, .int .i64 a, .int .i64 b] 42 := Blk.new (by simp)
  have ht1 : Touch [] w (w.alloc (.cells #[.slice a1 P.n1 c1, .slice a2 P.n2 c2, .slice a3 P.n3 c3, .int .i64 P.rg, .slice a5 P.se.length c5, .slice a6 P.tt.length c6, .slice a7 P.ve.length c7, .slice a8 P.n8 c8, .int .i64 P.cl] 29)) := (Touch.refl [] w).alloc _
  have ht2 : Touch [] w ((w.alloc (.cells #[.slice a1 P.n1 c1, .slice a2 P.n2 c2, .slice a3 P.n3 c3, .int .i64 P.rg, .slice a5 P.se.length c5, .slice a6 P.tt.length c6, .slice a7 P.ve.length c7, .slice a8 P.n8 c8, .int .i64 P.cl] 29)).alloc (.cells #[.int .i64 op, .int .i64 a, .int .i64 b] 42)) := ((Touch.refl [] w).alloc _).alloc _
  have xi := xo1 _ ht1
  rw [show P.z1 i 0 = op from e1, show P.z1 i 1 = a from e2, show P.z1 i 2 = b from e3] at xi
  obtain ⟨x0, x1, x2⟩ := xi
  obtain ⟨W2, hW2⟩ : ∃ x, ((w.alloc (.cells #[.slice a1 P.n1 c1, .slice a2 P.n2 c2, .slice a3 P.n3 c3, .int .i64 P.rg, .slice a5 P.se.length c5, .slice a6 P.tt.length c6, .slice a7 P.ve.length c7, .slice a8 P.n8 c8, .int .i64 P.cl] 29)).alloc (.cells #[.int .i64 op, .int .i64 a, .int .i64 b] 42)) = x := ⟨_, rfl⟩
  rw [hW2] at hb1 hn1 ht2
  have HW2 := Lib.hid hW2
  have HT2 := Lib.hid ht2
  have HN1 := Lib.hid hn1
  have HB1 := Lib.hid hb1
  have HXO : Hid (∀ w', Touch [] w w' → w'.cell? ⟨g, off + k * 3, none⟩ = some (.int .i64 (fromP P k : Int)) ∧ w'.cell? ⟨g, off + k * 3 + 2, none⟩ = some (.int .i64 (P.z2 k 2))) := Lib.hid (fun w' h => ⟨by rw [hft3]; exact (xo w' h).1, (xo w' h).2.2⟩)
  have b0 := hb0.cell (i := 0) rfl
  have q0 := hn1.cell (i := 0) rfl
  have im0 : (0 : Int) ≤ (k : Int) := by omega
  have im1 : (k : Int) < (P.n2 : Int) := by omega
  have ii0 : (0 : Int) ≤ (i : Int) := by omega
  have ii1 : (i : Int) < (P.n1 : Int) := by omega
  have HGG := Lib.hid hg
  have HGI : Hid ((fromP P k : Int) ≤ (i : Int) ∧ (i : Int) < (toP P k : Int) ∧ (toP P k : Int) ≤ 5000) := Lib.hid ⟨by omega, by omega, by omega⟩
  have HIFF : Hid ((i : Int) + 1 < (toP P k : Int) ↔ i + 1 < toP P k) := Lib.hid (by omega)
  subst hg1
  obtain ⟨fr, hfr⟩ : ∃ z, fromP P k = z := ⟨_, rfl⟩
  obtain ⟨tt, htt⟩ : ∃ z, toP P k = z := ⟨_, rfl⟩
  rw [hfr] at HC28 HC0 HXO HGI
  rw [htt] at HC28 HC0 HGI HEND HIFF
  obtain ⟨hgi1, hgi2, hgi3⟩ := HGI.out
  have HNM : Hid (∀ wz, Calls Tryz.prog 51 #[.int .i64 op] wz (StrP (nmZ op) wz)) := Lib.hid (fun wz => rname_any op wz)
  have HOP : Hid (∀ wz, Calls Tryz.prog 52 #[.int .i64 op] wz fun e w' => e = .returned (.int .i64 (opZ op)) ∧ wz = w') := Lib.hid (fun wz => roperands_any op wz)
  obtain ⟨nm, hnm⟩ : ∃ z, nmZ op = z := ⟨_, rfl⟩
  have HNN := Lib.hid hnm
  rw [hnm] at HNM
  clear h ht hm hen ho hb0 hb1 hn1 ht1 ht2 hW2 xo xo1 hg hft1 hft2 hft3 hfr htt hnm hi1 hi2 e1 e2 e3 hin1
  subst eop
  have el : limN P k 27 = -1 := lim_none (by decide)
  have HNV : Hid (opZ 27 = 0) := Lib.hid (by decide)
  have ei : isZ 27 = true := by decide
  have hne : ¬ nm = ByteArray.empty := by rw [← HNN.out]; exact nm_ne ei
  have dn : nm.toList.isEmpty = false := emF7 hne
  have HFZ : Hid (FitZ P k 27 a b ↔ (b = 0 ∧ a = 0)) := Lib.hid ⟨fun h => ⟨h.b0 (by rw [HNV.out]; decide), h.a0 (by rw [HNV.out]; decide)⟩, fun h => ⟨ei, fun _ => h.1, fun _ => h.2, fun e => absurd e (by rw [el]; decide), fun e => absurd e (by decide)⟩⟩
  clear el ei hne
  go_enter Tryz.func22, Tryz.ntmps22
  go_wp2_with fail
  rw [HW2.out]
  refine (HNM.out _).mono ?_
  rintro e w3 ⟨rfl, ht3⟩
  have hn3 := HN1.out.touch ht3 (by simp)
  have hb3 := HB1.out.touch ht3 (by simp)
  have HT3 := Lib.hid (HT2.out.trans ht3)
  have HN3 := Lib.hid hn3
  have HB3 := Lib.hid hb3
  clear q0 b0 x0 x1 x2 ht3
  have q0 := hn3.cell (i := 0) rfl
  have q1 := hn3.cell (i := 1) rfl
  have q2 := hn3.cell (i := 2) rfl
  have b1 := hb3.cell (i := 1) rfl
  have b2 := hb3.cell (i := 2) rfl
  have b3 := hb3.cell (i := 3) rfl
  have b4 := hb3.cell (i := 4) rfl
  have b6 := hb3.cell (i := 6) rfl
  have b7 := hb3.cell (i := 7) rfl
  clear hn3 hb3
  go_wp2_with fail
  refine (HOP.out _).mono ?_
  rintro e w4 ⟨rfl, rfl⟩
  rw [HNV.out]
  by_cases hb : ¬ b = 0
  · have HE : Hid (C = 27) := Lib.hid (HC27.out (fun q => hb ((HFZ.out.1 q).1)))
    have db : (b != 0) = true := bneT hb
    clear hb
    go_wp2_with fail
    go_ret
    exact ⟨by (rw [HE.out]) <;> rfl, HT3.out⟩
  have hb : b = 0 := Decidable.not_not.1 hb
  subst hb
  go_wp2_with fail
  refine (HOP.out _).mono ?_
  rintro e w4 ⟨rfl, rfl⟩
  rw [HNV.out]
  by_cases ha : ¬ a = 0
  · have HE : Hid (C = 27) := Lib.hid (HC27.out (fun q => ha ((HFZ.out.1 q).2)))
    have da : (a != 0) = true := bneT ha
    clear ha
    go_wp2_with fail
    go_ret
    exact ⟨by (rw [HE.out]) <;> rfl, HT3.out⟩
  have ha : a = 0 := Decidable.not_not.1 ha
  subst ha
  have HF : Hid (FitZ P k 27 0 0) := Lib.hid (HFZ.out.2 ⟨(by first | rfl | trivial), (by first | rfl | trivial)⟩)
  have hgg := HGG.out
  subst hgg
  have XF : ∀ q : Later w3, q.world.cell? ⟨g, off + k * 3, none⟩ = some (.int .i64 (fr : Int)) := fun q => (HXO.out _ (HT3.out.trans q.ok)).1
  have B0 : ∀ q : Later w3, q.world.cell? ⟨w.heap.size, 0, none⟩ = some (.slice (some ⟨g1, off1, none⟩) P.n1 c1) := fun q => (HB3.out.touch q.ok (by simp)).cell rfl
  have B1 : ∀ q : Later w3, q.world.cell? ⟨w.heap.size, 1, none⟩ = some (.slice (some ⟨g, off, none⟩) P.n2 c2) := fun q => (HB3.out.touch q.ok (by simp)).cell rfl
  have B2 : ∀ q : Later w3, q.world.cell? ⟨w.heap.size, 2, none⟩ = some (.slice a3 P.n3 c3) := fun q => (HB3.out.touch q.ok (by simp)).cell rfl
  have B3 : ∀ q : Later w3, q.world.cell? ⟨w.heap.size, 3, none⟩ = some (.int .i64 P.rg) := fun q => (HB3.out.touch q.ok (by simp)).cell rfl
  have B4 : ∀ q : Later w3, q.world.cell? ⟨w.heap.size, 4, none⟩ = some (.slice a5 P.se.length c5) := fun q => (HB3.out.touch q.ok (by simp)).cell rfl
  have B5 : ∀ q : Later w3, q.world.cell? ⟨w.heap.size, 5, none⟩ = some (.slice a6 P.tt.length c6) := fun q => (HB3.out.touch q.ok (by simp)).cell rfl
  have B6 : ∀ q : Later w3, q.world.cell? ⟨w.heap.size, 6, none⟩ = some (.slice a7 P.ve.length c7) := fun q => (HB3.out.touch q.ok (by simp)).cell rfl
  have B7 : ∀ q : Later w3, q.world.cell? ⟨w.heap.size, 7, none⟩ = some (.slice a8 P.n8 c8) := fun q => (HB3.out.touch q.ok (by simp)).cell rfl
  have B8 : ∀ q : Later w3, q.world.cell? ⟨w.heap.size, 8, none⟩ = some (.int .i64 P.cl) := fun q => (HB3.out.touch q.ok (by simp)).cell rfl
  have HTE := Lib.hid HT3.out
  go_wp2_with fail
  refine wp_region_later (by kernel_rfl) (by kernel_rfl) ?_
  repeat (first
    | (go_big_quiet_step ((first | (with_reducible rfl) | (with_reducible exact Later.met (HEND.out _ (HTE.out.trans (Later.ok _)))))))
    | (quiet_step (fail)))
  refine wpQuiet_nil ?_
  intro wq hw'
  obtain ⟨⟨wq', hwq⟩, hwe⟩ := hw'
  have hwe : wq = wq' := hwe
  subst hwe
  have hn5 := HN3.out.touch hwq (by simp)
  have HT5 := Lib.hid (HT3.out.trans hwq)
  clear hwe hwq XF B0 B1 B2 B3 B4 B5 B6 B7 B8 q0 q1 q2 b1 b2 b3 b4 b6 b7
  have q0 := hn5.cell (i := 0) rfl
  have q1 := hn5.cell (i := 1) rfl
  have q2 := hn5.cell (i := 2) rfl
  clear hn5
  by_cases hl : (i : Int) = (tt : Int) - 1
  · have HE : Hid (C = 0) := Lib.hid (HC0.out HF.out ⟨fun e => absurd e (by decide), fun e => absurd e (by decide), fun _ e => absurd rfl e⟩)
    have dl : ((i : Int) == (tt : Int) - 1) = true := beqT hl
    clear hl
    go_wp2_with fail
    go_ret
    exact ⟨by (rw [HE.out]) <;> rfl, HT5.out⟩
  · have HE : Hid (C = 0) := Lib.hid (HC0.out HF.out ⟨fun e => absurd e (by decide), fun e => absurd e (by decide), fun _ e => absurd rfl e⟩)
    have dl : ((i : Int) == (tt : Int) - 1) = false := beqF hl
    clear hl
    go_wp2_with fail
    go_ret
    exact ⟨by (rw [HE.out]) <;> rfl, HT5.out⟩
set_option maxHeartbeats 64000000 in
set_option maxRecDepth 100000 in
theorem rinstr_g0 (pv : Value) (P : Pg) (k i : Nat) (op a b : Int) (w : World) (h : PgV w pv P) (ht : TabOk P) (hk : k < P.n2) (hi1 : fromP P k ≤ i) (hi2 : i < toP P k) (e1 : P.op i = op) (e2 : P.a i = a) (e3 : P.b i = b) (ei : isZ op = true) (en : opZ op = 0) (hsp : op ∉ spec) (e24 : op ≠ 24) (e25 : op ≠ 25) (e27 : op ≠ 27) : Calls Tryz.prog 22 #[pv, .int .i64 (k : Int), .int .i64 (i : Int)] w (IntQ (insC P k i) w) := by
  have hm : MayP P := ht 0 (by omega)
  have hen : EntOk P k := (show ∀ i, i < P.n2 → EntOk P i from ht 1 (by omega)) k hk
  have hrg : betw 0 16 P.rg := ht 3 (by omega)
  have hl0 : 0 ≤ P.z2 k 2 := Int.le_trans hen.p0 hen.l0
  have hl1 := hen.l1
  obtain ⟨hr0, hr1⟩ := hrg
  obtain ⟨hft1, hft2, hft3⟩ := from_lt ht hk
  obtain ⟨hC27, hC28, hC0⟩ := insC_z (P := P) (k := k) (i := i) e1 e2 e3
  have HC27 := Lib.hid hC27
  have HC28 := Lib.hid hC28
  have HC0 := Lib.hid hC0
  have HTO := Lib.hid ht
  obtain ⟨C, hC⟩ : ∃ z, insC P k i = z := ⟨_, rfl⟩
  rw [hC] at HC27 HC28 HC0 ⊢
  clear hC hC27 hC28 hC0
  obtain ⟨a1, a2, a3, a5, a6, a7, a8, c1, c2, c3, c5, c6, c7, c8, rfl, ho⟩ := h.open
  obtain ⟨m1, m2, m3, m4, m5, m6, m7, m8, m9⟩ := id hm
  have HO := Lib.hid ho
  have HEND : Hid (∀ wz, Touch [] w wz → Calls Tryz.prog 21 #[.agg #[.slice a1 P.n1 c1, .slice a2 P.n2 c2, .slice a3 P.n3 c3, .int .i64 P.rg, .slice a5 P.se.length c5, .slice a6 P.tt.length c6, .slice a7 P.ve.length c7, .slice a8 P.n8 c8, .int .i64 P.cl], .int .i64 (k : Int)] wz (IntQ (toP P k : Int) wz)) := Lib.hid (fun wz htz => rend_any _ P k wz (ho.touch htz).val ht hk)
  have hin1 : i < P.n1 := by omega
  obtain ⟨g1, off1, hg1, xo1⟩ := ho.h1.at3 hin1
  obtain ⟨g, off, hg, xo⟩ := ho.h2.at3 hk
  have hb0 : Blk (w.alloc (.cells #[.slice a1 P.n1 c1, .slice a2 P.n2 c2, .slice a3 P.n3 c3, .int .i64 P.rg, .slice a5 P.se.length c5, .slice a6 P.tt.length c6, .slice a7 P.ve.length c7, .slice a8 P.n8 c8, .int .i64 P.cl] 29)) w.heap.size #[.slice a1 P.n1 c1, .slice a2 P.n2 c2, .slice a3 P.n3 c3, .int .i64 P.rg, .slice a5 P.se.length c5, .slice a6 P.tt.length c6, .slice a7 P.ve.length c7, .slice a8 P.n8 c8, .int .i64 P.cl] 29 := Blk.new rfl
  have hb1 := hb0.alloc (.cells #[.int .i64 op, .int .i64 a, .int .i64 b] 42)
  have hn1 : Blk ((w.alloc (.cells #[.slice a1 P.n1 c1, .slice a2 P.n2 c2, .slice a3 P.n3 c3, .int .i64 P.rg, .slice a5 P.se.length c5, .slice a6 P.tt.length c6, .slice a7 P.ve.length c7, .slice a8 P.n8 c8, .int .i64 P.cl] 29)).alloc (.cells #[.int .i64 op, .int .i64 a, .int .i64 b] 42)) (w.heap.size + 1) #[.int .i64 op, .int .i64 a, .int .i64 b] 42 := Blk.new (by simp)
  have ht1 : Touch [] w (w.alloc (.cells #[.slice a1 P.n1 c1, .slice a2 P.n2 c2, .slice a3 P.n3 c3, .int .i64 P.rg, .slice a5 P.se.length c5, .slice a6 P.tt.length c6, .slice a7 P.ve.length c7, .slice a8 P.n8 c8, .int .i64 P.cl] 29)) := (Touch.refl [] w).alloc _
  have ht2 : Touch [] w ((w.alloc (.cells #[.slice a1 P.n1 c1, .slice a2 P.n2 c2, .slice a3 P.n3 c3, .int .i64 P.rg, .slice a5 P.se.length c5, .slice a6 P.tt.length c6, .slice a7 P.ve.length c7, .slice a8 P.n8 c8, .int .i64 P.cl] 29)).alloc (.cells #[.int .i64 op, .int .i64 a, .int .i64 b] 42)) := ((Touch.refl [] w).alloc _).alloc _
  have xi := xo1 _ ht1
  rw [show P.z1 i 0 = op from e1, show P.z1 i 1 = a from e2, show P.z1 i 2 = b from e3] at xi
  obtain ⟨x0, x1, x2⟩ := xi
  obtain ⟨W2, hW2⟩ : ∃ x, ((w.alloc (.cells #[.slice a1 P.n1 c1, .slice a2 P.n2 c2, .slice a3 P.n3 c3, .int .i64 P.rg, .slice a5 P.se.length c5, .slice a6 P.tt.length c6, .slice a7 P.ve.length c7, .slice a8 P.n8 c8, .int .i64 P.cl] 29)).alloc (.cells #[.int .i64 op, .int .i64 a, .int .i64 b] 42)) = x := ⟨_, rfl⟩
  rw [hW2] at hb1 hn1 ht2
  have HW2 := Lib.hid hW2
  have HT2 := Lib.hid ht2
  have HN1 := Lib.hid hn1
  have HB1 := Lib.hid hb1
  have HXO : Hid (∀ w', Touch [] w w' → w'.cell? ⟨g, off + k * 3, none⟩ = some (.int .i64 (fromP P k : Int)) ∧ w'.cell? ⟨g, off + k * 3 + 2, none⟩ = some (.int .i64 (P.z2 k 2))) := Lib.hid (fun w' h => ⟨by rw [hft3]; exact (xo w' h).1, (xo w' h).2.2⟩)
  have b0 := hb0.cell (i := 0) rfl
  have q0 := hn1.cell (i := 0) rfl
  have im0 : (0 : Int) ≤ (k : Int) := by omega
  have im1 : (k : Int) < (P.n2 : Int) := by omega
  have ii0 : (0 : Int) ≤ (i : Int) := by omega
  have ii1 : (i : Int) < (P.n1 : Int) := by omega
  have HGG := Lib.hid hg
  have HGI : Hid ((fromP P k : Int) ≤ (i : Int) ∧ (i : Int) < (toP P k : Int) ∧ (toP P k : Int) ≤ 5000) := Lib.hid ⟨by omega, by omega, by omega⟩
  have HIFF : Hid ((i : Int) + 1 < (toP P k : Int) ↔ i + 1 < toP P k) := Lib.hid (by omega)
  subst hg1
  obtain ⟨fr, hfr⟩ : ∃ z, fromP P k = z := ⟨_, rfl⟩
  obtain ⟨tt, htt⟩ : ∃ z, toP P k = z := ⟨_, rfl⟩
  rw [hfr] at HC28 HC0 HXO HGI
  rw [htt] at HC28 HC0 HGI HEND HIFF
  obtain ⟨hgi1, hgi2, hgi3⟩ := HGI.out
  have HNM : Hid (∀ wz, Calls Tryz.prog 51 #[.int .i64 op] wz (StrP (nmZ op) wz)) := Lib.hid (fun wz => rname_any op wz)
  have HOP : Hid (∀ wz, Calls Tryz.prog 52 #[.int .i64 op] wz fun e w' => e = .returned (.int .i64 (opZ op)) ∧ wz = w') := Lib.hid (fun wz => roperands_any op wz)
  obtain ⟨nm, hnm⟩ : ∃ z, nmZ op = z := ⟨_, rfl⟩
  have HNN := Lib.hid hnm
  rw [hnm] at HNM
  clear h ht hm hen ho hb0 hb1 hn1 ht1 ht2 hW2 xo xo1 hg hft1 hft2 hft3 hfr htt hnm hi1 hi2 e1 e2 e3 hin1
  have el : limN P k op = -1 := lim_none hsp
  have HNV : Hid (opZ op = 0) := Lib.hid en
  have HIS := Lib.hid ei
  have hne : ¬ nm = ByteArray.empty := by rw [← HNN.out]; exact nm_ne ei
  have dn : nm.toList.isEmpty = false := emF7 hne
  simp only [spec, List.mem_cons, List.not_mem_nil, or_false, not_or] at hsp
  obtain ⟨e3, e4, e5, e6, e7, e8, e26, e28, e30, e31, e32, e33, e34, e35, e36⟩ := hsp
  have f3 : (op == 3) = false := beqF e3
  have f4 : (op == 4) = false := beqF e4
  have f5 : (op == 5) = false := beqF e5
  have f6 : (op == 6) = false := beqF e6
  have f7 : (op == 7) = false := beqF e7
  have f8 : (op == 8) = false := beqF e8
  have f26 : (op == 26) = false := beqF e26
  have f28 : (op == 28) = false := beqF e28
  have f30 : (op == 30) = false := beqF e30
  have f31 : (op == 31) = false := beqF e31
  have f32 : (op == 32) = false := beqF e32
  have f33 : (op == 33) = false := beqF e33
  have f34 : (op == 34) = false := beqF e34
  have f35 : (op == 35) = false := beqF e35
  have f36 : (op == 36) = false := beqF e36
  have f24 : (op == 24) = false := beqF e24
  have f25 : (op == 25) = false := beqF e25
  have f27 : (op == 27) = false := beqF e27
  have n24 : (op != 24) = true := bneT e24
  have n27 : (op != 27) = true := bneT e27
  have HNE := Lib.hid (And.intro e24 (And.intro e25 (And.intro e27 e33)))
  have HFZ : Hid (FitZ P k op a b ↔ (b = 0 ∧ a = 0)) := Lib.hid ⟨fun h => ⟨h.b0 (by rw [HNV.out]; decide), h.a0 (by rw [HNV.out]; decide)⟩, fun h => ⟨ei, fun _ => h.1, fun _ => h.2, fun e => absurd e (by rw [el]; decide), fun e => absurd e e26⟩⟩
  clear el ei hne en e3 e4 e5 e6 e7 e8 e26 e28 e30 e31 e32 e33 e34 e35 e36 e24 e25 e27
  go_enter Tryz.func22, Tryz.ntmps22
  go_wp2_with fail
  rw [HW2.out]
  refine (HNM.out _).mono ?_
  rintro e w3 ⟨rfl, ht3⟩
  have hn3 := HN1.out.touch ht3 (by simp)
  have hb3 := HB1.out.touch ht3 (by simp)
  have HT3 := Lib.hid (HT2.out.trans ht3)
  have HN3 := Lib.hid hn3
  have HB3 := Lib.hid hb3
  clear q0 b0 x0 x1 x2 ht3
  have q0 := hn3.cell (i := 0) rfl
  have q1 := hn3.cell (i := 1) rfl
  have q2 := hn3.cell (i := 2) rfl
  have b1 := hb3.cell (i := 1) rfl
  have b2 := hb3.cell (i := 2) rfl
  have b3 := hb3.cell (i := 3) rfl
  have b4 := hb3.cell (i := 4) rfl
  have b6 := hb3.cell (i := 6) rfl
  have b7 := hb3.cell (i := 7) rfl
  clear hn3 hb3
  go_wp2_with fail
  refine (HOP.out _).mono ?_
  rintro e w4 ⟨rfl, rfl⟩
  rw [HNV.out]
  by_cases hb : ¬ b = 0
  · have HE : Hid (C = 27) := Lib.hid (HC27.out (fun q => hb ((HFZ.out.1 q).1)))
    have db : (b != 0) = true := bneT hb
    clear hb
    go_wp2_with fail
    go_ret
    exact ⟨by (rw [HE.out]) <;> rfl, HT3.out⟩
  have hb : b = 0 := Decidable.not_not.1 hb
  subst hb
  go_wp2_with fail
  refine (HOP.out _).mono ?_
  rintro e w4 ⟨rfl, rfl⟩
  rw [HNV.out]
  by_cases ha : ¬ a = 0
  · have HE : Hid (C = 27) := Lib.hid (HC27.out (fun q => ha ((HFZ.out.1 q).2)))
    have da : (a != 0) = true := bneT ha
    clear ha
    go_wp2_with fail
    go_ret
    exact ⟨by (rw [HE.out]) <;> rfl, HT3.out⟩
  have ha : a = 0 := Decidable.not_not.1 ha
  subst ha
  have HF : Hid (FitZ P k op 0 0) := Lib.hid (HFZ.out.2 ⟨(by first | rfl | trivial), (by first | rfl | trivial)⟩)
  have hgg := HGG.out
  subst hgg
  have XF : ∀ q : Later w3, q.world.cell? ⟨g, off + k * 3, none⟩ = some (.int .i64 (fr : Int)) := fun q => (HXO.out _ (HT3.out.trans q.ok)).1
  have B0 : ∀ q : Later w3, q.world.cell? ⟨w.heap.size, 0, none⟩ = some (.slice (some ⟨g1, off1, none⟩) P.n1 c1) := fun q => (HB3.out.touch q.ok (by simp)).cell rfl
  have B1 : ∀ q : Later w3, q.world.cell? ⟨w.heap.size, 1, none⟩ = some (.slice (some ⟨g, off, none⟩) P.n2 c2) := fun q => (HB3.out.touch q.ok (by simp)).cell rfl
  have B2 : ∀ q : Later w3, q.world.cell? ⟨w.heap.size, 2, none⟩ = some (.slice a3 P.n3 c3) := fun q => (HB3.out.touch q.ok (by simp)).cell rfl
  have B3 : ∀ q : Later w3, q.world.cell? ⟨w.heap.size, 3, none⟩ = some (.int .i64 P.rg) := fun q => (HB3.out.touch q.ok (by simp)).cell rfl
  have B4 : ∀ q : Later w3, q.world.cell? ⟨w.heap.size, 4, none⟩ = some (.slice a5 P.se.length c5) := fun q => (HB3.out.touch q.ok (by simp)).cell rfl
  have B5 : ∀ q : Later w3, q.world.cell? ⟨w.heap.size, 5, none⟩ = some (.slice a6 P.tt.length c6) := fun q => (HB3.out.touch q.ok (by simp)).cell rfl
  have B6 : ∀ q : Later w3, q.world.cell? ⟨w.heap.size, 6, none⟩ = some (.slice a7 P.ve.length c7) := fun q => (HB3.out.touch q.ok (by simp)).cell rfl
  have B7 : ∀ q : Later w3, q.world.cell? ⟨w.heap.size, 7, none⟩ = some (.slice a8 P.n8 c8) := fun q => (HB3.out.touch q.ok (by simp)).cell rfl
  have B8 : ∀ q : Later w3, q.world.cell? ⟨w.heap.size, 8, none⟩ = some (.int .i64 P.cl) := fun q => (HB3.out.touch q.ok (by simp)).cell rfl
  have HTE := Lib.hid HT3.out
  go_wp2_with fail
  refine wp_region_later (by kernel_rfl) (by kernel_rfl) ?_
  repeat (first
    | (go_big_quiet_step ((first | (with_reducible rfl) | (with_reducible exact Later.met (HEND.out _ (HTE.out.trans (Later.ok _)))))))
    | (quiet_step (fail)))
  refine wpQuiet_nil ?_
  intro wq hw'
  obtain ⟨⟨wq', hwq⟩, hwe⟩ := hw'
  have hwe : wq = wq' := hwe
  subst hwe
  have hn5 := HN3.out.touch hwq (by simp)
  have HT5 := Lib.hid (HT3.out.trans hwq)
  clear hwe hwq XF B0 B1 B2 B3 B4 B5 B6 B7 B8 q0 q1 q2 b1 b2 b3 b4 b6 b7
  have q0 := hn5.cell (i := 0) rfl
  have q1 := hn5.cell (i := 1) rfl
  have q2 := hn5.cell (i := 2) rfl
  clear hn5
  by_cases hl : (i : Int) = (tt : Int) - 1
  · have HE : Hid (C = 28) := Lib.hid (HC28.out HF.out (fun q => by have := HIFF.out.2 (q.on HNE.out.1 HNE.out.2.2.1); omega))
    have dl : ((i : Int) == (tt : Int) - 1) = true := beqT hl
    clear hl
    go_wp2_with fail
    go_ret
    exact ⟨by (rw [HE.out]) <;> rfl, HT5.out⟩
  · have HE : Hid (C = 0) := Lib.hid (HC0.out HF.out ⟨fun e => e.elim (fun e => absurd e HNE.out.1) (fun e => absurd e HNE.out.2.1), fun e => absurd e HNE.out.2.2.2, fun _ _ => HIFF.out.1 (by omega)⟩)
    have dl : ((i : Int) == (tt : Int) - 1) = false := beqF hl
    clear hl
    go_wp2_with fail
    go_ret
    exact ⟨by (rw [HE.out]) <;> rfl, HT5.out⟩
set_option maxHeartbeats 64000000 in
set_option maxRecDepth 100000 in
theorem rinstr_g1 (pv : Value) (P : Pg) (k i : Nat) (op a b : Int) (w : World) (h : PgV w pv P) (ht : TabOk P) (hk : k < P.n2) (hi1 : fromP P k ≤ i) (hi2 : i < toP P k) (e1 : P.op i = op) (e2 : P.a i = a) (e3 : P.b i = b) (ei : isZ op = true) (en : opZ op = 1) (hsp : op ∉ spec) (e24 : op ≠ 24) (e25 : op ≠ 25) (e27 : op ≠ 27) : Calls Tryz.prog 22 #[pv, .int .i64 (k : Int), .int .i64 (i : Int)] w (IntQ (insC P k i) w) := by
  have hm : MayP P := ht 0 (by omega)
  have hen : EntOk P k := (show ∀ i, i < P.n2 → EntOk P i from ht 1 (by omega)) k hk
  have hrg : betw 0 16 P.rg := ht 3 (by omega)
  have hl0 : 0 ≤ P.z2 k 2 := Int.le_trans hen.p0 hen.l0
  have hl1 := hen.l1
  obtain ⟨hr0, hr1⟩ := hrg
  obtain ⟨hft1, hft2, hft3⟩ := from_lt ht hk
  obtain ⟨hC27, hC28, hC0⟩ := insC_z (P := P) (k := k) (i := i) e1 e2 e3
  have HC27 := Lib.hid hC27
  have HC28 := Lib.hid hC28
  have HC0 := Lib.hid hC0
  have HTO := Lib.hid ht
  obtain ⟨C, hC⟩ : ∃ z, insC P k i = z := ⟨_, rfl⟩
  rw [hC] at HC27 HC28 HC0 ⊢
  clear hC hC27 hC28 hC0
  obtain ⟨a1, a2, a3, a5, a6, a7, a8, c1, c2, c3, c5, c6, c7, c8, rfl, ho⟩ := h.open
  obtain ⟨m1, m2, m3, m4, m5, m6, m7, m8, m9⟩ := id hm
  have HO := Lib.hid ho
  have HEND : Hid (∀ wz, Touch [] w wz → Calls Tryz.prog 21 #[.agg #[.slice a1 P.n1 c1, .slice a2 P.n2 c2, .slice a3 P.n3 c3, .int .i64 P.rg, .slice a5 P.se.length c5, .slice a6 P.tt.length c6, .slice a7 P.ve.length c7, .slice a8 P.n8 c8, .int .i64 P.cl], .int .i64 (k : Int)] wz (IntQ (toP P k : Int) wz)) := Lib.hid (fun wz htz => rend_any _ P k wz (ho.touch htz).val ht hk)
  have hin1 : i < P.n1 := by omega
  obtain ⟨g1, off1, hg1, xo1⟩ := ho.h1.at3 hin1
  obtain ⟨g, off, hg, xo⟩ := ho.h2.at3 hk
  have hb0 : Blk (w.alloc (.cells #[.slice a1 P.n1 c1, .slice a2 P.n2 c2, .slice a3 P.n3 c3, .int .i64 P.rg, .slice a5 P.se.length c5, .slice a6 P.tt.length c6, .slice a7 P.ve.length c7, .slice a8 P.n8 c8, .int .i64 P.cl] 29)) w.heap.size #[.slice a1 P.n1 c1, .slice a2 P.n2 c2, .slice a3 P.n3 c3, .int .i64 P.rg, .slice a5 P.se.length c5, .slice a6 P.tt.length c6, .slice a7 P.ve.length c7, .slice a8 P.n8 c8, .int .i64 P.cl] 29 := Blk.new rfl
  have hb1 := hb0.alloc (.cells #[.int .i64 op, .int .i64 a, .int .i64 b] 42)
  have hn1 : Blk ((w.alloc (.cells #[.slice a1 P.n1 c1, .slice a2 P.n2 c2, .slice a3 P.n3 c3, .int .i64 P.rg, .slice a5 P.se.length c5, .slice a6 P.tt.length c6, .slice a7 P.ve.length c7, .slice a8 P.n8 c8, .int .i64 P.cl] 29)).alloc (.cells #[.int .i64 op, .int .i64 a, .int .i64 b] 42)) (w.heap.size + 1) #[.int .i64 op, .int .i64 a, .int .i64 b] 42 := Blk.new (by simp)
  have ht1 : Touch [] w (w.alloc (.cells #[.slice a1 P.n1 c1, .slice a2 P.n2 c2, .slice a3 P.n3 c3, .int .i64 P.rg, .slice a5 P.se.length c5, .slice a6 P.tt.length c6, .slice a7 P.ve.length c7, .slice a8 P.n8 c8, .int .i64 P.cl] 29)) := (Touch.refl [] w).alloc _
  have ht2 : Touch [] w ((w.alloc (.cells #[.slice a1 P.n1 c1, .slice a2 P.n2 c2, .slice a3 P.n3 c3, .int .i64 P.rg, .slice a5 P.se.length c5, .slice a6 P.tt.length c6, .slice a7 P.ve.length c7, .slice a8 P.n8 c8, .int .i64 P.cl] 29)).alloc (.cells #[.int .i64 op, .int .i64 a, .int .i64 b] 42)) := ((Touch.refl [] w).alloc _).alloc _
  have xi := xo1 _ ht1
  rw [show P.z1 i 0 = op from e1, show P.z1 i 1 = a from e2, show P.z1 i 2 = b from e3] at xi
  obtain ⟨x0, x1, x2⟩ := xi
  obtain ⟨W2, hW2⟩ : ∃ x, ((w.alloc (.cells #[.slice a1 P.n1 c1, .slice a2 P.n2 c2, .slice a3 P.n3 c3, .int .i64 P.rg, .slice a5 P.se.length c5, .slice a6 P.tt.length c6, .slice a7 P.ve.length c7, .slice a8 P.n8 c8, .int .i64 P.cl] 29)).alloc (.cells #[.int .i64 op, .int .i64 a, .int .i64 b] 42)) = x := ⟨_, rfl⟩
  rw [hW2] at hb1 hn1 ht2
  have HW2 := Lib.hid hW2
  have HT2 := Lib.hid ht2
  have HN1 := Lib.hid hn1
  have HB1 := Lib.hid hb1
  have HXO : Hid (∀ w', Touch [] w w' → w'.cell? ⟨g, off + k * 3, none⟩ = some (.int .i64 (fromP P k : Int)) ∧ w'.cell? ⟨g, off + k * 3 + 2, none⟩ = some (.int .i64 (P.z2 k 2))) := Lib.hid (fun w' h => ⟨by rw [hft3]; exact (xo w' h).1, (xo w' h).2.2⟩)
  have b0 := hb0.cell (i := 0) rfl
  have q0 := hn1.cell (i := 0) rfl
  have im0 : (0 : Int) ≤ (k : Int) := by omega
  have im1 : (k : Int) < (P.n2 : Int) := by omega
  have ii0 : (0 : Int) ≤ (i : Int) := by omega
  have ii1 : (i : Int) < (P.n1 : Int) := by omega
  have HGG := Lib.hid hg
  have HGI : Hid ((fromP P k : Int) ≤ (i : Int) ∧ (i : Int) < (toP P k : Int) ∧ (toP P k : Int) ≤ 5000) := Lib.hid ⟨by omega, by omega, by omega⟩
  have HIFF : Hid ((i : Int) + 1 < (toP P k : Int) ↔ i + 1 < toP P k) := Lib.hid (by omega)
  subst hg1
  obtain ⟨fr, hfr⟩ : ∃ z, fromP P k = z := ⟨_, rfl⟩
  obtain ⟨tt, htt⟩ : ∃ z, toP P k = z := ⟨_, rfl⟩
  rw [hfr] at HC28 HC0 HXO HGI
  rw [htt] at HC28 HC0 HGI HEND HIFF
  obtain ⟨hgi1, hgi2, hgi3⟩ := HGI.out
  have HNM : Hid (∀ wz, Calls Tryz.prog 51 #[.int .i64 op] wz (StrP (nmZ op) wz)) := Lib.hid (fun wz => rname_any op wz)
  have HOP : Hid (∀ wz, Calls Tryz.prog 52 #[.int .i64 op] wz fun e w' => e = .returned (.int .i64 (opZ op)) ∧ wz = w') := Lib.hid (fun wz => roperands_any op wz)
  obtain ⟨nm, hnm⟩ : ∃ z, nmZ op = z := ⟨_, rfl⟩
  have HNN := Lib.hid hnm
  rw [hnm] at HNM
  clear h ht hm hen ho hb0 hb1 hn1 ht1 ht2 hW2 xo xo1 hg hft1 hft2 hft3 hfr htt hnm hi1 hi2 e1 e2 e3 hin1
  have el : limN P k op = -1 := lim_none hsp
  have HNV : Hid (opZ op = 1) := Lib.hid en
  have HIS := Lib.hid ei
  have hne : ¬ nm = ByteArray.empty := by rw [← HNN.out]; exact nm_ne ei
  have dn : nm.toList.isEmpty = false := emF7 hne
  simp only [spec, List.mem_cons, List.not_mem_nil, or_false, not_or] at hsp
  obtain ⟨e3, e4, e5, e6, e7, e8, e26, e28, e30, e31, e32, e33, e34, e35, e36⟩ := hsp
  have f3 : (op == 3) = false := beqF e3
  have f4 : (op == 4) = false := beqF e4
  have f5 : (op == 5) = false := beqF e5
  have f6 : (op == 6) = false := beqF e6
  have f7 : (op == 7) = false := beqF e7
  have f8 : (op == 8) = false := beqF e8
  have f26 : (op == 26) = false := beqF e26
  have f28 : (op == 28) = false := beqF e28
  have f30 : (op == 30) = false := beqF e30
  have f31 : (op == 31) = false := beqF e31
  have f32 : (op == 32) = false := beqF e32
  have f33 : (op == 33) = false := beqF e33
  have f34 : (op == 34) = false := beqF e34
  have f35 : (op == 35) = false := beqF e35
  have f36 : (op == 36) = false := beqF e36
  have f24 : (op == 24) = false := beqF e24
  have f25 : (op == 25) = false := beqF e25
  have f27 : (op == 27) = false := beqF e27
  have n24 : (op != 24) = true := bneT e24
  have n27 : (op != 27) = true := bneT e27
  have HNE := Lib.hid (And.intro e24 (And.intro e25 (And.intro e27 e33)))
  have HFZ : Hid (FitZ P k op a b ↔ b = 0) := Lib.hid ⟨fun h => h.b0 (by rw [HNV.out]; decide), fun h => ⟨ei, fun _ => h, fun e => absurd e (by rw [HNV.out]; decide), fun e => absurd e (by rw [el]; decide), fun e => absurd e e26⟩⟩
  clear el ei hne en e3 e4 e5 e6 e7 e8 e26 e28 e30 e31 e32 e33 e34 e35 e36 e24 e25 e27
  go_enter Tryz.func22, Tryz.ntmps22
  go_wp2_with fail
  rw [HW2.out]
  refine (HNM.out _).mono ?_
  rintro e w3 ⟨rfl, ht3⟩
  have hn3 := HN1.out.touch ht3 (by simp)
  have hb3 := HB1.out.touch ht3 (by simp)
  have HT3 := Lib.hid (HT2.out.trans ht3)
  have HN3 := Lib.hid hn3
  have HB3 := Lib.hid hb3
  clear q0 b0 x0 x1 x2 ht3
  have q0 := hn3.cell (i := 0) rfl
  have q1 := hn3.cell (i := 1) rfl
  have q2 := hn3.cell (i := 2) rfl
  have b1 := hb3.cell (i := 1) rfl
  have b2 := hb3.cell (i := 2) rfl
  have b3 := hb3.cell (i := 3) rfl
  have b4 := hb3.cell (i := 4) rfl
  have b6 := hb3.cell (i := 6) rfl
  have b7 := hb3.cell (i := 7) rfl
  clear hn3 hb3
  go_wp2_with fail
  refine (HOP.out _).mono ?_
  rintro e w4 ⟨rfl, rfl⟩
  rw [HNV.out]
  by_cases hb : ¬ b = 0
  · have HE : Hid (C = 27) := Lib.hid (HC27.out (fun q => hb ((HFZ.out.1 q))))
    have db : (b != 0) = true := bneT hb
    clear hb
    go_wp2_with fail
    go_ret
    exact ⟨by (rw [HE.out]) <;> rfl, HT3.out⟩
  have hb : b = 0 := Decidable.not_not.1 hb
  subst hb
  go_wp2_with fail
  refine (HOP.out _).mono ?_
  rintro e w4 ⟨rfl, rfl⟩
  rw [HNV.out]
  have HF : Hid (FitZ P k op a 0) := Lib.hid (HFZ.out.2 (by first | rfl | trivial))
  have hgg := HGG.out
  subst hgg
  have XF : ∀ q : Later w3, q.world.cell? ⟨g, off + k * 3, none⟩ = some (.int .i64 (fr : Int)) := fun q => (HXO.out _ (HT3.out.trans q.ok)).1
  have B0 : ∀ q : Later w3, q.world.cell? ⟨w.heap.size, 0, none⟩ = some (.slice (some ⟨g1, off1, none⟩) P.n1 c1) := fun q => (HB3.out.touch q.ok (by simp)).cell rfl
  have B1 : ∀ q : Later w3, q.world.cell? ⟨w.heap.size, 1, none⟩ = some (.slice (some ⟨g, off, none⟩) P.n2 c2) := fun q => (HB3.out.touch q.ok (by simp)).cell rfl
  have B2 : ∀ q : Later w3, q.world.cell? ⟨w.heap.size, 2, none⟩ = some (.slice a3 P.n3 c3) := fun q => (HB3.out.touch q.ok (by simp)).cell rfl
  have B3 : ∀ q : Later w3, q.world.cell? ⟨w.heap.size, 3, none⟩ = some (.int .i64 P.rg) := fun q => (HB3.out.touch q.ok (by simp)).cell rfl
  have B4 : ∀ q : Later w3, q.world.cell? ⟨w.heap.size, 4, none⟩ = some (.slice a5 P.se.length c5) := fun q => (HB3.out.touch q.ok (by simp)).cell rfl
  have B5 : ∀ q : Later w3, q.world.cell? ⟨w.heap.size, 5, none⟩ = some (.slice a6 P.tt.length c6) := fun q => (HB3.out.touch q.ok (by simp)).cell rfl
  have B6 : ∀ q : Later w3, q.world.cell? ⟨w.heap.size, 6, none⟩ = some (.slice a7 P.ve.length c7) := fun q => (HB3.out.touch q.ok (by simp)).cell rfl
  have B7 : ∀ q : Later w3, q.world.cell? ⟨w.heap.size, 7, none⟩ = some (.slice a8 P.n8 c8) := fun q => (HB3.out.touch q.ok (by simp)).cell rfl
  have B8 : ∀ q : Later w3, q.world.cell? ⟨w.heap.size, 8, none⟩ = some (.int .i64 P.cl) := fun q => (HB3.out.touch q.ok (by simp)).cell rfl
  have HTE := Lib.hid HT3.out
  go_wp2_with fail
  refine wp_region_later (by kernel_rfl) (by kernel_rfl) ?_
  repeat (first
    | (go_big_quiet_step ((first | (with_reducible rfl) | (with_reducible exact Later.met (HEND.out _ (HTE.out.trans (Later.ok _)))))))
    | (quiet_step (fail)))
  refine wpQuiet_nil ?_
  intro wq hw'
  obtain ⟨⟨wq', hwq⟩, hwe⟩ := hw'
  have hwe : wq = wq' := hwe
  subst hwe
  have hn5 := HN3.out.touch hwq (by simp)
  have HT5 := Lib.hid (HT3.out.trans hwq)
  clear hwe hwq XF B0 B1 B2 B3 B4 B5 B6 B7 B8 q0 q1 q2 b1 b2 b3 b4 b6 b7
  have q0 := hn5.cell (i := 0) rfl
  have q1 := hn5.cell (i := 1) rfl
  have q2 := hn5.cell (i := 2) rfl
  clear hn5
  by_cases hl : (i : Int) = (tt : Int) - 1
  · have HE : Hid (C = 28) := Lib.hid (HC28.out HF.out (fun q => by have := HIFF.out.2 (q.on HNE.out.1 HNE.out.2.2.1); omega))
    have dl : ((i : Int) == (tt : Int) - 1) = true := beqT hl
    clear hl
    go_wp2_with fail
    go_ret
    exact ⟨by (rw [HE.out]) <;> rfl, HT5.out⟩
  · have HE : Hid (C = 0) := Lib.hid (HC0.out HF.out ⟨fun e => e.elim (fun e => absurd e HNE.out.1) (fun e => absurd e HNE.out.2.1), fun e => absurd e HNE.out.2.2.2, fun _ _ => HIFF.out.1 (by omega)⟩)
    have dl : ((i : Int) == (tt : Int) - 1) = false := beqF hl
    clear hl
    go_wp2_with fail
    go_ret
    exact ⟨by (rw [HE.out]) <;> rfl, HT5.out⟩
set_option maxHeartbeats 64000000 in
set_option maxRecDepth 100000 in
theorem rinstr_g2 (pv : Value) (P : Pg) (k i : Nat) (op a b : Int) (w : World) (h : PgV w pv P) (ht : TabOk P) (hk : k < P.n2) (hi1 : fromP P k ≤ i) (hi2 : i < toP P k) (e1 : P.op i = op) (e2 : P.a i = a) (e3 : P.b i = b) (ei : isZ op = true) (en : opZ op = 2) (hsp : op ∉ spec) (e24 : op ≠ 24) (e25 : op ≠ 25) (e27 : op ≠ 27) : Calls Tryz.prog 22 #[pv, .int .i64 (k : Int), .int .i64 (i : Int)] w (IntQ (insC P k i) w) := by
  have hm : MayP P := ht 0 (by omega)
  have hen : EntOk P k := (show ∀ i, i < P.n2 → EntOk P i from ht 1 (by omega)) k hk
  have hrg : betw 0 16 P.rg := ht 3 (by omega)
  have hl0 : 0 ≤ P.z2 k 2 := Int.le_trans hen.p0 hen.l0
  have hl1 := hen.l1
  obtain ⟨hr0, hr1⟩ := hrg
  obtain ⟨hft1, hft2, hft3⟩ := from_lt ht hk
  obtain ⟨hC27, hC28, hC0⟩ := insC_z (P := P) (k := k) (i := i) e1 e2 e3
  have HC27 := Lib.hid hC27
  have HC28 := Lib.hid hC28
  have HC0 := Lib.hid hC0
  have HTO := Lib.hid ht
  obtain ⟨C, hC⟩ : ∃ z, insC P k i = z := ⟨_, rfl⟩
  rw [hC] at HC27 HC28 HC0 ⊢
  clear hC hC27 hC28 hC0
  obtain ⟨a1, a2, a3, a5, a6, a7, a8, c1, c2, c3, c5, c6, c7, c8, rfl, ho⟩ := h.open
  obtain ⟨m1, m2, m3, m4, m5, m6, m7, m8, m9⟩ := id hm
  have HO := Lib.hid ho
  have HEND : Hid (∀ wz, Touch [] w wz → Calls Tryz.prog 21 #[.agg #[.slice a1 P.n1 c1, .slice a2 P.n2 c2, .slice a3 P.n3 c3, .int .i64 P.rg, .slice a5 P.se.length c5, .slice a6 P.tt.length c6, .slice a7 P.ve.length c7, .slice a8 P.n8 c8, .int .i64 P.cl], .int .i64 (k : Int)] wz (IntQ (toP P k : Int) wz)) := Lib.hid (fun wz htz => rend_any _ P k wz (ho.touch htz).val ht hk)
  have hin1 : i < P.n1 := by omega
  obtain ⟨g1, off1, hg1, xo1⟩ := ho.h1.at3 hin1
  obtain ⟨g, off, hg, xo⟩ := ho.h2.at3 hk
  have hb0 : Blk (w.alloc (.cells #[.slice a1 P.n1 c1, .slice a2 P.n2 c2, .slice a3 P.n3 c3, .int .i64 P.rg, .slice a5 P.se.length c5, .slice a6 P.tt.length c6, .slice a7 P.ve.length c7, .slice a8 P.n8 c8, .int .i64 P.cl] 29)) w.heap.size #[.slice a1 P.n1 c1, .slice a2 P.n2 c2, .slice a3 P.n3 c3, .int .i64 P.rg, .slice a5 P.se.length c5, .slice a6 P.tt.length c6, .slice a7 P.ve.length c7, .slice a8 P.n8 c8, .int .i64 P.cl] 29 := Blk.new rfl
  have hb1 := hb0.alloc (.cells #[.int .i64 op, .int .i64 a, .int .i64 b] 42)
  have hn1 : Blk ((w.alloc (.cells #[.slice a1 P.n1 c1, .slice a2 P.n2 c2, .slice a3 P.n3 c3, .int .i64 P.rg, .slice a5 P.se.length c5, .slice a6 P.tt.length c6, .slice a7 P.ve.length c7, .slice a8 P.n8 c8, .int .i64 P.cl] 29)).alloc (.cells #[.int .i64 op, .int .i64 a, .int .i64 b] 42)) (w.heap.size + 1) #[.int .i64 op, .int .i64 a, .int .i64 b] 42 := Blk.new (by simp)
  have ht1 : Touch [] w (w.alloc (.cells #[.slice a1 P.n1 c1, .slice a2 P.n2 c2, .slice a3 P.n3 c3, .int .i64 P.rg, .slice a5 P.se.length c5, .slice a6 P.tt.length c6, .slice a7 P.ve.length c7, .slice a8 P.n8 c8, .int .i64 P.cl] 29)) := (Touch.refl [] w).alloc _
  have ht2 : Touch [] w ((w.alloc (.cells #[.slice a1 P.n1 c1, .slice a2 P.n2 c2, .slice a3 P.n3 c3, .int .i64 P.rg, .slice a5 P.se.length c5, .slice a6 P.tt.length c6, .slice a7 P.ve.length c7, .slice a8 P.n8 c8, .int .i64 P.cl] 29)).alloc (.cells #[.int .i64 op, .int .i64 a, .int .i64 b] 42)) := ((Touch.refl [] w).alloc _).alloc _
  have xi := xo1 _ ht1
  rw [show P.z1 i 0 = op from e1, show P.z1 i 1 = a from e2, show P.z1 i 2 = b from e3] at xi
  obtain ⟨x0, x1, x2⟩ := xi
  obtain ⟨W2, hW2⟩ : ∃ x, ((w.alloc (.cells #[.slice a1 P.n1 c1, .slice a2 P.n2 c2, .slice a3 P.n3 c3, .int .i64 P.rg, .slice a5 P.se.length c5, .slice a6 P.tt.length c6, .slice a7 P.ve.length c7, .slice a8 P.n8 c8, .int .i64 P.cl] 29)).alloc (.cells #[.int .i64 op, .int .i64 a, .int .i64 b] 42)) = x := ⟨_, rfl⟩
  rw [hW2] at hb1 hn1 ht2
  have HW2 := Lib.hid hW2
  have HT2 := Lib.hid ht2
  have HN1 := Lib.hid hn1
  have HB1 := Lib.hid hb1
  have HXO : Hid (∀ w', Touch [] w w' → w'.cell? ⟨g, off + k * 3, none⟩ = some (.int .i64 (fromP P k : Int)) ∧ w'.cell? ⟨g, off + k * 3 + 2, none⟩ = some (.int .i64 (P.z2 k 2))) := Lib.hid (fun w' h => ⟨by rw [hft3]; exact (xo w' h).1, (xo w' h).2.2⟩)
  have b0 := hb0.cell (i := 0) rfl
  have q0 := hn1.cell (i := 0) rfl
  have im0 : (0 : Int) ≤ (k : Int) := by omega
  have im1 : (k : Int) < (P.n2 : Int) := by omega
  have ii0 : (0 : Int) ≤ (i : Int) := by omega
  have ii1 : (i : Int) < (P.n1 : Int) := by omega
  have HGG := Lib.hid hg
  have HGI : Hid ((fromP P k : Int) ≤ (i : Int) ∧ (i : Int) < (toP P k : Int) ∧ (toP P k : Int) ≤ 5000) := Lib.hid ⟨by omega, by omega, by omega⟩
  have HIFF : Hid ((i : Int) + 1 < (toP P k : Int) ↔ i + 1 < toP P k) := Lib.hid (by omega)
  subst hg1
  obtain ⟨fr, hfr⟩ : ∃ z, fromP P k = z := ⟨_, rfl⟩
  obtain ⟨tt, htt⟩ : ∃ z, toP P k = z := ⟨_, rfl⟩
  rw [hfr] at HC28 HC0 HXO HGI
  rw [htt] at HC28 HC0 HGI HEND HIFF
  obtain ⟨hgi1, hgi2, hgi3⟩ := HGI.out
  have HNM : Hid (∀ wz, Calls Tryz.prog 51 #[.int .i64 op] wz (StrP (nmZ op) wz)) := Lib.hid (fun wz => rname_any op wz)
  have HOP : Hid (∀ wz, Calls Tryz.prog 52 #[.int .i64 op] wz fun e w' => e = .returned (.int .i64 (opZ op)) ∧ wz = w') := Lib.hid (fun wz => roperands_any op wz)
  obtain ⟨nm, hnm⟩ : ∃ z, nmZ op = z := ⟨_, rfl⟩
  have HNN := Lib.hid hnm
  rw [hnm] at HNM
  clear h ht hm hen ho hb0 hb1 hn1 ht1 ht2 hW2 xo xo1 hg hft1 hft2 hft3 hfr htt hnm hi1 hi2 e1 e2 e3 hin1
  have el : limN P k op = -1 := lim_none hsp
  have HNV : Hid (opZ op = 2) := Lib.hid en
  have HIS := Lib.hid ei
  have hne : ¬ nm = ByteArray.empty := by rw [← HNN.out]; exact nm_ne ei
  have dn : nm.toList.isEmpty = false := emF7 hne
  simp only [spec, List.mem_cons, List.not_mem_nil, or_false, not_or] at hsp
  obtain ⟨e3, e4, e5, e6, e7, e8, e26, e28, e30, e31, e32, e33, e34, e35, e36⟩ := hsp
  have f3 : (op == 3) = false := beqF e3
  have f4 : (op == 4) = false := beqF e4
  have f5 : (op == 5) = false := beqF e5
  have f6 : (op == 6) = false := beqF e6
  have f7 : (op == 7) = false := beqF e7
  have f8 : (op == 8) = false := beqF e8
  have f26 : (op == 26) = false := beqF e26
  have f28 : (op == 28) = false := beqF e28
  have f30 : (op == 30) = false := beqF e30
  have f31 : (op == 31) = false := beqF e31
  have f32 : (op == 32) = false := beqF e32
  have f33 : (op == 33) = false := beqF e33
  have f34 : (op == 34) = false := beqF e34
  have f35 : (op == 35) = false := beqF e35
  have f36 : (op == 36) = false := beqF e36
  have f24 : (op == 24) = false := beqF e24
  have f25 : (op == 25) = false := beqF e25
  have f27 : (op == 27) = false := beqF e27
  have n24 : (op != 24) = true := bneT e24
  have n27 : (op != 27) = true := bneT e27
  have HNE := Lib.hid (And.intro e24 (And.intro e25 (And.intro e27 e33)))
  have HFZ : Hid (FitZ P k op a b ↔ True) := Lib.hid ⟨fun _ => trivial, fun _ => ⟨ei, fun e => absurd e (by rw [HNV.out]; decide), fun e => absurd e (by rw [HNV.out]; decide), fun e => absurd e (by rw [el]; decide), fun e => absurd e e26⟩⟩
  clear el ei hne en e3 e4 e5 e6 e7 e8 e26 e28 e30 e31 e32 e33 e34 e35 e36 e24 e25 e27
  go_enter Tryz.func22, Tryz.ntmps22
  go_wp2_with fail
  rw [HW2.out]
  refine (HNM.out _).mono ?_
  rintro e w3 ⟨rfl, ht3⟩
  have hn3 := HN1.out.touch ht3 (by simp)
  have hb3 := HB1.out.touch ht3 (by simp)
  have HT3 := Lib.hid (HT2.out.trans ht3)
  have HN3 := Lib.hid hn3
  have HB3 := Lib.hid hb3
  clear q0 b0 x0 x1 x2 ht3
  have q0 := hn3.cell (i := 0) rfl
  have q1 := hn3.cell (i := 1) rfl
  have q2 := hn3.cell (i := 2) rfl
  have b1 := hb3.cell (i := 1) rfl
  have b2 := hb3.cell (i := 2) rfl
  have b3 := hb3.cell (i := 3) rfl
  have b4 := hb3.cell (i := 4) rfl
  have b6 := hb3.cell (i := 6) rfl
  have b7 := hb3.cell (i := 7) rfl
  clear hn3 hb3
  go_wp2_with fail
  refine (HOP.out _).mono ?_
  rintro e w4 ⟨rfl, rfl⟩
  rw [HNV.out]
  go_wp2_with fail
  refine (HOP.out _).mono ?_
  rintro e w4 ⟨rfl, rfl⟩
  rw [HNV.out]
  have HF : Hid (FitZ P k op a b) := Lib.hid (HFZ.out.2 trivial)
  have hgg := HGG.out
  subst hgg
  have XF : ∀ q : Later w3, q.world.cell? ⟨g, off + k * 3, none⟩ = some (.int .i64 (fr : Int)) := fun q => (HXO.out _ (HT3.out.trans q.ok)).1
  have B0 : ∀ q : Later w3, q.world.cell? ⟨w.heap.size, 0, none⟩ = some (.slice (some ⟨g1, off1, none⟩) P.n1 c1) := fun q => (HB3.out.touch q.ok (by simp)).cell rfl
  have B1 : ∀ q : Later w3, q.world.cell? ⟨w.heap.size, 1, none⟩ = some (.slice (some ⟨g, off, none⟩) P.n2 c2) := fun q => (HB3.out.touch q.ok (by simp)).cell rfl
  have B2 : ∀ q : Later w3, q.world.cell? ⟨w.heap.size, 2, none⟩ = some (.slice a3 P.n3 c3) := fun q => (HB3.out.touch q.ok (by simp)).cell rfl
  have B3 : ∀ q : Later w3, q.world.cell? ⟨w.heap.size, 3, none⟩ = some (.int .i64 P.rg) := fun q => (HB3.out.touch q.ok (by simp)).cell rfl
  have B4 : ∀ q : Later w3, q.world.cell? ⟨w.heap.size, 4, none⟩ = some (.slice a5 P.se.length c5) := fun q => (HB3.out.touch q.ok (by simp)).cell rfl
  have B5 : ∀ q : Later w3, q.world.cell? ⟨w.heap.size, 5, none⟩ = some (.slice a6 P.tt.length c6) := fun q => (HB3.out.touch q.ok (by simp)).cell rfl
  have B6 : ∀ q : Later w3, q.world.cell? ⟨w.heap.size, 6, none⟩ = some (.slice a7 P.ve.length c7) := fun q => (HB3.out.touch q.ok (by simp)).cell rfl
  have B7 : ∀ q : Later w3, q.world.cell? ⟨w.heap.size, 7, none⟩ = some (.slice a8 P.n8 c8) := fun q => (HB3.out.touch q.ok (by simp)).cell rfl
  have B8 : ∀ q : Later w3, q.world.cell? ⟨w.heap.size, 8, none⟩ = some (.int .i64 P.cl) := fun q => (HB3.out.touch q.ok (by simp)).cell rfl
  have HTE := Lib.hid HT3.out
  go_wp2_with fail
  refine wp_region_later (by kernel_rfl) (by kernel_rfl) ?_
  repeat (first
    | (go_big_quiet_step ((first | (with_reducible rfl) | (with_reducible exact Later.met (HEND.out _ (HTE.out.trans (Later.ok _)))))))
    | (quiet_step (fail)))
  refine wpQuiet_nil ?_
  intro wq hw'
  obtain ⟨⟨wq', hwq⟩, hwe⟩ := hw'
  have hwe : wq = wq' := hwe
  subst hwe
  have hn5 := HN3.out.touch hwq (by simp)
  have HT5 := Lib.hid (HT3.out.trans hwq)
  clear hwe hwq XF B0 B1 B2 B3 B4 B5 B6 B7 B8 q0 q1 q2 b1 b2 b3 b4 b6 b7
  have q0 := hn5.cell (i := 0) rfl
  have q1 := hn5.cell (i := 1) rfl
  have q2 := hn5.cell (i := 2) rfl
  clear hn5
  by_cases hl : (i : Int) = (tt : Int) - 1
  · have HE : Hid (C = 28) := Lib.hid (HC28.out HF.out (fun q => by have := HIFF.out.2 (q.on HNE.out.1 HNE.out.2.2.1); omega))
    have dl : ((i : Int) == (tt : Int) - 1) = true := beqT hl
    clear hl
    go_wp2_with fail
    go_ret
    exact ⟨by (rw [HE.out]) <;> rfl, HT5.out⟩
  · have HE : Hid (C = 0) := Lib.hid (HC0.out HF.out ⟨fun e => e.elim (fun e => absurd e HNE.out.1) (fun e => absurd e HNE.out.2.1), fun e => absurd e HNE.out.2.2.2, fun _ _ => HIFF.out.1 (by omega)⟩)
    have dl : ((i : Int) == (tt : Int) - 1) = false := beqF hl
    clear hl
    go_wp2_with fail
    go_ret
    exact ⟨by (rw [HE.out]) <;> rfl, HT5.out⟩
set_option maxHeartbeats 64000000 in
set_option maxRecDepth 100000 in
theorem rinstr_no (pv : Value) (P : Pg) (k i : Nat) (op a b : Int) (w : World) (h : PgV w pv P) (ht : TabOk P) (hk : k < P.n2) (hi1 : fromP P k ≤ i) (hi2 : i < toP P k) (e1 : P.op i = op) (e2 : P.a i = a) (e3 : P.b i = b) (ei : isZ op = false) : Calls Tryz.prog 22 #[pv, .int .i64 (k : Int), .int .i64 (i : Int)] w (IntQ (insC P k i) w) := by
  have hm : MayP P := ht 0 (by omega)
  have hen : EntOk P k := (show ∀ i, i < P.n2 → EntOk P i from ht 1 (by omega)) k hk
  have hrg : betw 0 16 P.rg := ht 3 (by omega)
  have hl0 : 0 ≤ P.z2 k 2 := Int.le_trans hen.p0 hen.l0
  have hl1 := hen.l1
  obtain ⟨hr0, hr1⟩ := hrg
  obtain ⟨hft1, hft2, hft3⟩ := from_lt ht hk
  obtain ⟨hC27, hC28, hC0⟩ := insC_z (P := P) (k := k) (i := i) e1 e2 e3
  have HC27 := Lib.hid hC27
  have HC28 := Lib.hid hC28
  have HC0 := Lib.hid hC0
  have HTO := Lib.hid ht
  obtain ⟨C, hC⟩ : ∃ z, insC P k i = z := ⟨_, rfl⟩
  rw [hC] at HC27 HC28 HC0 ⊢
  clear hC hC27 hC28 hC0
  obtain ⟨a1, a2, a3, a5, a6, a7, a8, c1, c2, c3, c5, c6, c7, c8, rfl, ho⟩ := h.open
  obtain ⟨m1, m2, m3, m4, m5, m6, m7, m8, m9⟩ := id hm
  have HO := Lib.hid ho
  have HEND : Hid (∀ wz, Touch [] w wz → Calls Tryz.prog 21 #[.agg #[.slice a1 P.n1 c1, .slice a2 P.n2 c2, .slice a3 P.n3 c3, .int .i64 P.rg, .slice a5 P.se.length c5, .slice a6 P.tt.length c6, .slice a7 P.ve.length c7, .slice a8 P.n8 c8, .int .i64 P.cl], .int .i64 (k : Int)] wz (IntQ (toP P k : Int) wz)) := Lib.hid (fun wz htz => rend_any _ P k wz (ho.touch htz).val ht hk)
  have hin1 : i < P.n1 := by omega
  obtain ⟨g1, off1, hg1, xo1⟩ := ho.h1.at3 hin1
  obtain ⟨g, off, hg, xo⟩ := ho.h2.at3 hk
  have hb0 : Blk (w.alloc (.cells #[.slice a1 P.n1 c1, .slice a2 P.n2 c2, .slice a3 P.n3 c3, .int .i64 P.rg, .slice a5 P.se.length c5, .slice a6 P.tt.length c6, .slice a7 P.ve.length c7, .slice a8 P.n8 c8, .int .i64 P.cl] 29)) w.heap.size #[.slice a1 P.n1 c1, .slice a2 P.n2 c2, .slice a3 P.n3 c3, .int .i64 P.rg, .slice a5 P.se.length c5, .slice a6 P.tt.length c6, .slice a7 P.ve.length c7, .slice a8 P.n8 c8, .int .i64 P.cl] 29 := Blk.new rfl
  have hb1 := hb0.alloc (.cells #[.int .i64 op, .int .i64 a, .int .i64 b] 42)
  have hn1 : Blk ((w.alloc (.cells #[.slice a1 P.n1 c1, .slice a2 P.n2 c2, .slice a3 P.n3 c3, .int .i64 P.rg, .slice a5 P.se.length c5, .slice a6 P.tt.length c6, .slice a7 P.ve.length c7, .slice a8 P.n8 c8, .int .i64 P.cl] 29)).alloc (.cells #[.int .i64 op, .int .i64 a, .int .i64 b] 42)) (w.heap.size + 1) #[.int .i64 op, .int .i64 a, .int .i64 b] 42 := Blk.new (by simp)
  have ht1 : Touch [] w (w.alloc (.cells #[.slice a1 P.n1 c1, .slice a2 P.n2 c2, .slice a3 P.n3 c3, .int .i64 P.rg, .slice a5 P.se.length c5, .slice a6 P.tt.length c6, .slice a7 P.ve.length c7, .slice a8 P.n8 c8, .int .i64 P.cl] 29)) := (Touch.refl [] w).alloc _
  have ht2 : Touch [] w ((w.alloc (.cells #[.slice a1 P.n1 c1, .slice a2 P.n2 c2, .slice a3 P.n3 c3, .int .i64 P.rg, .slice a5 P.se.length c5, .slice a6 P.tt.length c6, .slice a7 P.ve.length c7, .slice a8 P.n8 c8, .int .i64 P.cl] 29)).alloc (.cells #[.int .i64 op, .int .i64 a, .int .i64 b] 42)) := ((Touch.refl [] w).alloc _).alloc _
  have xi := xo1 _ ht1
  rw [show P.z1 i 0 = op from e1, show P.z1 i 1 = a from e2, show P.z1 i 2 = b from e3] at xi
  obtain ⟨x0, x1, x2⟩ := xi
  obtain ⟨W2, hW2⟩ : ∃ x, ((w.alloc (.cells #[.slice a1 P.n1 c1, .slice a2 P.n2 c2, .slice a3 P.n3 c3, .int .i64 P.rg, .slice a5 P.se.length c5, .slice a6 P.tt.length c6, .slice a7 P.ve.length c7, .slice a8 P.n8 c8, .int .i64 P.cl] 29)).alloc (.cells #[.int .i64 op, .int .i64 a, .int .i64 b] 42)) = x := ⟨_, rfl⟩
  rw [hW2] at hb1 hn1 ht2
  have HW2 := Lib.hid hW2
  have HT2 := Lib.hid ht2
  have HN1 := Lib.hid hn1
  have HB1 := Lib.hid hb1
  have HXO : Hid (∀ w', Touch [] w w' → w'.cell? ⟨g, off + k * 3, none⟩ = some (.int .i64 (fromP P k : Int)) ∧ w'.cell? ⟨g, off + k * 3 + 2, none⟩ = some (.int .i64 (P.z2 k 2))) := Lib.hid (fun w' h => ⟨by rw [hft3]; exact (xo w' h).1, (xo w' h).2.2⟩)
  have b0 := hb0.cell (i := 0) rfl
  have q0 := hn1.cell (i := 0) rfl
  have im0 : (0 : Int) ≤ (k : Int) := by omega
  have im1 : (k : Int) < (P.n2 : Int) := by omega
  have ii0 : (0 : Int) ≤ (i : Int) := by omega
  have ii1 : (i : Int) < (P.n1 : Int) := by omega
  have HGG := Lib.hid hg
  have HGI : Hid ((fromP P k : Int) ≤ (i : Int) ∧ (i : Int) < (toP P k : Int) ∧ (toP P k : Int) ≤ 5000) := Lib.hid ⟨by omega, by omega, by omega⟩
  have HIFF : Hid ((i : Int) + 1 < (toP P k : Int) ↔ i + 1 < toP P k) := Lib.hid (by omega)
  subst hg1
  obtain ⟨fr, hfr⟩ : ∃ z, fromP P k = z := ⟨_, rfl⟩
  obtain ⟨tt, htt⟩ : ∃ z, toP P k = z := ⟨_, rfl⟩
  rw [hfr] at HC28 HC0 HXO HGI
  rw [htt] at HC28 HC0 HGI HEND HIFF
  obtain ⟨hgi1, hgi2, hgi3⟩ := HGI.out
  have HNM : Hid (∀ wz, Calls Tryz.prog 51 #[.int .i64 op] wz (StrP (nmZ op) wz)) := Lib.hid (fun wz => rname_any op wz)
  have HOP : Hid (∀ wz, Calls Tryz.prog 52 #[.int .i64 op] wz fun e w' => e = .returned (.int .i64 (opZ op)) ∧ wz = w') := Lib.hid (fun wz => roperands_any op wz)
  obtain ⟨nm, hnm⟩ : ∃ z, nmZ op = z := ⟨_, rfl⟩
  have HNN := Lib.hid hnm
  rw [hnm] at HNM
  clear h ht hm hen ho hb0 hb1 hn1 ht1 ht2 hW2 xo xo1 hg hft1 hft2 hft3 hfr htt hnm hi1 hi2 e1 e2 e3 hin1
  have hem : nm = ByteArray.empty := by rw [← HNN.out]; exact nm_emp ei
  have dn : nm.toList.isEmpty = true := by rw [hem]; exact emT7
  have HE : Hid (C = 27) := Lib.hid (HC27.out (fun q => by have := q.is_; rw [ei] at this; cases this))
  clear ei hem
  go_enter Tryz.func22, Tryz.ntmps22
  go_wp2_with fail
  rw [HW2.out]
  refine (HNM.out _).mono ?_
  rintro e w3 ⟨rfl, ht3⟩
  have hn3 := HN1.out.touch ht3 (by simp)
  have hb3 := HB1.out.touch ht3 (by simp)
  have HT3 := Lib.hid (HT2.out.trans ht3)
  have HN3 := Lib.hid hn3
  have HB3 := Lib.hid hb3
  clear q0 b0 x0 x1 x2 ht3
  have q0 := hn3.cell (i := 0) rfl
  have q1 := hn3.cell (i := 1) rfl
  have q2 := hn3.cell (i := 2) rfl
  have b1 := hb3.cell (i := 1) rfl
  have b2 := hb3.cell (i := 2) rfl
  have b3 := hb3.cell (i := 3) rfl
  have b4 := hb3.cell (i := 4) rfl
  have b6 := hb3.cell (i := 6) rfl
  have b7 := hb3.cell (i := 7) rfl
  clear hn3 hb3
  go_wp2_with fail
  go_ret
  exact ⟨by (rw [HE.out]) <;> rfl, HT3.out⟩
end Go.Proofs.YtjfnoondkgjabaaGreatDoor

set_option linter.unusedVariables false
namespace Go.Proofs.YtjfnoondkgjabaaGreatDoor
open Go Go.RowKit

theorem rinstr_any (pv : Value) (P : Pg) (k i : Nat) (w : World) (h : PgV w pv P) (ht : TabOk P) (hk : k < P.n2) (hi1 : fromP P k ≤ i) (hi2 : i < toP P k) : Calls Tryz.prog 22 #[pv, .int .i64 (k : Int), .int .i64 (i : Int)] w (IntQ (insC P k i) w) := by
  by_cases e3 : P.op i = 3
  · exact rinstr_3 pv P k i _ _ _ w h ht hk hi1 hi2 rfl rfl rfl e3
  by_cases e4 : P.op i = 4
  · exact rinstr_4 pv P k i _ _ _ w h ht hk hi1 hi2 rfl rfl rfl e4
  by_cases e5 : P.op i = 5
  · exact rinstr_5 pv P k i _ _ _ w h ht hk hi1 hi2 rfl rfl rfl e5
  by_cases e6 : P.op i = 6
  · exact rinstr_6 pv P k i _ _ _ w h ht hk hi1 hi2 rfl rfl rfl e6
  by_cases e7 : P.op i = 7
  · exact rinstr_7 pv P k i _ _ _ w h ht hk hi1 hi2 rfl rfl rfl e7
  by_cases e8 : P.op i = 8
  · exact rinstr_8 pv P k i _ _ _ w h ht hk hi1 hi2 rfl rfl rfl e8
  by_cases e26 : P.op i = 26
  · exact rinstr_26 pv P k i _ _ _ w h ht hk hi1 hi2 rfl rfl rfl e26
  by_cases e28 : P.op i = 28
  · exact rinstr_28 pv P k i _ _ _ w h ht hk hi1 hi2 rfl rfl rfl e28
  by_cases e30 : P.op i = 30
  · exact rinstr_30 pv P k i _ _ _ w h ht hk hi1 hi2 rfl rfl rfl e30
  by_cases e31 : P.op i = 31
  · exact rinstr_31 pv P k i _ _ _ w h ht hk hi1 hi2 rfl rfl rfl e31
  by_cases e32 : P.op i = 32
  · exact rinstr_32 pv P k i _ _ _ w h ht hk hi1 hi2 rfl rfl rfl e32
  by_cases e33 : P.op i = 33
  · exact rinstr_33 pv P k i _ _ _ w h ht hk hi1 hi2 rfl rfl rfl e33
  by_cases e34 : P.op i = 34
  · exact rinstr_34 pv P k i _ _ _ w h ht hk hi1 hi2 rfl rfl rfl e34
  by_cases e35 : P.op i = 35
  · exact rinstr_35 pv P k i _ _ _ w h ht hk hi1 hi2 rfl rfl rfl e35
  by_cases e36 : P.op i = 36
  · exact rinstr_36 pv P k i _ _ _ w h ht hk hi1 hi2 rfl rfl rfl e36
  by_cases e24 : P.op i = 24
  · exact rinstr_24 pv P k i _ _ _ w h ht hk hi1 hi2 rfl rfl rfl e24
  by_cases e25 : P.op i = 25
  · exact rinstr_25 pv P k i _ _ _ w h ht hk hi1 hi2 rfl rfl rfl e25
  by_cases e27 : P.op i = 27
  · exact rinstr_27 pv P k i _ _ _ w h ht hk hi1 hi2 rfl rfl rfl e27
  have hsp : P.op i ∉ spec := by
    simp only [spec, List.mem_cons, List.not_mem_nil, or_false, not_or]
    exact ⟨e3, e4, e5, e6, e7, e8, e26, e28, e30, e31, e32, e33, e34, e35, e36⟩
  cases ei : isZ (P.op i) with
  | false => exact rinstr_no pv P k i _ _ _ w h ht hk hi1 hi2 rfl rfl rfl ei
  | true =>
    rcases opZ_012 (P.op i) with en | en | en
    · exact rinstr_g0 pv P k i _ _ _ w h ht hk hi1 hi2 rfl rfl rfl ei en hsp e24 e25 e27
    · exact rinstr_g1 pv P k i _ _ _ w h ht hk hi1 hi2 rfl rfl rfl ei en hsp e24 e25 e27
    · exact rinstr_g2 pv P k i _ _ _ w h ht hk hi1 hi2 rfl rfl rfl ei en hsp e24 e25 e27
end Go.Proofs.YtjfnoondkgjabaaGreatDoor

set_option linter.unusedVariables false
namespace Go.Proofs.YtjfnoondkgjabaaGreatDoor
open Go Go.RowKit

theorem snoc7 (t : List Nat) : t = [] ∨ ∃ t' i, t = t' ++ [i] := by
  by_cases h : t = []
  · exact .inl h
  · exact .inr ⟨t.dropLast, t.getLast h, (List.dropLast_concat_getLast h).symm⟩
/-- THE LAST, and what stands ahead of it. -/
theorem Qu.last {w : World} {base : Nat} {e : TypeId} {v x : Value} {xs : List Value} (h : Qu w base e v (xs ++ [x])) :
    ∃ g off cap, v = .slice (some ⟨g, off, none⟩) (xs.length + 1) cap ∧ w.cell? ⟨g, off + xs.length, none⟩ = some x ∧ xs.length + 1 ≤ cap ∧ cap ≤ maxLen ∧ Qu w base e (.slice (some ⟨g, off, none⟩) xs.length cap) xs := by
  rcases h with ⟨_, h⟩ | ⟨g, off, cap, cur, rfl, hb, hg, hle, hmax, hsz, hcells⟩
  · simp at h
  · simp at hle
    have hc := hcells xs.length (by simp)
    refine ⟨g, off, cap, by simp, hg.cell (by rw [hc]; simp), hle, hmax, .inr ⟨g, off, cap, cur, rfl, hb, hg, by omega, hmax, hsz, fun j hj => ?_⟩⟩
    rw [hcells j (by simp; omega), List.getElem?_append_left hj]
set_option maxHeartbeats 1000000 in
theorem rcopy7_any (v : Value) (xs : List Int) (w : World) (h : Sl w v xs) (hl : xs.length ≤ 1000000) :
    Calls Tryz.prog 24 #[v] w (Own xs w) := by
  have HS := Lib.hid h
  have HQ := Lib.hid (Qu.made (w := w) (base := w.heap.size) (e := 3) (b := w.heap.size) (n := 0) (c := #[]) rfl (Nat.le_refl _) rfl (Nat.zero_le _))
  obtain ⟨v', w', hr, hq', hg, hn⟩ := Qu.appendI (xs := []) HQ.out (by simp) (HS.out.alloc (.cells #[] 3)) (by simp; omega)
  have HQ' := Lib.hid hq'
  have HG : Hid (Touch [] w w') := Lib.hid (((Touch.refl _ w).alloc _).grown hg (fun k hk hlt => by simp [Value.ownBlock] at hk; omega))
  obtain ⟨va, vc, rfl⟩ := Qu.form hq'
  clear hq' hg hn HQ h
  go_enter Tryz.func24, Tryz.ntmps24
  go_wp2_with (at_builtin; refine Lib.wpList_append_run _ rfl _ _ _ _ rfl _ _ rfl rfl _ _ (hr _) ?_)
  go_ret
  exact ⟨_, rfl, HQ'.out, HG.out⟩
def ListO (l : List Int) (w : World) (e : Ending) (w' : World) : Prop := ∃ a c, e = .returned (.slice a l.length c) ∧ Hid (Sl w' (.slice a l.length c) l ∧ Touch [] w w' ∧ ∀ k, (Value.slice a l.length c).ownBlock = some k → w.heap.size ≤ k)
set_option maxHeartbeats 8000000 in
theorem rnextO_any (op a b A : Int) (w : World) (h0 : 0 ≤ A) (h1 : A ≤ 1000000) : Calls Tryz.prog 27 #[.agg #[.int .i64 op, .int .i64 a, .int .i64 b], .int .i64 A] w (ListO (nxA op a b A) w) := by
  have hb : Blk (w.alloc (.cells #[.int .i64 op, .int .i64 a, .int .i64 b] 42)) w.heap.size #[.int .i64 op, .int .i64 a, .int .i64 b] 42 := Blk.new rfl
  have HT0 := Lib.hid ((Touch.refl [] w).alloc (.cells #[.int .i64 op, .int .i64 a, .int .i64 b] 42))
  have c0 := hb.cell (i := 0) rfl
  have c1 := hb.cell (i := 1) rfl
  have c2 := hb.cell (i := 2) rfl
  unfold nxA
  clear hb
  by_cases e27 : op = 27
  · subst e27
    rw [if_pos rfl]
    go_enter Tryz.func27, Tryz.ntmps27
    go_wp2_with fail
    go_ret
    exact ⟨_, _, rfl, Lib.hid ⟨Sl.nil _, HT0.out, fun k hk => by simp [Value.ownBlock] at hk⟩⟩
  have f27 : (op == 27) = false := beqF e27
  by_cases e24 : op = 24
  · subst e24
    rw [if_neg (by decide), if_pos rfl]
    go_enter Tryz.func27, Tryz.ntmps27
    go_wp2_with fail
    go_ret
    exact ⟨_, _, rfl, Lib.hid ⟨slA1 (Blk.new (by simp)), HT0.out.alloc _, fun k hk => by simp [Value.ownBlock] at hk; omega⟩⟩
  have f24 : (op == 24) = false := beqF e24
  by_cases e25 : op = 25
  · subst e25
    rw [if_neg (by decide), if_neg (by decide), if_pos rfl]
    go_enter Tryz.func27, Tryz.ntmps27
    go_wp2_with fail
    go_ret
    exact ⟨_, _, rfl, Lib.hid ⟨slA2 (Blk.new (by simp)), HT0.out.alloc _, fun k hk => by simp [Value.ownBlock] at hk; omega⟩⟩
  have f25 : (op == 25) = false := beqF e25
  by_cases e33 : op = 33
  · subst e33
    rw [if_neg (by decide), if_neg (by decide), if_neg (by decide), if_pos rfl]
    go_enter Tryz.func27, Tryz.ntmps27
    go_wp2_with fail
    go_ret
    exact ⟨_, _, rfl, Lib.hid ⟨slA2 (Blk.new (by simp)), HT0.out.alloc _, fun k hk => by simp [Value.ownBlock] at hk; omega⟩⟩
  have f33 : (op == 33) = false := beqF e33
  rw [if_neg e27, if_neg e24, if_neg e25, if_neg e33]
  clear e27 e24 e25 e33
  go_enter Tryz.func27, Tryz.ntmps27
  go_wp2_with fail
  go_ret
  exact ⟨_, _, rfl, Lib.hid ⟨slA1 (Blk.new (by simp)), HT0.out.alloc _, fun k hk => by simp [Value.ownBlock] at hk; omega⟩⟩
/-- A place of a procedure, as a number of the program. -/
def plc (P : Pg) (k j : Nat) : Int := ((fromP P k + j : Nat) : Int)
theorem cons2 {x y : Int} {l m : List Int} (h : x = y) (h2 : l = m) : x :: l = y :: m := by rw [h, h2]
theorem nx_eq {P : Pg} {k i : Nat} (ht : TabOk P) (hk : k < P.n2) (hi : InsAll P k) (hin : i < (flow P k).n) : nxA (P.op (fromP P k + i)) (P.a (fromP P k + i)) (P.b (fromP P k + i)) (plc P k i) = ((flow P k).nx i).map (plc P k) := by
  have hn : i < toP P k - fromP P k := hin
  obtain ⟨hf, hg⟩ := insC_zero (hi (fromP P k + i) (by omega) (by omega))
  show nxA _ _ _ _ = (nxP P k i).map _
  unfold nxA nxP plc
  by_cases e27 : P.op (fromP P k + i) = 27
  · rw [if_pos e27, if_pos e27]; rfl
  rw [if_neg e27, if_neg e27]
  by_cases e24 : P.op (fromP P k + i) = 24
  · have := hg.jump (.inl e24)
    rw [if_pos e24, if_pos e24]
    exact cons2 (by (try dsimp only); omega) rfl
  rw [if_neg e24, if_neg e24]
  by_cases e25 : P.op (fromP P k + i) = 25
  · have := hg.jump (.inr e25)
    rw [if_pos e25, if_pos e25]
    exact cons2 (by (try dsimp only); omega) (cons2 (by (try dsimp only); omega) rfl)
  rw [if_neg e25, if_neg e25]
  by_cases e33 : P.op (fromP P k + i) = 33
  · have := hg.await e33
    rw [if_pos e33, if_pos e33]
    exact cons2 (by (try dsimp only); omega) (cons2 (by (try dsimp only); omega) rfl)
  rw [if_neg e33, if_neg e33]
  exact cons2 (by (try dsimp only); omega) rfl
theorem nx_len {P : Pg} {k i : Nat} : ((flow P k).nx i).length ≤ 2 := by
  show (nxP P k i).length ≤ 2
  unfold nxP
  split
  · simp
  split
  · simp
  split
  · simp
  split
  · simp
  · simp
/-- The reference's labels and what is still to be gone on from. -/
structure RdI (w0 w : World) (P : Pg) (k Z : Nat) (tv : Value) (D : List Int) (t : List Nat) : Prop where
  q : Qu w (w0.heap.size + 1) 3 tv ((t.map (plc P k)).map (Value.int .i64))
  nz : ∀ b, tv.ownBlock = some b → b ≠ Z
  d : Blk w Z (D.map (Value.int .i64)).toArray 3
  low : Low D
  t : Touch [] w0 w
  lz : w0.heap.size ≤ Z
theorem RdI.at {w0 w : World} {P : Pg} {k Z : Nat} {tv : Value} {D : List Int} {t : List Nat} (h : RdI w0 w P k Z tv D t) {i : Nat} (hi : i < D.length) : w.cell? ⟨Z, i, none⟩ = some (.int .i64 (lab D i)) := by
  refine h.d.cell ?_
  rw [List.getElem?_toArray, List.getElem?_map, List.getElem?_eq_getElem hi, ← lab_at hi]
  rfl
theorem RdI.touch {w0 w w' : World} {P : Pg} {k Z : Nat} {tv : Value} {D : List Int} {t : List Nat} (h : RdI w0 w P k Z tv D t) (ht : Touch [] w w') : RdI w0 w' P k Z tv D t :=
  ⟨h.q.touch ht (fun _ _ => by simp), h.nz, h.d.touch ht (by simp), h.low, h.t.trans ht, h.lz⟩
theorem RdI.set {w0 w : World} {P : Pg} {k Z : Nat} {tv : Value} {D : List Int} {t : List Nat} (h : RdI w0 w P k Z tv D t) (i : Nat) (x : Int) (hl : Low (D.set i x)) : RdI w0 (w.setCell ⟨Z, i, none⟩ (.int .i64 x)) P k Z tv (D.set i x) t := by
  have hg := h.d.set i (.int .i64 x)
  rw [List.setIfInBounds_toArray, ← List.map_set] at hg
  have ht : Touch [Z] w (w.setCell ⟨Z, i, none⟩ (.int .i64 x)) := (Touch.refl [Z] w).setCell (by simp) _
  exact ⟨h.q.touch ht (fun b hb => by have := h.nz b hb; simp; omega), h.nz, hg, hl, h.t.transF ht (fun q hq hlt => by have := h.lz; have := List.mem_singleton.1 hq; omega), h.lz⟩
theorem grown_touch {a b : World} {o : Option Nat} (hg : a.grownBy b o) : Touch o.toList a b := (Touch.refl _ a).grown hg (fun k hk _ => by subst hk; simp)
theorem nx_get {P : Pg} {k i j : Nat} (hj : j < ((flow P k).nx i).length) : ∃ q, ((flow P k).nx i).getD j 0 = q ∧ q ∈ (flow P k).nx i ∧ (((flow P k).nx i).map (plc P k)).getD j 0 = plc P k q ∧ ((flow P k).nx i).take (j + 1) = ((flow P k).nx i).take j ++ [q] := by
  refine ⟨_, rfl, ?_, ?_, ?_⟩
  · rw [List.getD_eq_getElem?_getD, List.getElem?_eq_getElem hj]; exact List.getElem_mem hj
  · rw [List.getD_eq_getElem?_getD, List.getD_eq_getElem?_getD, List.getElem?_map, List.getElem?_eq_getElem hj]; rfl
  · rw [List.getD_eq_getElem?_getD, List.getElem?_eq_getElem hj, List.take_add_one, List.getElem?_eq_getElem hj]; rfl
theorem tkP_04 {P : Pg} (ht : TabOk P) {k i : Nat} (hf : FitOk P k i) : 0 ≤ tkP P i ∧ tkP P i ≤ 4 := tk_04 ht hf
end Go.Proofs.YtjfnoondkgjabaaGreatDoor
