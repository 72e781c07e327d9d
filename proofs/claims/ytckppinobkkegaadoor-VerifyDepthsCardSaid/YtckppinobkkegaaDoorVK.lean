/-
  Whether an instruction's operands are places of what they name.
-/
import Derived.Test.YtckppinobkkegaaDoorVJ
import Derived.Test.YtckppinobkkegaaDoorIB
import Derived.Test.YtckppinobkkegaaDoorR
set_option linter.unusedVariables false
namespace Go.Proofs.YtckppinobkkegaaDoor
open Go Go.RowKit

structure FitZ (P : Pg) (k : Nat) (op a b : Int) : Prop where
  is_ : isZ op = true
  b0 : opZ op < 2 → b = 0
  a0 : opZ op < 1 → a = 0
  lim : 0 ≤ limN P k op → 0 ≤ a ∧ a < limN P k op
  call : op = 26 → a ≠ 0
theorem fit_iff {P : Pg} {k i : Nat} : FitOk P k i ↔ FitZ P k (P.op i) (P.a i) (P.b i) := ⟨fun h => ⟨h.is_, h.b0, h.a0, h.lim, h.call⟩, fun h => ⟨h.is_, h.b0, h.a0, h.lim, h.call⟩⟩
theorem go_iff {P : Pg} {k i : Nat} : GoOk P k i ↔ GoZ (P.op i) (P.a i) (P.b i) i (fromP P k) (toP P k) := ⟨fun h => ⟨h.jump, h.await, h.on⟩, fun h => ⟨h.jump, h.await, h.on⟩⟩
def spec : List Int := [3, 4, 5, 6, 7, 8, 26, 28, 30, 31, 32, 33, 34, 35, 36]
theorem lim_none {P : Pg} {k : Nat} {op : Int} (h : op ∉ spec) : limN P k op = -1 := by
  simp only [spec, List.mem_cons, List.not_mem_nil, or_false, not_or] at h
  obtain ⟨h3, h4, h5, h6, h7, h8, h26, h28, h30, h31, h32, h33, h34, h35, h36⟩ := h
  unfold limN
  simp only [h3, h4, h5, h6, h7, h8, h26, h28, h30, h31, h32, h33, h34, h35, h36, or_self, if_false]
theorem opZ_012 (op : Int) : opZ op = 0 ∨ opZ op = 1 ∨ opZ op = 2 := by
  have := opT_02 op.toNat
  unfold opZ
  omega
theorem placeq (a n : Int) (hn : 0 ≤ n) (hn2 : n ≤ 1000000) (wz : World) (b : Bool) (hb : decide (0 ≤ a ∧ a < n) = b) : Calls Tryd.prog 49 #[.int .i64 a, .int .i64 n] wz fun e w' => e = .returned (.bool b) ∧ wz = w' := by
  have := place_any a n hn hn2 wz
  rw [hb] at this
  exact this
set_option maxHeartbeats 64000000 in
set_option maxRecDepth 100000 in
theorem operandsFit_any (pv : Value) (P : Pg) (k : Nat) (op a b : Int) (w : World) (hv : Vs w) (h : PgV w pv P) (ht : TabOk P) (hk : k < P.n2) : Calls Tryd.prog 43 #[pv, .int .i64 (k : Int), .agg #[.int .i64 op, .int .i64 a, .int .i64 b]] w (BoolI (FitZ P k op a b) w) := by
  have hm : MayP P := ht 0 (by omega)
  have hen : EntOk P k := (show ∀ i, i < P.n2 → EntOk P i from ht 1 (by omega)) k hk
  have hrg : betw 0 16 P.rg := ht 3 (by omega)
  have hl0 : 0 ≤ P.z2 k 2 := Int.le_trans hen.p0 hen.l0
  have hl1 := hen.l1
  obtain ⟨hr0, hr1⟩ := hrg
  have HEN := Lib.hid hen
  obtain ⟨a1, a2, a3, a5, a6, a7, a8, c1, c2, c3, c5, c6, c7, c8, rfl, ho⟩ := h.open
  obtain ⟨m1, m2, m3, m4, m5, m6, m7, m8, m9⟩ := id hm
  have HO := Lib.hid ho
  obtain ⟨g, off, hg, xo⟩ := ho.h2.at3 hk
  have hb0 : Blk (w.alloc (.cells #[.slice a1 P.n1 c1, .slice a2 P.n2 c2, .slice a3 P.n3 c3, .int .i64 P.rg, .slice a5 P.se.length c5, .slice a6 P.tt.length c6, .slice a7 P.ve.length c7, .slice a8 P.n8 c8, .int .i64 P.cl] 29)) w.heap.size #[.slice a1 P.n1 c1, .slice a2 P.n2 c2, .slice a3 P.n3 c3, .int .i64 P.rg, .slice a5 P.se.length c5, .slice a6 P.tt.length c6, .slice a7 P.ve.length c7, .slice a8 P.n8 c8, .int .i64 P.cl] 29 := Blk.new rfl
  have hb1 := hb0.alloc (.cells #[.int .i64 op, .int .i64 a, .int .i64 b] 40)
  have hn1 : Blk ((w.alloc (.cells #[.slice a1 P.n1 c1, .slice a2 P.n2 c2, .slice a3 P.n3 c3, .int .i64 P.rg, .slice a5 P.se.length c5, .slice a6 P.tt.length c6, .slice a7 P.ve.length c7, .slice a8 P.n8 c8, .int .i64 P.cl] 29)).alloc (.cells #[.int .i64 op, .int .i64 a, .int .i64 b] 40)) (w.heap.size + 1) #[.int .i64 op, .int .i64 a, .int .i64 b] 40 := Blk.new (by simp)
  have ht0 : Touch [] w ((w.alloc (.cells #[.slice a1 P.n1 c1, .slice a2 P.n2 c2, .slice a3 P.n3 c3, .int .i64 P.rg, .slice a5 P.se.length c5, .slice a6 P.tt.length c6, .slice a7 P.ve.length c7, .slice a8 P.n8 c8, .int .i64 P.cl] 29)).alloc (.cells #[.int .i64 op, .int .i64 a, .int .i64 b] 40)) := ((Touch.refl [] w).alloc _).alloc _
  obtain ⟨W2, hW2⟩ : ∃ x, ((w.alloc (.cells #[.slice a1 P.n1 c1, .slice a2 P.n2 c2, .slice a3 P.n3 c3, .int .i64 P.rg, .slice a5 P.se.length c5, .slice a6 P.tt.length c6, .slice a7 P.ve.length c7, .slice a8 P.n8 c8, .int .i64 P.cl] 29)).alloc (.cells #[.int .i64 op, .int .i64 a, .int .i64 b] 40)) = x := ⟨_, rfl⟩
  rw [hW2] at hb1 hn1 ht0
  have HW2 := Lib.hid hW2
  have HT0 := Lib.hid ht0
  have HV := Lib.hid (hv.touch ht0)
  have q0 := hn1.cell (i := 0) rfl
  have q1 := hn1.cell (i := 1) rfl
  have q2 := hn1.cell (i := 2) rfl
  have HN1 := Lib.hid hn1
  have HB1 := Lib.hid hb1
  have b1 := hb1.cell (i := 1) rfl
  have b2 := hb1.cell (i := 2) rfl
  have b4 := hb1.cell (i := 4) rfl
  have b6 := hb1.cell (i := 6) rfl
  have b7 := hb1.cell (i := 7) rfl
  have b3 := hb1.cell (i := 3) rfl
  have XL : ∀ q : Later W2, q.world.cell? ⟨g, off + k * 3 + 2, none⟩ = some (.int .i64 (P.z2 k 2)) := fun q => (xo _ (ht0.trans q.ok)).2.2
  have BP : ∀ q : Later W2, q.world.cell? ⟨w.heap.size, 1, none⟩ = some (.slice a2 P.n2 c2) := fun q => (hb1.touch q.ok (by simp)).cell rfl
  have NP : ∀ q : Later W2, q.world.cell? ⟨w.heap.size + 1, 1, none⟩ = some (.int .i64 a) := fun q => (hn1.touch q.ok (by simp)).cell rfl
  have im0 : (0 : Int) ≤ (k : Int) := by omega
  have im1 : (k : Int) < (P.n2 : Int) := by omega
  have HIS : Hid (∀ wz, Calls Tryd.prog 46 #[.int .i64 op] wz fun e w' => e = .returned (.bool (isZ op)) ∧ wz = w') := Lib.hid (fun wz => is_any op wz)
  have HOP : Hid (Calls Tryd.prog 52 #[.int .i64 op] W2 fun e w' => e = .returned (.int .i64 (opZ op)) ∧ W2 = w') := Lib.hid (operands_any op W2 HV.out)
  have HGG := Lib.hid hg
  clear hv h ht hm hen ho hb0 hb1 hn1 ht0 hW2 xo hg
  by_cases e3 : op = 3
  · subst e3
    have el : limN P k 3 = (P.n3 : Int) := by simp [limN]
    have eo : opZ 3 = 1 := by decide
    have ei : isZ 3 = true := by decide
    have HFZ : Hid (FitZ P k 3 a b ↔ (b = 0 ∧ (0 ≤ a ∧ a < (P.n3 : Int)))) := Lib.hid ⟨fun h => ⟨h.b0 (by rw [eo]; decide), by have := h.lim (by rw [el]; omega); rwa [el] at this⟩, fun h => ⟨ei, fun e => h.1, fun e => absurd e (by rw [eo]; decide), fun _ => by rw [el]; exact h.2, fun e => absurd e (by decide)⟩⟩
    rw [eo] at HOP
    rw [ei] at HIS
    clear el eo ei
    by_cases hb : ¬ b = 0
    · have HE : Hid (¬ FitZ P k 3 a b) := Lib.hid (fun q => hb (HFZ.out.1 q).1)
      have db : (b != 0) = true := bneT hb
      clear hb
      go_enter Tryd.func43, Tryd.ntmps43
      go_wp2_with fail
      rw [HW2.out]
      refine HOP.out.mono ?_
      rintro e w3 ⟨rfl, rfl⟩
      go_wp2_with fail
      refine (HIS.out _).mono ?_
      rintro e w3 ⟨rfl, rfl⟩
      go_wp2_with fail
      go_ret
      exact ⟨_, rfl, ⟨fun h => (by cases h), fun q => absurd q HE.out⟩, HT0.out⟩
    have hb : b = 0 := Decidable.not_not.1 hb
    subst hb
    have HBP : Hid (decide (0 ≤ a ∧ a < (P.n3 : Int)) = true ↔ (0 ≤ a ∧ a < (P.n3 : Int))) := Lib.hid decide_eq_true_iff
    obtain ⟨bp, hbp⟩ : ∃ z, decide (0 ≤ a ∧ a < (P.n3 : Int)) = z := ⟨_, rfl⟩
    have HP : Hid (∀ wz, Calls Tryd.prog 49 #[.int .i64 a, .int .i64 (P.n3 : Int)] wz fun e w' => e = .returned (.bool bp) ∧ wz = w') := Lib.hid (fun wz => placeq a (P.n3 : Int) (by omega) (by omega) wz bp hbp)
    rw [hbp] at HBP
    have HZ : Hid (bp = true ↔ FitZ P k 3 a 0) := Lib.hid ⟨fun e => HFZ.out.2 ⟨rfl, HBP.out.1 e⟩, fun q => HBP.out.2 (HFZ.out.1 q).2⟩
    clear hbp HFZ
    go_enter Tryd.func43, Tryd.ntmps43
    go_wp2_with fail
    rw [HW2.out]
    refine HOP.out.mono ?_
    rintro e w3 ⟨rfl, rfl⟩
    go_wp2_with fail
    refine (HIS.out _).mono ?_
    rintro e w3 ⟨rfl, rfl⟩
    go_wp2_with fail
    refine (HP.out _).mono ?_
    rintro e w3 ⟨rfl, rfl⟩
    go_wp2_with fail
    go_ret
    exact ⟨_, rfl, HZ.out, HT0.out⟩
  by_cases e4 : op = 4
  · subst e4
    have el : limN P k 4 = (P.n3 : Int) := by simp [limN]
    have eo : opZ 4 = 1 := by decide
    have ei : isZ 4 = true := by decide
    have HFZ : Hid (FitZ P k 4 a b ↔ (b = 0 ∧ (0 ≤ a ∧ a < (P.n3 : Int)))) := Lib.hid ⟨fun h => ⟨h.b0 (by rw [eo]; decide), by have := h.lim (by rw [el]; omega); rwa [el] at this⟩, fun h => ⟨ei, fun e => h.1, fun e => absurd e (by rw [eo]; decide), fun _ => by rw [el]; exact h.2, fun e => absurd e (by decide)⟩⟩
    rw [eo] at HOP
    rw [ei] at HIS
    clear el eo ei
    by_cases hb : ¬ b = 0
    · have HE : Hid (¬ FitZ P k 4 a b) := Lib.hid (fun q => hb (HFZ.out.1 q).1)
      have db : (b != 0) = true := bneT hb
      clear hb
      go_enter Tryd.func43, Tryd.ntmps43
      go_wp2_with fail
      rw [HW2.out]
      refine HOP.out.mono ?_
      rintro e w3 ⟨rfl, rfl⟩
      go_wp2_with fail
      refine (HIS.out _).mono ?_
      rintro e w3 ⟨rfl, rfl⟩
      go_wp2_with fail
      go_ret
      exact ⟨_, rfl, ⟨fun h => (by cases h), fun q => absurd q HE.out⟩, HT0.out⟩
    have hb : b = 0 := Decidable.not_not.1 hb
    subst hb
    have HBP : Hid (decide (0 ≤ a ∧ a < (P.n3 : Int)) = true ↔ (0 ≤ a ∧ a < (P.n3 : Int))) := Lib.hid decide_eq_true_iff
    obtain ⟨bp, hbp⟩ : ∃ z, decide (0 ≤ a ∧ a < (P.n3 : Int)) = z := ⟨_, rfl⟩
    have HP : Hid (∀ wz, Calls Tryd.prog 49 #[.int .i64 a, .int .i64 (P.n3 : Int)] wz fun e w' => e = .returned (.bool bp) ∧ wz = w') := Lib.hid (fun wz => placeq a (P.n3 : Int) (by omega) (by omega) wz bp hbp)
    rw [hbp] at HBP
    have HZ : Hid (bp = true ↔ FitZ P k 4 a 0) := Lib.hid ⟨fun e => HFZ.out.2 ⟨rfl, HBP.out.1 e⟩, fun q => HBP.out.2 (HFZ.out.1 q).2⟩
    clear hbp HFZ
    go_enter Tryd.func43, Tryd.ntmps43
    go_wp2_with fail
    rw [HW2.out]
    refine HOP.out.mono ?_
    rintro e w3 ⟨rfl, rfl⟩
    go_wp2_with fail
    refine (HIS.out _).mono ?_
    rintro e w3 ⟨rfl, rfl⟩
    go_wp2_with fail
    refine (HP.out _).mono ?_
    rintro e w3 ⟨rfl, rfl⟩
    go_wp2_with fail
    go_ret
    exact ⟨_, rfl, HZ.out, HT0.out⟩
  by_cases e5 : op = 5
  · subst e5
    have el : limN P k 5 = (P.n3 : Int) := by simp [limN]
    have eo : opZ 5 = 1 := by decide
    have ei : isZ 5 = true := by decide
    have HFZ : Hid (FitZ P k 5 a b ↔ (b = 0 ∧ (0 ≤ a ∧ a < (P.n3 : Int)))) := Lib.hid ⟨fun h => ⟨h.b0 (by rw [eo]; decide), by have := h.lim (by rw [el]; omega); rwa [el] at this⟩, fun h => ⟨ei, fun e => h.1, fun e => absurd e (by rw [eo]; decide), fun _ => by rw [el]; exact h.2, fun e => absurd e (by decide)⟩⟩
    rw [eo] at HOP
    rw [ei] at HIS
    clear el eo ei
    by_cases hb : ¬ b = 0
    · have HE : Hid (¬ FitZ P k 5 a b) := Lib.hid (fun q => hb (HFZ.out.1 q).1)
      have db : (b != 0) = true := bneT hb
      clear hb
      go_enter Tryd.func43, Tryd.ntmps43
      go_wp2_with fail
      rw [HW2.out]
      refine HOP.out.mono ?_
      rintro e w3 ⟨rfl, rfl⟩
      go_wp2_with fail
      refine (HIS.out _).mono ?_
      rintro e w3 ⟨rfl, rfl⟩
      go_wp2_with fail
      go_ret
      exact ⟨_, rfl, ⟨fun h => (by cases h), fun q => absurd q HE.out⟩, HT0.out⟩
    have hb : b = 0 := Decidable.not_not.1 hb
    subst hb
    have HBP : Hid (decide (0 ≤ a ∧ a < (P.n3 : Int)) = true ↔ (0 ≤ a ∧ a < (P.n3 : Int))) := Lib.hid decide_eq_true_iff
    obtain ⟨bp, hbp⟩ : ∃ z, decide (0 ≤ a ∧ a < (P.n3 : Int)) = z := ⟨_, rfl⟩
    have HP : Hid (∀ wz, Calls Tryd.prog 49 #[.int .i64 a, .int .i64 (P.n3 : Int)] wz fun e w' => e = .returned (.bool bp) ∧ wz = w') := Lib.hid (fun wz => placeq a (P.n3 : Int) (by omega) (by omega) wz bp hbp)
    rw [hbp] at HBP
    have HZ : Hid (bp = true ↔ FitZ P k 5 a 0) := Lib.hid ⟨fun e => HFZ.out.2 ⟨rfl, HBP.out.1 e⟩, fun q => HBP.out.2 (HFZ.out.1 q).2⟩
    clear hbp HFZ
    go_enter Tryd.func43, Tryd.ntmps43
    go_wp2_with fail
    rw [HW2.out]
    refine HOP.out.mono ?_
    rintro e w3 ⟨rfl, rfl⟩
    go_wp2_with fail
    refine (HIS.out _).mono ?_
    rintro e w3 ⟨rfl, rfl⟩
    go_wp2_with fail
    refine (HP.out _).mono ?_
    rintro e w3 ⟨rfl, rfl⟩
    go_wp2_with fail
    go_ret
    exact ⟨_, rfl, HZ.out, HT0.out⟩
  by_cases e6 : op = 6
  · subst e6
    have el : limN P k 6 = (P.n3 : Int) := by simp [limN]
    have eo : opZ 6 = 1 := by decide
    have ei : isZ 6 = true := by decide
    have HFZ : Hid (FitZ P k 6 a b ↔ (b = 0 ∧ (0 ≤ a ∧ a < (P.n3 : Int)))) := Lib.hid ⟨fun h => ⟨h.b0 (by rw [eo]; decide), by have := h.lim (by rw [el]; omega); rwa [el] at this⟩, fun h => ⟨ei, fun e => h.1, fun e => absurd e (by rw [eo]; decide), fun _ => by rw [el]; exact h.2, fun e => absurd e (by decide)⟩⟩
    rw [eo] at HOP
    rw [ei] at HIS
    clear el eo ei
    by_cases hb : ¬ b = 0
    · have HE : Hid (¬ FitZ P k 6 a b) := Lib.hid (fun q => hb (HFZ.out.1 q).1)
      have db : (b != 0) = true := bneT hb
      clear hb
      go_enter Tryd.func43, Tryd.ntmps43
      go_wp2_with fail
      rw [HW2.out]
      refine HOP.out.mono ?_
      rintro e w3 ⟨rfl, rfl⟩
      go_wp2_with fail
      refine (HIS.out _).mono ?_
      rintro e w3 ⟨rfl, rfl⟩
      go_wp2_with fail
      go_ret
      exact ⟨_, rfl, ⟨fun h => (by cases h), fun q => absurd q HE.out⟩, HT0.out⟩
    have hb : b = 0 := Decidable.not_not.1 hb
    subst hb
    have HBP : Hid (decide (0 ≤ a ∧ a < (P.n3 : Int)) = true ↔ (0 ≤ a ∧ a < (P.n3 : Int))) := Lib.hid decide_eq_true_iff
    obtain ⟨bp, hbp⟩ : ∃ z, decide (0 ≤ a ∧ a < (P.n3 : Int)) = z := ⟨_, rfl⟩
    have HP : Hid (∀ wz, Calls Tryd.prog 49 #[.int .i64 a, .int .i64 (P.n3 : Int)] wz fun e w' => e = .returned (.bool bp) ∧ wz = w') := Lib.hid (fun wz => placeq a (P.n3 : Int) (by omega) (by omega) wz bp hbp)
    rw [hbp] at HBP
    have HZ : Hid (bp = true ↔ FitZ P k 6 a 0) := Lib.hid ⟨fun e => HFZ.out.2 ⟨rfl, HBP.out.1 e⟩, fun q => HBP.out.2 (HFZ.out.1 q).2⟩
    clear hbp HFZ
    go_enter Tryd.func43, Tryd.ntmps43
    go_wp2_with fail
    rw [HW2.out]
    refine HOP.out.mono ?_
    rintro e w3 ⟨rfl, rfl⟩
    go_wp2_with fail
    refine (HIS.out _).mono ?_
    rintro e w3 ⟨rfl, rfl⟩
    go_wp2_with fail
    refine (HP.out _).mono ?_
    rintro e w3 ⟨rfl, rfl⟩
    go_wp2_with fail
    go_ret
    exact ⟨_, rfl, HZ.out, HT0.out⟩
  by_cases e7 : op = 7
  · subst e7
    have el : limN P k 7 = P.z2 k 2 := by simp [limN]
    have eo : opZ 7 = 1 := by decide
    have ei : isZ 7 = true := by decide
    have HFZ : Hid (FitZ P k 7 a b ↔ (b = 0 ∧ (0 ≤ a ∧ a < P.z2 k 2))) := Lib.hid ⟨fun h => ⟨h.b0 (by rw [eo]; decide), by have := h.lim (by rw [el]; omega); rwa [el] at this⟩, fun h => ⟨ei, fun e => h.1, fun e => absurd e (by rw [eo]; decide), fun _ => by rw [el]; exact h.2, fun e => absurd e (by decide)⟩⟩
    rw [eo] at HOP
    rw [ei] at HIS
    clear el eo ei
    by_cases hb : ¬ b = 0
    · have HE : Hid (¬ FitZ P k 7 a b) := Lib.hid (fun q => hb (HFZ.out.1 q).1)
      have db : (b != 0) = true := bneT hb
      clear hb
      go_enter Tryd.func43, Tryd.ntmps43
      go_wp2_with fail
      rw [HW2.out]
      refine HOP.out.mono ?_
      rintro e w3 ⟨rfl, rfl⟩
      go_wp2_with fail
      refine (HIS.out _).mono ?_
      rintro e w3 ⟨rfl, rfl⟩
      go_wp2_with fail
      go_ret
      exact ⟨_, rfl, ⟨fun h => (by cases h), fun q => absurd q HE.out⟩, HT0.out⟩
    have hb : b = 0 := Decidable.not_not.1 hb
    subst hb
    have HBP : Hid (decide (0 ≤ a ∧ a < P.z2 k 2) = true ↔ (0 ≤ a ∧ a < P.z2 k 2)) := Lib.hid decide_eq_true_iff
    obtain ⟨bp, hbp⟩ : ∃ z, decide (0 ≤ a ∧ a < P.z2 k 2) = z := ⟨_, rfl⟩
    have HP : Hid (∀ wz, Calls Tryd.prog 49 #[.int .i64 a, .int .i64 (P.z2 k 2)] wz fun e w' => e = .returned (.bool bp) ∧ wz = w') := Lib.hid (fun wz => placeq a (P.z2 k 2) (by omega) (by omega) wz bp hbp)
    rw [hbp] at HBP
    have HZ : Hid (bp = true ↔ FitZ P k 7 a 0) := Lib.hid ⟨fun e => HFZ.out.2 ⟨rfl, HBP.out.1 e⟩, fun q => HBP.out.2 (HFZ.out.1 q).2⟩
    clear hbp HFZ
    have hg := HGG.out
    subst hg
    go_enter Tryd.func43, Tryd.ntmps43
    go_wp2_with fail
    rw [HW2.out]
    refine HOP.out.mono ?_
    rintro e w3 ⟨rfl, rfl⟩
    go_wp2_with fail
    refine (HIS.out _).mono ?_
    rintro e w3 ⟨rfl, rfl⟩
    go_wp2_with fail
    refine wp_region_later (by kernel_rfl) (by kernel_rfl) ?_
    repeat (first
      | (go_big_quiet_step ((first | (with_reducible rfl) | (with_reducible exact Later.same (HP.out _)))))
      | (quiet_step (fail)))
    refine wpQuiet_nil ?_
    intro wq hw'
    obtain ⟨⟨wq', hwq⟩, hwe⟩ := hw'
    have hwe : wq = wq' := hwe
    subst hwe
    have HTq := Lib.hid (HT0.out.trans hwq)
    clear hwe hwq XL BP NP
    go_wp2_with fail
    go_ret
    exact ⟨_, rfl, HZ.out, HTq.out⟩
  by_cases e8 : op = 8
  · subst e8
    have el : limN P k 8 = P.z2 k 2 := by simp [limN]
    have eo : opZ 8 = 1 := by decide
    have ei : isZ 8 = true := by decide
    have HFZ : Hid (FitZ P k 8 a b ↔ (b = 0 ∧ (0 ≤ a ∧ a < P.z2 k 2))) := Lib.hid ⟨fun h => ⟨h.b0 (by rw [eo]; decide), by have := h.lim (by rw [el]; omega); rwa [el] at this⟩, fun h => ⟨ei, fun e => h.1, fun e => absurd e (by rw [eo]; decide), fun _ => by rw [el]; exact h.2, fun e => absurd e (by decide)⟩⟩
    rw [eo] at HOP
    rw [ei] at HIS
    clear el eo ei
    by_cases hb : ¬ b = 0
    · have HE : Hid (¬ FitZ P k 8 a b) := Lib.hid (fun q => hb (HFZ.out.1 q).1)
      have db : (b != 0) = true := bneT hb
      clear hb
      go_enter Tryd.func43, Tryd.ntmps43
      go_wp2_with fail
      rw [HW2.out]
      refine HOP.out.mono ?_
      rintro e w3 ⟨rfl, rfl⟩
      go_wp2_with fail
      refine (HIS.out _).mono ?_
      rintro e w3 ⟨rfl, rfl⟩
      go_wp2_with fail
      go_ret
      exact ⟨_, rfl, ⟨fun h => (by cases h), fun q => absurd q HE.out⟩, HT0.out⟩
    have hb : b = 0 := Decidable.not_not.1 hb
    subst hb
    have HBP : Hid (decide (0 ≤ a ∧ a < P.z2 k 2) = true ↔ (0 ≤ a ∧ a < P.z2 k 2)) := Lib.hid decide_eq_true_iff
    obtain ⟨bp, hbp⟩ : ∃ z, decide (0 ≤ a ∧ a < P.z2 k 2) = z := ⟨_, rfl⟩
    have HP : Hid (∀ wz, Calls Tryd.prog 49 #[.int .i64 a, .int .i64 (P.z2 k 2)] wz fun e w' => e = .returned (.bool bp) ∧ wz = w') := Lib.hid (fun wz => placeq a (P.z2 k 2) (by omega) (by omega) wz bp hbp)
    rw [hbp] at HBP
    have HZ : Hid (bp = true ↔ FitZ P k 8 a 0) := Lib.hid ⟨fun e => HFZ.out.2 ⟨rfl, HBP.out.1 e⟩, fun q => HBP.out.2 (HFZ.out.1 q).2⟩
    clear hbp HFZ
    have hg := HGG.out
    subst hg
    go_enter Tryd.func43, Tryd.ntmps43
    go_wp2_with fail
    rw [HW2.out]
    refine HOP.out.mono ?_
    rintro e w3 ⟨rfl, rfl⟩
    go_wp2_with fail
    refine (HIS.out _).mono ?_
    rintro e w3 ⟨rfl, rfl⟩
    go_wp2_with fail
    refine wp_region_later (by kernel_rfl) (by kernel_rfl) ?_
    repeat (first
      | (go_big_quiet_step ((first | (with_reducible rfl) | (with_reducible exact Later.same (HP.out _)))))
      | (quiet_step (fail)))
    refine wpQuiet_nil ?_
    intro wq hw'
    obtain ⟨⟨wq', hwq⟩, hwe⟩ := hw'
    have hwe : wq = wq' := hwe
    subst hwe
    have HTq := Lib.hid (HT0.out.trans hwq)
    clear hwe hwq XL BP NP
    go_wp2_with fail
    go_ret
    exact ⟨_, rfl, HZ.out, HTq.out⟩
  by_cases e26 : op = 26
  · subst e26
    have el : limN P k 26 = (P.n2 : Int) := by simp [limN]
    have eo : opZ 26 = 1 := by decide
    have ei : isZ 26 = true := by decide
    have HFZ : Hid (FitZ P k 26 a b ↔ (b = 0 ∧ (0 ≤ a ∧ a < (P.n2 : Int)) ∧ a ≠ 0)) := Lib.hid ⟨fun h => ⟨h.b0 (by rw [eo]; decide), by have := h.lim (by rw [el]; omega); rwa [el] at this, h.call rfl⟩, fun h => ⟨ei, fun e => h.1, fun e => absurd e (by rw [eo]; decide), fun _ => by rw [el]; exact h.2.1, fun e => h.2.2⟩⟩
    rw [eo] at HOP
    rw [ei] at HIS
    clear el eo ei
    by_cases hb : ¬ b = 0
    · have HE : Hid (¬ FitZ P k 26 a b) := Lib.hid (fun q => hb (HFZ.out.1 q).1)
      have db : (b != 0) = true := bneT hb
      clear hb
      go_enter Tryd.func43, Tryd.ntmps43
      go_wp2_with fail
      rw [HW2.out]
      refine HOP.out.mono ?_
      rintro e w3 ⟨rfl, rfl⟩
      go_wp2_with fail
      refine (HIS.out _).mono ?_
      rintro e w3 ⟨rfl, rfl⟩
      go_wp2_with fail
      go_ret
      exact ⟨_, rfl, ⟨fun h => (by cases h), fun q => absurd q HE.out⟩, HT0.out⟩
    have hb : b = 0 := Decidable.not_not.1 hb
    subst hb
    by_cases ha : a = 0
    · have HE : Hid (¬ FitZ P k 26 a 0) := Lib.hid (fun q => (HFZ.out.1 q).2.2 ha)
      subst ha
      go_enter Tryd.func43, Tryd.ntmps43
      go_wp2_with fail
      rw [HW2.out]
      refine HOP.out.mono ?_
      rintro e w3 ⟨rfl, rfl⟩
      go_wp2_with fail
      refine (HIS.out _).mono ?_
      rintro e w3 ⟨rfl, rfl⟩
      go_wp2_with fail
      go_ret
      exact ⟨_, rfl, ⟨fun h => (by cases h), fun q => absurd q HE.out⟩, HT0.out⟩
    have da : (a != 0) = true := bneT ha
    have HA := Lib.hid ha
    clear ha
    have HBP : Hid (decide (0 ≤ a ∧ a < (P.n2 : Int)) = true ↔ (0 ≤ a ∧ a < (P.n2 : Int))) := Lib.hid decide_eq_true_iff
    obtain ⟨bp, hbp⟩ : ∃ z, decide (0 ≤ a ∧ a < (P.n2 : Int)) = z := ⟨_, rfl⟩
    have HP : Hid (∀ wz, Calls Tryd.prog 49 #[.int .i64 a, .int .i64 (P.n2 : Int)] wz fun e w' => e = .returned (.bool bp) ∧ wz = w') := Lib.hid (fun wz => placeq a (P.n2 : Int) (by omega) (by omega) wz bp hbp)
    rw [hbp] at HBP
    have HZ : Hid (bp = true ↔ FitZ P k 26 a 0) := Lib.hid ⟨fun e => HFZ.out.2 ⟨rfl, HBP.out.1 e, HA.out⟩, fun q => HBP.out.2 (HFZ.out.1 q).2.1⟩
    clear hbp HFZ
    go_enter Tryd.func43, Tryd.ntmps43
    go_wp2_with fail
    rw [HW2.out]
    refine HOP.out.mono ?_
    rintro e w3 ⟨rfl, rfl⟩
    go_wp2_with fail
    refine (HIS.out _).mono ?_
    rintro e w3 ⟨rfl, rfl⟩
    go_wp2_with fail
    refine (HP.out _).mono ?_
    rintro e w3 ⟨rfl, rfl⟩
    go_wp2_with fail
    go_ret
    exact ⟨_, rfl, HZ.out, HT0.out⟩
  by_cases e28 : op = 28
  · subst e28
    have el : limN P k 28 = (P.n8 : Int) := by simp [limN]
    have eo : opZ 28 = 1 := by decide
    have ei : isZ 28 = true := by decide
    have HFZ : Hid (FitZ P k 28 a b ↔ (b = 0 ∧ (0 ≤ a ∧ a < (P.n8 : Int)))) := Lib.hid ⟨fun h => ⟨h.b0 (by rw [eo]; decide), by have := h.lim (by rw [el]; omega); rwa [el] at this⟩, fun h => ⟨ei, fun e => h.1, fun e => absurd e (by rw [eo]; decide), fun _ => by rw [el]; exact h.2, fun e => absurd e (by decide)⟩⟩
    rw [eo] at HOP
    rw [ei] at HIS
    clear el eo ei
    by_cases hb : ¬ b = 0
    · have HE : Hid (¬ FitZ P k 28 a b) := Lib.hid (fun q => hb (HFZ.out.1 q).1)
      have db : (b != 0) = true := bneT hb
      clear hb
      go_enter Tryd.func43, Tryd.ntmps43
      go_wp2_with fail
      rw [HW2.out]
      refine HOP.out.mono ?_
      rintro e w3 ⟨rfl, rfl⟩
      go_wp2_with fail
      refine (HIS.out _).mono ?_
      rintro e w3 ⟨rfl, rfl⟩
      go_wp2_with fail
      go_ret
      exact ⟨_, rfl, ⟨fun h => (by cases h), fun q => absurd q HE.out⟩, HT0.out⟩
    have hb : b = 0 := Decidable.not_not.1 hb
    subst hb
    have HBP : Hid (decide (0 ≤ a ∧ a < (P.n8 : Int)) = true ↔ (0 ≤ a ∧ a < (P.n8 : Int))) := Lib.hid decide_eq_true_iff
    obtain ⟨bp, hbp⟩ : ∃ z, decide (0 ≤ a ∧ a < (P.n8 : Int)) = z := ⟨_, rfl⟩
    have HP : Hid (∀ wz, Calls Tryd.prog 49 #[.int .i64 a, .int .i64 (P.n8 : Int)] wz fun e w' => e = .returned (.bool bp) ∧ wz = w') := Lib.hid (fun wz => placeq a (P.n8 : Int) (by omega) (by omega) wz bp hbp)
    rw [hbp] at HBP
    have HZ : Hid (bp = true ↔ FitZ P k 28 a 0) := Lib.hid ⟨fun e => HFZ.out.2 ⟨rfl, HBP.out.1 e⟩, fun q => HBP.out.2 (HFZ.out.1 q).2⟩
    clear hbp HFZ
    go_enter Tryd.func43, Tryd.ntmps43
    go_wp2_with fail
    rw [HW2.out]
    refine HOP.out.mono ?_
    rintro e w3 ⟨rfl, rfl⟩
    go_wp2_with fail
    refine (HIS.out _).mono ?_
    rintro e w3 ⟨rfl, rfl⟩
    go_wp2_with fail
    refine (HP.out _).mono ?_
    rintro e w3 ⟨rfl, rfl⟩
    go_wp2_with fail
    go_ret
    exact ⟨_, rfl, HZ.out, HT0.out⟩
  by_cases e30 : op = 30
  · subst e30
    have el : limN P k 30 = (P.se.length : Int) := by simp [limN]
    have eo : opZ 30 = 1 := by decide
    have ei : isZ 30 = true := by decide
    have HFZ : Hid (FitZ P k 30 a b ↔ (b = 0 ∧ (0 ≤ a ∧ a < (P.se.length : Int)))) := Lib.hid ⟨fun h => ⟨h.b0 (by rw [eo]; decide), by have := h.lim (by rw [el]; omega); rwa [el] at this⟩, fun h => ⟨ei, fun e => h.1, fun e => absurd e (by rw [eo]; decide), fun _ => by rw [el]; exact h.2, fun e => absurd e (by decide)⟩⟩
    rw [eo] at HOP
    rw [ei] at HIS
    clear el eo ei
    by_cases hb : ¬ b = 0
    · have HE : Hid (¬ FitZ P k 30 a b) := Lib.hid (fun q => hb (HFZ.out.1 q).1)
      have db : (b != 0) = true := bneT hb
      clear hb
      go_enter Tryd.func43, Tryd.ntmps43
      go_wp2_with fail
      rw [HW2.out]
      refine HOP.out.mono ?_
      rintro e w3 ⟨rfl, rfl⟩
      go_wp2_with fail
      refine (HIS.out _).mono ?_
      rintro e w3 ⟨rfl, rfl⟩
      go_wp2_with fail
      go_ret
      exact ⟨_, rfl, ⟨fun h => (by cases h), fun q => absurd q HE.out⟩, HT0.out⟩
    have hb : b = 0 := Decidable.not_not.1 hb
    subst hb
    have HBP : Hid (decide (0 ≤ a ∧ a < (P.se.length : Int)) = true ↔ (0 ≤ a ∧ a < (P.se.length : Int))) := Lib.hid decide_eq_true_iff
    obtain ⟨bp, hbp⟩ : ∃ z, decide (0 ≤ a ∧ a < (P.se.length : Int)) = z := ⟨_, rfl⟩
    have HP : Hid (∀ wz, Calls Tryd.prog 49 #[.int .i64 a, .int .i64 (P.se.length : Int)] wz fun e w' => e = .returned (.bool bp) ∧ wz = w') := Lib.hid (fun wz => placeq a (P.se.length : Int) (by omega) (by omega) wz bp hbp)
    rw [hbp] at HBP
    have HZ : Hid (bp = true ↔ FitZ P k 30 a 0) := Lib.hid ⟨fun e => HFZ.out.2 ⟨rfl, HBP.out.1 e⟩, fun q => HBP.out.2 (HFZ.out.1 q).2⟩
    clear hbp HFZ
    go_enter Tryd.func43, Tryd.ntmps43
    go_wp2_with fail
    rw [HW2.out]
    refine HOP.out.mono ?_
    rintro e w3 ⟨rfl, rfl⟩
    go_wp2_with fail
    refine (HIS.out _).mono ?_
    rintro e w3 ⟨rfl, rfl⟩
    go_wp2_with fail
    refine (HP.out _).mono ?_
    rintro e w3 ⟨rfl, rfl⟩
    go_wp2_with fail
    go_ret
    exact ⟨_, rfl, HZ.out, HT0.out⟩
  by_cases e31 : op = 31
  · subst e31
    have el : limN P k 31 = (P.se.length : Int) := by simp [limN]
    have eo : opZ 31 = 1 := by decide
    have ei : isZ 31 = true := by decide
    have HFZ : Hid (FitZ P k 31 a b ↔ (b = 0 ∧ (0 ≤ a ∧ a < (P.se.length : Int)))) := Lib.hid ⟨fun h => ⟨h.b0 (by rw [eo]; decide), by have := h.lim (by rw [el]; omega); rwa [el] at this⟩, fun h => ⟨ei, fun e => h.1, fun e => absurd e (by rw [eo]; decide), fun _ => by rw [el]; exact h.2, fun e => absurd e (by decide)⟩⟩
    rw [eo] at HOP
    rw [ei] at HIS
    clear el eo ei
    by_cases hb : ¬ b = 0
    · have HE : Hid (¬ FitZ P k 31 a b) := Lib.hid (fun q => hb (HFZ.out.1 q).1)
      have db : (b != 0) = true := bneT hb
      clear hb
      go_enter Tryd.func43, Tryd.ntmps43
      go_wp2_with fail
      rw [HW2.out]
      refine HOP.out.mono ?_
      rintro e w3 ⟨rfl, rfl⟩
      go_wp2_with fail
      refine (HIS.out _).mono ?_
      rintro e w3 ⟨rfl, rfl⟩
      go_wp2_with fail
      go_ret
      exact ⟨_, rfl, ⟨fun h => (by cases h), fun q => absurd q HE.out⟩, HT0.out⟩
    have hb : b = 0 := Decidable.not_not.1 hb
    subst hb
    have HBP : Hid (decide (0 ≤ a ∧ a < (P.se.length : Int)) = true ↔ (0 ≤ a ∧ a < (P.se.length : Int))) := Lib.hid decide_eq_true_iff
    obtain ⟨bp, hbp⟩ : ∃ z, decide (0 ≤ a ∧ a < (P.se.length : Int)) = z := ⟨_, rfl⟩
    have HP : Hid (∀ wz, Calls Tryd.prog 49 #[.int .i64 a, .int .i64 (P.se.length : Int)] wz fun e w' => e = .returned (.bool bp) ∧ wz = w') := Lib.hid (fun wz => placeq a (P.se.length : Int) (by omega) (by omega) wz bp hbp)
    rw [hbp] at HBP
    have HZ : Hid (bp = true ↔ FitZ P k 31 a 0) := Lib.hid ⟨fun e => HFZ.out.2 ⟨rfl, HBP.out.1 e⟩, fun q => HBP.out.2 (HFZ.out.1 q).2⟩
    clear hbp HFZ
    go_enter Tryd.func43, Tryd.ntmps43
    go_wp2_with fail
    rw [HW2.out]
    refine HOP.out.mono ?_
    rintro e w3 ⟨rfl, rfl⟩
    go_wp2_with fail
    refine (HIS.out _).mono ?_
    rintro e w3 ⟨rfl, rfl⟩
    go_wp2_with fail
    refine (HP.out _).mono ?_
    rintro e w3 ⟨rfl, rfl⟩
    go_wp2_with fail
    go_ret
    exact ⟨_, rfl, HZ.out, HT0.out⟩
  by_cases e32 : op = 32
  · subst e32
    have el : limN P k 32 = P.rg := by simp [limN]
    have eo : opZ 32 = 1 := by decide
    have ei : isZ 32 = true := by decide
    have HFZ : Hid (FitZ P k 32 a b ↔ (b = 0 ∧ (0 ≤ a ∧ a < P.rg))) := Lib.hid ⟨fun h => ⟨h.b0 (by rw [eo]; decide), by have := h.lim (by rw [el]; omega); rwa [el] at this⟩, fun h => ⟨ei, fun e => h.1, fun e => absurd e (by rw [eo]; decide), fun _ => by rw [el]; exact h.2, fun e => absurd e (by decide)⟩⟩
    rw [eo] at HOP
    rw [ei] at HIS
    clear el eo ei
    by_cases hb : ¬ b = 0
    · have HE : Hid (¬ FitZ P k 32 a b) := Lib.hid (fun q => hb (HFZ.out.1 q).1)
      have db : (b != 0) = true := bneT hb
      clear hb
      go_enter Tryd.func43, Tryd.ntmps43
      go_wp2_with fail
      rw [HW2.out]
      refine HOP.out.mono ?_
      rintro e w3 ⟨rfl, rfl⟩
      go_wp2_with fail
      refine (HIS.out _).mono ?_
      rintro e w3 ⟨rfl, rfl⟩
      go_wp2_with fail
      go_ret
      exact ⟨_, rfl, ⟨fun h => (by cases h), fun q => absurd q HE.out⟩, HT0.out⟩
    have hb : b = 0 := Decidable.not_not.1 hb
    subst hb
    have HBP : Hid (decide (0 ≤ a ∧ a < P.rg) = true ↔ (0 ≤ a ∧ a < P.rg)) := Lib.hid decide_eq_true_iff
    obtain ⟨bp, hbp⟩ : ∃ z, decide (0 ≤ a ∧ a < P.rg) = z := ⟨_, rfl⟩
    have HP : Hid (∀ wz, Calls Tryd.prog 49 #[.int .i64 a, .int .i64 (P.rg)] wz fun e w' => e = .returned (.bool bp) ∧ wz = w') := Lib.hid (fun wz => placeq a (P.rg) (by omega) (by omega) wz bp hbp)
    rw [hbp] at HBP
    have HZ : Hid (bp = true ↔ FitZ P k 32 a 0) := Lib.hid ⟨fun e => HFZ.out.2 ⟨rfl, HBP.out.1 e⟩, fun q => HBP.out.2 (HFZ.out.1 q).2⟩
    clear hbp HFZ
    go_enter Tryd.func43, Tryd.ntmps43
    go_wp2_with fail
    rw [HW2.out]
    refine HOP.out.mono ?_
    rintro e w3 ⟨rfl, rfl⟩
    go_wp2_with fail
    refine (HIS.out _).mono ?_
    rintro e w3 ⟨rfl, rfl⟩
    go_wp2_with fail
    refine (HP.out _).mono ?_
    rintro e w3 ⟨rfl, rfl⟩
    go_wp2_with fail
    go_ret
    exact ⟨_, rfl, HZ.out, HT0.out⟩
  by_cases e33 : op = 33
  · subst e33
    have el : limN P k 33 = P.rg := by simp [limN]
    have eo : opZ 33 = 2 := by decide
    have ei : isZ 33 = true := by decide
    have HFZ : Hid (FitZ P k 33 a b ↔ ((0 ≤ a ∧ a < P.rg))) := Lib.hid ⟨fun h => by have := h.lim (by rw [el]; omega); rwa [el] at this, fun h => ⟨ei, fun e => absurd e (by rw [eo]; decide), fun e => absurd e (by rw [eo]; decide), fun _ => by rw [el]; exact h, fun e => absurd e (by decide)⟩⟩
    rw [eo] at HOP
    rw [ei] at HIS
    clear el eo ei
    have HBP : Hid (decide (0 ≤ a ∧ a < P.rg) = true ↔ (0 ≤ a ∧ a < P.rg)) := Lib.hid decide_eq_true_iff
    obtain ⟨bp, hbp⟩ : ∃ z, decide (0 ≤ a ∧ a < P.rg) = z := ⟨_, rfl⟩
    have HP : Hid (∀ wz, Calls Tryd.prog 49 #[.int .i64 a, .int .i64 (P.rg)] wz fun e w' => e = .returned (.bool bp) ∧ wz = w') := Lib.hid (fun wz => placeq a (P.rg) (by omega) (by omega) wz bp hbp)
    rw [hbp] at HBP
    have HZ : Hid (bp = true ↔ FitZ P k 33 a b) := Lib.hid ⟨fun e => HFZ.out.2 (HBP.out.1 e), fun q => HBP.out.2 (HFZ.out.1 q)⟩
    clear hbp HFZ
    go_enter Tryd.func43, Tryd.ntmps43
    go_wp2_with fail
    rw [HW2.out]
    refine HOP.out.mono ?_
    rintro e w3 ⟨rfl, rfl⟩
    go_wp2_with fail
    refine (HIS.out _).mono ?_
    rintro e w3 ⟨rfl, rfl⟩
    go_wp2_with fail
    refine (HP.out _).mono ?_
    rintro e w3 ⟨rfl, rfl⟩
    go_wp2_with fail
    go_ret
    exact ⟨_, rfl, HZ.out, HT0.out⟩
  by_cases e34 : op = 34
  · subst e34
    have el : limN P k 34 = P.rg := by simp [limN]
    have eo : opZ 34 = 1 := by decide
    have ei : isZ 34 = true := by decide
    have HFZ : Hid (FitZ P k 34 a b ↔ (b = 0 ∧ (0 ≤ a ∧ a < P.rg))) := Lib.hid ⟨fun h => ⟨h.b0 (by rw [eo]; decide), by have := h.lim (by rw [el]; omega); rwa [el] at this⟩, fun h => ⟨ei, fun e => h.1, fun e => absurd e (by rw [eo]; decide), fun _ => by rw [el]; exact h.2, fun e => absurd e (by decide)⟩⟩
    rw [eo] at HOP
    rw [ei] at HIS
    clear el eo ei
    by_cases hb : ¬ b = 0
    · have HE : Hid (¬ FitZ P k 34 a b) := Lib.hid (fun q => hb (HFZ.out.1 q).1)
      have db : (b != 0) = true := bneT hb
      clear hb
      go_enter Tryd.func43, Tryd.ntmps43
      go_wp2_with fail
      rw [HW2.out]
      refine HOP.out.mono ?_
      rintro e w3 ⟨rfl, rfl⟩
      go_wp2_with fail
      refine (HIS.out _).mono ?_
      rintro e w3 ⟨rfl, rfl⟩
      go_wp2_with fail
      go_ret
      exact ⟨_, rfl, ⟨fun h => (by cases h), fun q => absurd q HE.out⟩, HT0.out⟩
    have hb : b = 0 := Decidable.not_not.1 hb
    subst hb
    have HBP : Hid (decide (0 ≤ a ∧ a < P.rg) = true ↔ (0 ≤ a ∧ a < P.rg)) := Lib.hid decide_eq_true_iff
    obtain ⟨bp, hbp⟩ : ∃ z, decide (0 ≤ a ∧ a < P.rg) = z := ⟨_, rfl⟩
    have HP : Hid (∀ wz, Calls Tryd.prog 49 #[.int .i64 a, .int .i64 (P.rg)] wz fun e w' => e = .returned (.bool bp) ∧ wz = w') := Lib.hid (fun wz => placeq a (P.rg) (by omega) (by omega) wz bp hbp)
    rw [hbp] at HBP
    have HZ : Hid (bp = true ↔ FitZ P k 34 a 0) := Lib.hid ⟨fun e => HFZ.out.2 ⟨rfl, HBP.out.1 e⟩, fun q => HBP.out.2 (HFZ.out.1 q).2⟩
    clear hbp HFZ
    go_enter Tryd.func43, Tryd.ntmps43
    go_wp2_with fail
    rw [HW2.out]
    refine HOP.out.mono ?_
    rintro e w3 ⟨rfl, rfl⟩
    go_wp2_with fail
    refine (HIS.out _).mono ?_
    rintro e w3 ⟨rfl, rfl⟩
    go_wp2_with fail
    refine (HP.out _).mono ?_
    rintro e w3 ⟨rfl, rfl⟩
    go_wp2_with fail
    go_ret
    exact ⟨_, rfl, HZ.out, HT0.out⟩
  by_cases e35 : op = 35
  · subst e35
    have el : limN P k 35 = (P.ve.length : Int) := by simp [limN]
    have eo : opZ 35 = 1 := by decide
    have ei : isZ 35 = true := by decide
    have HFZ : Hid (FitZ P k 35 a b ↔ (b = 0 ∧ (0 ≤ a ∧ a < (P.ve.length : Int)))) := Lib.hid ⟨fun h => ⟨h.b0 (by rw [eo]; decide), by have := h.lim (by rw [el]; omega); rwa [el] at this⟩, fun h => ⟨ei, fun e => h.1, fun e => absurd e (by rw [eo]; decide), fun _ => by rw [el]; exact h.2, fun e => absurd e (by decide)⟩⟩
    rw [eo] at HOP
    rw [ei] at HIS
    clear el eo ei
    by_cases hb : ¬ b = 0
    · have HE : Hid (¬ FitZ P k 35 a b) := Lib.hid (fun q => hb (HFZ.out.1 q).1)
      have db : (b != 0) = true := bneT hb
      clear hb
      go_enter Tryd.func43, Tryd.ntmps43
      go_wp2_with fail
      rw [HW2.out]
      refine HOP.out.mono ?_
      rintro e w3 ⟨rfl, rfl⟩
      go_wp2_with fail
      refine (HIS.out _).mono ?_
      rintro e w3 ⟨rfl, rfl⟩
      go_wp2_with fail
      go_ret
      exact ⟨_, rfl, ⟨fun h => (by cases h), fun q => absurd q HE.out⟩, HT0.out⟩
    have hb : b = 0 := Decidable.not_not.1 hb
    subst hb
    have HBP : Hid (decide (0 ≤ a ∧ a < (P.ve.length : Int)) = true ↔ (0 ≤ a ∧ a < (P.ve.length : Int))) := Lib.hid decide_eq_true_iff
    obtain ⟨bp, hbp⟩ : ∃ z, decide (0 ≤ a ∧ a < (P.ve.length : Int)) = z := ⟨_, rfl⟩
    have HP : Hid (∀ wz, Calls Tryd.prog 49 #[.int .i64 a, .int .i64 (P.ve.length : Int)] wz fun e w' => e = .returned (.bool bp) ∧ wz = w') := Lib.hid (fun wz => placeq a (P.ve.length : Int) (by omega) (by omega) wz bp hbp)
    rw [hbp] at HBP
    have HZ : Hid (bp = true ↔ FitZ P k 35 a 0) := Lib.hid ⟨fun e => HFZ.out.2 ⟨rfl, HBP.out.1 e⟩, fun q => HBP.out.2 (HFZ.out.1 q).2⟩
    clear hbp HFZ
    go_enter Tryd.func43, Tryd.ntmps43
    go_wp2_with fail
    rw [HW2.out]
    refine HOP.out.mono ?_
    rintro e w3 ⟨rfl, rfl⟩
    go_wp2_with fail
    refine (HIS.out _).mono ?_
    rintro e w3 ⟨rfl, rfl⟩
    go_wp2_with fail
    refine (HP.out _).mono ?_
    rintro e w3 ⟨rfl, rfl⟩
    go_wp2_with fail
    go_ret
    exact ⟨_, rfl, HZ.out, HT0.out⟩
  by_cases e36 : op = 36
  · subst e36
    have el : limN P k 36 = (P.ve.length : Int) := by simp [limN]
    have eo : opZ 36 = 1 := by decide
    have ei : isZ 36 = true := by decide
    have HFZ : Hid (FitZ P k 36 a b ↔ (b = 0 ∧ (0 ≤ a ∧ a < (P.ve.length : Int)))) := Lib.hid ⟨fun h => ⟨h.b0 (by rw [eo]; decide), by have := h.lim (by rw [el]; omega); rwa [el] at this⟩, fun h => ⟨ei, fun e => h.1, fun e => absurd e (by rw [eo]; decide), fun _ => by rw [el]; exact h.2, fun e => absurd e (by decide)⟩⟩
    rw [eo] at HOP
    rw [ei] at HIS
    clear el eo ei
    by_cases hb : ¬ b = 0
    · have HE : Hid (¬ FitZ P k 36 a b) := Lib.hid (fun q => hb (HFZ.out.1 q).1)
      have db : (b != 0) = true := bneT hb
      clear hb
      go_enter Tryd.func43, Tryd.ntmps43
      go_wp2_with fail
      rw [HW2.out]
      refine HOP.out.mono ?_
      rintro e w3 ⟨rfl, rfl⟩
      go_wp2_with fail
      refine (HIS.out _).mono ?_
      rintro e w3 ⟨rfl, rfl⟩
      go_wp2_with fail
      go_ret
      exact ⟨_, rfl, ⟨fun h => (by cases h), fun q => absurd q HE.out⟩, HT0.out⟩
    have hb : b = 0 := Decidable.not_not.1 hb
    subst hb
    have HBP : Hid (decide (0 ≤ a ∧ a < (P.ve.length : Int)) = true ↔ (0 ≤ a ∧ a < (P.ve.length : Int))) := Lib.hid decide_eq_true_iff
    obtain ⟨bp, hbp⟩ : ∃ z, decide (0 ≤ a ∧ a < (P.ve.length : Int)) = z := ⟨_, rfl⟩
    have HP : Hid (∀ wz, Calls Tryd.prog 49 #[.int .i64 a, .int .i64 (P.ve.length : Int)] wz fun e w' => e = .returned (.bool bp) ∧ wz = w') := Lib.hid (fun wz => placeq a (P.ve.length : Int) (by omega) (by omega) wz bp hbp)
    rw [hbp] at HBP
    have HZ : Hid (bp = true ↔ FitZ P k 36 a 0) := Lib.hid ⟨fun e => HFZ.out.2 ⟨rfl, HBP.out.1 e⟩, fun q => HBP.out.2 (HFZ.out.1 q).2⟩
    clear hbp HFZ
    go_enter Tryd.func43, Tryd.ntmps43
    go_wp2_with fail
    rw [HW2.out]
    refine HOP.out.mono ?_
    rintro e w3 ⟨rfl, rfl⟩
    go_wp2_with fail
    refine (HIS.out _).mono ?_
    rintro e w3 ⟨rfl, rfl⟩
    go_wp2_with fail
    refine (HP.out _).mono ?_
    rintro e w3 ⟨rfl, rfl⟩
    go_wp2_with fail
    go_ret
    exact ⟨_, rfl, HZ.out, HT0.out⟩
  have hsp : op ∉ spec := by
    simp only [spec, List.mem_cons, List.not_mem_nil, or_false, not_or]
    exact ⟨e3, e4, e5, e6, e7, e8, e26, e28, e30, e31, e32, e33, e34, e35, e36⟩
  have el : limN P k op = -1 := lim_none hsp
  have f3 : (op == 3) = false := beqF e3
  have f4 : (op == 4) = false := beqF e4
  have f5 : (op == 5) = false := beqF e5
  have f6 : (op == 6) = false := beqF e6
  have f7 : (op == 7) = false := beqF e7
  have f8 : (op == 8) = false := beqF e8
  have f26 : (op == 26) = false := beqF e26
  have f28 : (op == 28) = false := beqF e28
  have f30 : (op == 30) = false := beqF e30
  have f31 : (op == 31) = false := beqF e31
  have f32 : (op == 32) = false := beqF e32
  have f33 : (op == 33) = false := beqF e33
  have f34 : (op == 34) = false := beqF e34
  have f35 : (op == 35) = false := beqF e35
  have f36 : (op == 36) = false := beqF e36
  have HFZ : Hid (FitZ P k op a b ↔ (isZ op = true ∧ (opZ op < 2 → b = 0) ∧ (opZ op < 1 → a = 0))) := Lib.hid ⟨fun h => ⟨h.is_, h.b0, h.a0⟩, fun h => ⟨h.1, h.2.1, h.2.2, fun e => by rw [el] at e; omega, fun e => absurd e e26⟩⟩
  obtain ⟨n, hn⟩ : ∃ n, opZ op = n := ⟨_, rfl⟩
  have hnn := opZ_012 op
  obtain ⟨is, his⟩ : ∃ z, isZ op = z := ⟨_, rfl⟩
  rw [hn] at hnn HFZ HOP
  rw [his] at HFZ HIS
  clear hn his el hsp e3 e4 e5 e6 e7 e8 e26 e28 e30 e31 e32 e33 e34 e35 e36
  cases is with
  | false =>
    have HE : Hid (¬ FitZ P k op a b) := Lib.hid (fun q => by have := (HFZ.out.1 q).1; cases this)
    go_enter Tryd.func43, Tryd.ntmps43
    go_wp2_with fail
    rw [HW2.out]
    refine HOP.out.mono ?_
    rintro e w3 ⟨rfl, rfl⟩
    go_wp2_with fail
    refine (HIS.out _).mono ?_
    rintro e w3 ⟨rfl, rfl⟩
    go_wp2_with fail
    go_ret
    exact ⟨_, rfl, ⟨fun h => (by cases h), fun q => absurd q HE.out⟩, HT0.out⟩
  | true =>
    rcases hnn with hn | hn | hn
    · subst hn
      by_cases hb : b = 0
      · subst hb
        by_cases ha : a = 0
        · subst ha
          have HE : Hid (FitZ P k op 0 0) := Lib.hid (HFZ.out.2 ⟨rfl, fun _ => rfl, fun _ => rfl⟩)
          go_enter Tryd.func43, Tryd.ntmps43
          go_wp2_with fail
          rw [HW2.out]
          refine HOP.out.mono ?_
          rintro e w3 ⟨rfl, rfl⟩
          go_wp2_with fail
          refine (HIS.out _).mono ?_
          rintro e w3 ⟨rfl, rfl⟩
          go_wp2_with fail
          go_ret
          exact ⟨_, rfl, ⟨fun _ => HE.out, fun _ => rfl⟩, HT0.out⟩
        · have HE : Hid (¬ FitZ P k op a 0) := Lib.hid (fun q => ha ((HFZ.out.1 q).2.2 (by decide)))
          have da : (a != 0) = true := bneT ha
          clear ha
          go_enter Tryd.func43, Tryd.ntmps43
          go_wp2_with fail
          rw [HW2.out]
          refine HOP.out.mono ?_
          rintro e w3 ⟨rfl, rfl⟩
          go_wp2_with fail
          refine (HIS.out _).mono ?_
          rintro e w3 ⟨rfl, rfl⟩
          go_wp2_with fail
          go_ret
          exact ⟨_, rfl, ⟨fun h => (by cases h), fun q => absurd q HE.out⟩, HT0.out⟩
      · have HE : Hid (¬ FitZ P k op a b) := Lib.hid (fun q => hb ((HFZ.out.1 q).2.1 (by decide)))
        have db : (b != 0) = true := bneT hb
        clear hb
        go_enter Tryd.func43, Tryd.ntmps43
        go_wp2_with fail
        rw [HW2.out]
        refine HOP.out.mono ?_
        rintro e w3 ⟨rfl, rfl⟩
        go_wp2_with fail
        refine (HIS.out _).mono ?_
        rintro e w3 ⟨rfl, rfl⟩
        go_wp2_with fail
        go_ret
        exact ⟨_, rfl, ⟨fun h => (by cases h), fun q => absurd q HE.out⟩, HT0.out⟩
    · subst hn
      by_cases hb : b = 0
      · subst hb
        have HE : Hid (FitZ P k op a 0) := Lib.hid (HFZ.out.2 ⟨rfl, fun _ => rfl, fun e => absurd e (by decide)⟩)
        go_enter Tryd.func43, Tryd.ntmps43
        go_wp2_with fail
        rw [HW2.out]
        refine HOP.out.mono ?_
        rintro e w3 ⟨rfl, rfl⟩
        go_wp2_with fail
        refine (HIS.out _).mono ?_
        rintro e w3 ⟨rfl, rfl⟩
        go_wp2_with fail
        go_ret
        exact ⟨_, rfl, ⟨fun _ => HE.out, fun _ => rfl⟩, HT0.out⟩
      · have HE : Hid (¬ FitZ P k op a b) := Lib.hid (fun q => hb ((HFZ.out.1 q).2.1 (by decide)))
        have db : (b != 0) = true := bneT hb
        clear hb
        go_enter Tryd.func43, Tryd.ntmps43
        go_wp2_with fail
        rw [HW2.out]
        refine HOP.out.mono ?_
        rintro e w3 ⟨rfl, rfl⟩
        go_wp2_with fail
        refine (HIS.out _).mono ?_
        rintro e w3 ⟨rfl, rfl⟩
        go_wp2_with fail
        go_ret
        exact ⟨_, rfl, ⟨fun h => (by cases h), fun q => absurd q HE.out⟩, HT0.out⟩
    · subst hn
      have HE : Hid (FitZ P k op a b) := Lib.hid (HFZ.out.2 ⟨rfl, fun e => absurd e (by decide), fun e => absurd e (by decide)⟩)
      go_enter Tryd.func43, Tryd.ntmps43
      go_wp2_with fail
      rw [HW2.out]
      refine HOP.out.mono ?_
      rintro e w3 ⟨rfl, rfl⟩
      go_wp2_with fail
      refine (HIS.out _).mono ?_
      rintro e w3 ⟨rfl, rfl⟩
      go_wp2_with fail
      go_ret
      exact ⟨_, rfl, ⟨fun _ => HE.out, fun _ => rfl⟩, HT0.out⟩
end Go.Proofs.YtckppinobkkegaaDoor
