/-
  Segments of words: the reference's.
-/
import Derived.Test.YtbdinbhdbljnkaaC
import Derived.Deep.RegionHeld3
set_option linter.unusedVariables false
namespace Go.Proofs.Ytbdinbhdbljnkaa
open Go.RowKit

set_option maxHeartbeats 1000000 in
theorem rnew_ok (a t s : Int) (n : Nat) (w : World) (h0 : 0 ≤ a) (h1 : a ≤ t) (h2 : t ≤ 8192) (h3 : 1 ≤ s) (h4 : s ≤ 8192) (hn : (t - a) / s = n) (hn2 : n ≤ 8192) :
    Calls Try.prog 9 #[.int .i64 a, .int .i64 t, .int .i64 s] w (Made 37 a s n w) := by
  have d1 : decide (a < 0) = false := dF (by omega)
  have d2 : decide (t < a) = false := dF (by omega)
  have d3 : decide (8192 < t) = false := dF (by omega)
  have d4 : decide (s < 1) = false := dF (by omega)
  have d5 : decide (8192 < s) = false := dF (by omega)
  have d6 : (s == 0) = false := beqF (by omega)
  have hmk := fun w => run_mkB n (by omega) w
  go_enter Try.func9, Try.ntmps9
  go_wp2
  go_ret2
  exact ⟨w.heap.size + 1, w.heap.size, rfl, ⟨Blk.new (by simp), (Blk.new rfl).alloc _, by omega⟩, by omega, by omega, ((Touch.refl _ _).alloc _).alloc _⟩

/-- Which numbers make none. -/
def BadN (a t s : Int) : Prop := a < 0 ∨ t < a ∨ 8192 < t ∨ s < 1 ∨ 8192 < s
set_option maxHeartbeats 1000000 in
theorem new_bad (a t s : Int) (w : World) (h : BadN a t s) :
    Calls Try.prog 8 #[.int .i64 a, .int .i64 t, .int .i64 s] w fun e w' => e = .returned (.tuple #[.pointer none, .int .i64 1]) ∧ w = w' := by
  by_cases c0 : a < 0
  · have d0 : decide (a < 0) = true := dT c0
    clear h
    go_enter Try.func8, Try.ntmps8
    go_wp2
    go_ret2
    exact ⟨rfl, rfl⟩
  have d0 : decide (a < 0) = false := dF c0
  by_cases c1 : t < a
  · have d1 : decide (t < a) = true := dT c1
    clear h
    go_enter Try.func8, Try.ntmps8
    go_wp2
    go_ret2
    exact ⟨rfl, rfl⟩
  have d1 : decide (t < a) = false := dF c1
  by_cases c2 : 8192 < t
  · have d2 : decide (8192 < t) = true := dT c2
    clear h
    go_enter Try.func8, Try.ntmps8
    go_wp2
    go_ret2
    exact ⟨rfl, rfl⟩
  have d2 : decide (8192 < t) = false := dF c2
  by_cases c3 : s < 1
  · have d3 : decide (s < 1) = true := dT c3
    clear h
    go_enter Try.func8, Try.ntmps8
    go_wp2
    go_ret2
    exact ⟨rfl, rfl⟩
  have d3 : decide (s < 1) = false := dF c3
  by_cases c4 : 8192 < s
  · have d4 : decide (8192 < s) = true := dT c4
    clear h
    go_enter Try.func8, Try.ntmps8
    go_wp2
    go_ret2
    exact ⟨rfl, rfl⟩
  have d4 : decide (8192 < s) = false := dF c4
  unfold BadN at h
  omega
set_option maxHeartbeats 1000000 in
theorem rnew_bad (a t s : Int) (w : World) (h : BadN a t s) :
    Calls Try.prog 9 #[.int .i64 a, .int .i64 t, .int .i64 s] w fun e w' => e = .returned (.tuple #[.pointer none, .int .i64 1]) ∧ w = w' := by
  by_cases c0 : a < 0
  · have d0 : decide (a < 0) = true := dT c0
    clear h
    go_enter Try.func9, Try.ntmps9
    go_wp2
    go_ret2
    exact ⟨rfl, rfl⟩
  have d0 : decide (a < 0) = false := dF c0
  by_cases c1 : t < a
  · have d1 : decide (t < a) = true := dT c1
    clear h
    go_enter Try.func9, Try.ntmps9
    go_wp2
    go_ret2
    exact ⟨rfl, rfl⟩
  have d1 : decide (t < a) = false := dF c1
  by_cases c2 : 8192 < t
  · have d2 : decide (8192 < t) = true := dT c2
    clear h
    go_enter Try.func9, Try.ntmps9
    go_wp2
    go_ret2
    exact ⟨rfl, rfl⟩
  have d2 : decide (8192 < t) = false := dF c2
  by_cases c3 : s < 1
  · have d3 : decide (s < 1) = true := dT c3
    clear h
    go_enter Try.func9, Try.ntmps9
    go_wp2
    go_ret2
    exact ⟨rfl, rfl⟩
  have d3 : decide (s < 1) = false := dF c3
  by_cases c4 : 8192 < s
  · have d4 : decide (8192 < s) = true := dT c4
    clear h
    go_enter Try.func9, Try.ntmps9
    go_wp2
    go_ret2
    exact ⟨rfl, rfl⟩
  have d4 : decide (8192 < s) = false := dF c4
  unfold BadN at h
  omega

theorem div_bd {a t s : Int} (h0 : 0 ≤ a) (h1 : a ≤ t) (h2 : t ≤ 8192) (h3 : 1 ≤ s) (h4 : s ≤ 8192) : ∃ n : Nat, (t - a) / s = n ∧ n ≤ 8192 ∧ Sz a s n ∧ a + (n : Int) * s ≤ t := by
  have e1 : 0 ≤ (t - a) / s := Int.ediv_nonneg (by omega) (by omega)
  have e2 : (t - a) / s * s ≤ t - a := Int.ediv_mul_le _ (by omega)
  have e3 : (t - a) / s * 1 ≤ (t - a) / s * s := Int.mul_le_mul_of_nonneg_left h3 e1
  refine ⟨((t - a) / s).toNat, by omega, by omega, ⟨h0, h3, h4, by omega, ?_⟩, ?_⟩
  · rw [show ((((t - a) / s).toNat : Nat) : Int) = (t - a) / s from by omega]; omega
  · rw [show ((((t - a) / s).toNat : Nat) : Int) = (t - a) / s from by omega]; omega

set_option maxHeartbeats 2000000 in
theorem rtake_yes (b g : Nat) (a s : Int) (n k : Nat) (f : Nat → Bool) (w : World) (hz : Sz a s n) (h : Sg 37 w b g a s n f) (hk : k < n) (hf : f k = false) (hall : ∀ j, j < k → f j = true) :
    Calls Try.prog 11 #[.pointer (some ⟨b, 0, none⟩)] w (TakeYes b g a s n k f 37 w) := by
  have HS := Lib.hid h
  have HA := Lib.hid hall
  have HF := Lib.hid hf
  have n1 := hz.n1
  have n2 := hz.s1
  have n3 := hz.a0
  have n4 := hz.s0
  obtain ⟨q1, q2, q3, _⟩ := hz.at hk
  have h2 := h.obj.cell (i := 2) rfl
  clear h hall hf hz
  go_enter Try.func11, Try.ntmps11
  go_wp2
  go_loop [4] (fun i => ∃ j : Nat, j ≤ k ∧ i = .int .i64 j) (fun i => k + 1 - (intOf i).toNat)
  case atStart => exact ⟨0, by omega, rfl⟩
  case round =>
    obtain ⟨j, hj, rfl⟩ := hrel
    have hx := HS.out.cell (i := j) (by omega)
    have hlt : (j : Int) < (n : Int) := by omega
    by_cases hjk : j < k
    · rw [HA.out j hjk] at hx
      go_wp2
      go_round
      case rel => exact ⟨j + 1, by omega, by go_num⟩
      case measure => simp [intOf]; omega
    · obtain rfl : j = k := by omega
      rw [HF.out] at hx
      have hs2 := HS.out.set j true
      have x3 := HS.out.row.free j
      have y0 := hs2.obj.cell (i := 0) rfl
      have y1 := hs2.obj.cell (i := 1) rfl
      have HS2 := Lib.hid hs2
      clear hs2
      go_wp2
      go_quiet (fail)
      go_wp2
      go_ret2
      exact ⟨rfl, HS2.out.drewN _, ((Touch.refl _ _).setCell (by simp) _).drewN _⟩

set_option maxHeartbeats 2000000 in
theorem rtake_no (b g : Nat) (a s : Int) (n : Nat) (f : Nat → Bool) (w : World) (hz : Sz a s n) (h : Sg 37 w b g a s n f) (hall : ∀ j, j < n → f j = true) :
    Calls Try.prog 11 #[.pointer (some ⟨b, 0, none⟩)] w fun e w' => e = .returned (.tuple #[.int .i64 0, .bool false]) ∧ Touch [] w w' := by
  have HS := Lib.hid h
  have HA := Lib.hid hall
  have n1 := hz.n1
  have h2 := h.obj.cell (i := 2) rfl
  clear h hall hz
  go_enter Try.func11, Try.ntmps11
  go_wp2
  go_loop [4] (fun i => ∃ j : Nat, j ≤ n ∧ i = .int .i64 j) (fun i => n + 1 - (intOf i).toNat)
  case atStart => exact ⟨0, by omega, rfl⟩
  case round =>
    obtain ⟨j, hj, rfl⟩ := hrel
    by_cases hjn : j < n
    · have hx := HS.out.cell (i := j) (by omega)
      have hlt : (j : Int) < (n : Int) := by omega
      rw [HA.out j hjn] at hx
      go_wp2
      go_round
      case rel => exact ⟨j + 1, by omega, by go_num⟩
      case measure => simp [intOf]; omega
    · have hlt : ¬ (j : Int) < (n : Int) := by omega
      go_wp2
      go_ret2
      exact ⟨rfl, Touch.refl _ _⟩

set_option maxHeartbeats 2000000 in
theorem rgive_yes (b g : Nat) (a s at_ : Int) (n k : Nat) (f : Nat → Bool) (w : World) (hz : Sz a s n) (h : Sg 37 w b g a s n f) (hk : k < n) (hf : f k = true) (he : a + k * s = at_) :
    Calls Try.prog 13 #[.pointer (some ⟨b, 0, none⟩), .int .i64 at_] w (GiveYes b g a s n k f 37 w) := by
  have HS := Lib.hid h
  have HF := Lib.hid hf
  have HZ := Lib.hid hz
  have HE := Lib.hid he
  have n1 := hz.n1
  have n2 := hz.s1
  have n3 := hz.a0
  have n4 := hz.s0
  have h0 := fun m : Nat => (h.drewN m).obj.cell (i := 0) rfl
  have h1 := fun m : Nat => (h.drewN m).obj.cell (i := 1) rfl
  have h2 := fun m : Nat => (h.drewN m).obj.cell (i := 2) rfl
  clear h hf hz he
  go_enter Try.func13, Try.ntmps13
  go_wp2
  go_loopw [5] (fun i wr => ∃ j m : Nat, j ≤ k ∧ i = .int .i64 j ∧ wr = w.drewN m) (fun i _ => k + 1 - (intOf i).toNat)
  case atStart => exact ⟨0, 0, by omega, rfl, rfl⟩
  case round =>
    obtain ⟨j, m, hj, rfl, rfl⟩ := hrel
    have hx := (HS.out.drewN m).cell (i := j) (by omega)
    have hlt : (j : Int) < (n : Int) := by omega
    obtain ⟨q1, q2, q3, _⟩ := HZ.out.at (i := j) (by omega)
    have y0 := h0 m
    have y1 := h1 m
    have y2 := h2 m
    have HS1 := Lib.hid (HS.out.drewN m)
    obtain ⟨wr, hwr⟩ : ∃ wr, w.drewN m = wr := ⟨_, rfl⟩
    rw [hwr] at hx y0 y1 y2 HS1
    rw [hwr]
    have HW := Lib.hid hwr
    clear hwr
    by_cases hjk : j < k
    · have d1 : (a + (j : Int) * s == at_) = false := beqF (by have := HZ.out.lt hjk; have := HZ.out.s0; have := HE.out; omega)
      cases hfj : f j
      all_goals
        rw [hfj] at hx
        clear hfj
        go_wp2
        go_quiet (fail)
        go_wp2
        go_roundw
        case rel => exact ⟨j + 1, _, by omega, by go_num, by rw [← HW.out, World.drewN_drewN]⟩
        case measure => simp [intOf]; omega
    · obtain rfl : j = k := by omega
      rw [HF.out] at hx
      have d1 : (a + (j : Int) * s == at_) = true := beqT HE.out
      have x3 := HS1.out.row.free j
      go_wp2
      go_quiet (fail)
      go_wp2
      go_ret
      exact ⟨rfl, (HS1.out.drewN _).set j false, by rw [← HW.out]; exact (((Touch.refl _ _).drewN _).drewN _).setCell (by simp) _⟩

set_option maxHeartbeats 2000000 in
theorem rgive_no (b g : Nat) (a s at_ : Int) (n : Nat) (f : Nat → Bool) (w : World) (hz : Sz a s n) (h : Sg 37 w b g a s n f) (hno : ∀ k, k < n → f k = true → a + k * s ≠ at_) :
    Calls Try.prog 13 #[.pointer (some ⟨b, 0, none⟩), .int .i64 at_] w fun e w' => e = .returned (.bool false) ∧ Touch [] w w' := by
  have HS := Lib.hid h
  have HN := Lib.hid hno
  have HZ := Lib.hid hz
  have n1 := hz.n1
  have n2 := hz.s1
  have n3 := hz.a0
  have n4 := hz.s0
  have h0 := fun m : Nat => (h.drewN m).obj.cell (i := 0) rfl
  have h1 := fun m : Nat => (h.drewN m).obj.cell (i := 1) rfl
  have h2 := fun m : Nat => (h.drewN m).obj.cell (i := 2) rfl
  clear h hno hz
  go_enter Try.func13, Try.ntmps13
  go_wp2
  go_loopw [5] (fun i wr => ∃ j m : Nat, j ≤ n ∧ i = .int .i64 j ∧ wr = w.drewN m) (fun i _ => n + 1 - (intOf i).toNat)
  case atStart => exact ⟨0, 0, by omega, rfl, rfl⟩
  case round =>
    obtain ⟨j, m, hj, rfl, rfl⟩ := hrel
    have y0 := h0 m
    have y1 := h1 m
    have y2 := h2 m
    have HS1 := Lib.hid (HS.out.drewN m)
    obtain ⟨wr, hwr⟩ : ∃ wr, w.drewN m = wr := ⟨_, rfl⟩
    rw [hwr] at y0 y1 y2 HS1
    rw [hwr]
    have HW := Lib.hid hwr
    clear hwr
    by_cases hjn : j < n
    · have hlt : (j : Int) < (n : Int) := by omega
      obtain ⟨q1, q2, q3, _⟩ := HZ.out.at (i := j) (by omega)
      have hx := HS1.out.cell (i := j) (by omega)
      cases hfj : f j
      · rw [hfj] at hx
        clear hfj
        go_wp2
        go_quiet (fail)
        go_wp2
        go_roundw
        case rel => exact ⟨j + 1, _, by omega, by go_num, by rw [← HW.out, World.drewN_drewN]⟩
        case measure => simp [intOf]; omega
      · have d1 : (a + (j : Int) * s == at_) = false := beqF (HN.out j hjn hfj)
        rw [hfj] at hx
        clear hfj
        go_wp2
        go_quiet (fail)
        go_wp2
        go_roundw
        case rel => exact ⟨j + 1, _, by omega, by go_num, by rw [← HW.out, World.drewN_drewN]⟩
        case measure => simp [intOf]; omega
    · have hlt : ¬ (j : Int) < (n : Int) := by omega
      go_wp2
      go_ret
      exact ⟨rfl, by rw [← HW.out]; exact (Touch.refl _ _).drewN _⟩

set_option maxHeartbeats 4000000 in
theorem all_any (b g : Nat) (a s : Int) (n : Nat) (f : Nat → Bool) (w : World) (hz : Sz a s n) (h : Sg 37 w b g a s n f) :
    Calls Try.prog 16 #[.pointer (some ⟨b, 0, none⟩)] w (Own (tkL a s f n) w) := by
  obtain ⟨i0, hi, hz0, hz1, hz2⟩ := info_parts (show (Try.prog.info? 3).map (fun i => (i.zero, i.size, i.bytes)) = some (some (.int .i64 0), 1, 8) from by kernel_rfl)
  have HS := Lib.hid h
  have HZ := Lib.hid hz
  have n1 := hz.n1
  have n2 := hz.s1
  have n3 := hz.a0
  have n4 := hz.s0
  have HQ0 := Lib.hid (Qu.made (w := w) (base := w.heap.size) (e := 3) (b := w.heap.size) (n := 0) (c := #[]) rfl (Nat.le_refl _) rfl (Nat.zero_le _))
  clear h hz
  go_enter Try.func16, Try.ntmps16
  go_wp2
  go_loopw [3, 4] (fun v i wr => ∃ j : Nat, j ≤ n ∧ i = .int .i64 j ∧ Qu wr w.heap.size 3 v ((tkL a s f j).map (Value.int .i64)) ∧ Touch [] w wr) (fun _ i _ => n + 1 - (intOf i).toNat)
  case atStart => exact ⟨0, by omega, rfl, HQ0.out, (Touch.refl _ _).alloc _⟩
  case round =>
    obtain ⟨j, hj, rfl, hq, ht⟩ := hrel
    have HS1 := Lib.hid (HS.out.touch ht (by simp) (by simp))
    have HT := Lib.hid ht
    have HQ := Lib.hid hq
    have hlen := tkL_len a s f j
    have hlen2 : (tkL a s f j).length ≤ 8192 := by omega
    have y0 := HS1.out.obj.cell (i := 0) rfl
    have y1 := HS1.out.obj.cell (i := 1) rfl
    have y2 := HS1.out.obj.cell (i := 2) rfl
    clear ht hq hlen
    by_cases hjn : j < n
    · have hlt : (j : Int) < (n : Int) := by omega
      have hx := HS1.out.cell (i := j) (by omega)
      obtain ⟨q1, q2, q3, _⟩ := HZ.out.at (i := j) (by omega)
      by_cases hfj : f j = true
      · rw [hfj] at hx
        have HFJ := Lib.hid hfj
        clear hfj
        have hsz := HT.out.size
        have HQ1 : Hid (Qu (wr.alloc (.cells #[.int .i64 (a + (j : Int) * s)] 3)).drew w.heap.size 3 _ _) := Lib.hid ((HQ.out.alloc (.cells #[.int .i64 (a + (j : Int) * s)] 3)).drewN 1)
        have HQB := Lib.hid (fun k hk => (HQ.out.own k hk).1)
        have HG := Lib.hid (fun (w2 : World) (row : Option Nat) (hr : ∀ k, row = some k → w.heap.size ≤ k) (hg : (wr.alloc (.cells #[.int .i64 (a + (j : Int) * s)] 3)).drew.grownBy w2 row) => (((HT.out.alloc (.cells #[.int .i64 (a + (j : Int) * s)] 3)).drew).grown hg (fun k hk hlt => by have := hr k hk; omega) : Touch [] w w2))
        have HK0 := Lib.hid (fun (w2 : World) (ht : Touch [] w w2) => (HS.out.touch ht (by simp) (by simp)).obj.cell (i := 0) rfl)
        have HK1 := Lib.hid (fun (w2 : World) (ht : Touch [] w w2) => (HS.out.touch ht (by simp) (by simp)).obj.cell (i := 1) rfl)
        have k0 : w.heap.size ≤ (wr.alloc (.cells #[.int .i64 (a + (j : Int) * s)] 3)).drew.heap.size := by show w.heap.size ≤ (wr.alloc _).heap.size; simp; omega
        have k1 : (((tkL a s f j).map (Value.int .i64)).length + 1) * 8 ≤ 140737488355328 := by simp; omega
        have k2 : ((tkL a s f j).map (Value.int .i64)).length + 1 ≤ 140737488355328 := by simp; omega
        have K0 := Lib.hid k0
        have K1 := Lib.hid k1
        have K2 := Lib.hid k2
        clear k0 k1 k2
        have e1 : IntKind.i64.wrap ((j : Int) * s) = (j : Int) * s := IntWalk.i64_in _ (by omega)
        have e2 : IntKind.i64.wrap (a + (j : Int) * s) = a + (j : Int) * s := IntWalk.i64_in _ (by omega)
        go_wp2
        go_region_held3 (fun w' => w'.cell? ⟨b, 0, none⟩ = some (.int .i64 a) ∧ w'.cell? ⟨b, 1, none⟩ = some (.int .i64 s)) (first | go_keep | exact ⟨HK0.out _ (HG.out _ _ HQB.out hg), HK1.out _ (HG.out _ _ HQB.out hg)⟩)
          ((refine step_append_q Try.underlying22 hi hz0 hz1 hz2 rfl (by rfl) _ _ (by rfl) w.heap.size _ _ (by rfl) HQ1.out K0.out ⟨wr.heap.size, 0, none⟩ 1 (.int .i64 (a + (j : Int) * s)) (by rfl) (World.cell?_alloc_at _ _ _ _ rfl) rfl K1.out K2.out ?_; intro v' w2 hq2 hg hnew))
        have HQ2 := Lib.hid hq2
        have HT2 := Lib.hid (HG.out _ _ HQB.out hg)
        clear hq2 hg hnew e1 e2
        go_wp2
        go_roundw
        case rel => exact ⟨j + 1, by omega, by go_num, by rw [tkL_yes HFJ.out, List.map_append]; exact HQ2.out, HT2.out⟩
        case measure => simp [intOf]; omega
      · rw [show f j = false from by simpa using hfj] at hx
        have HFJ := Lib.hid (show f j = false from by simpa using hfj)
        clear hfj
        go_wp2
        go_roundw
        case rel => exact ⟨j + 1, by omega, by go_num, by rw [tkL_no HFJ.out]; exact HQ.out, HT.out⟩
        case measure => simp [intOf]; omega
    · have hlt : ¬ (j : Int) < (n : Int) := by omega
      obtain rfl : j = n := by omega
      go_wp2
      go_ret
      exact ⟨_, rfl, HQ.out.sl, fun k hk => (HQ.out.own k hk).1, HT.out⟩
end Go.Proofs.Ytbdinbhdbljnkaa
