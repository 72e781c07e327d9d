/-
  Segments of words: the program's Give, Taken.
-/
import Derived.Test.YtbdinbhdbljnkaaB
set_option linter.unusedVariables false
namespace Go.Proofs.Ytbdinbhdbljnkaa
open Go.RowKit

theorem first_t (b g : Nat) (a s : Int) (n i : Nat) (f : Nat → Bool) (w : World) (h : Sg 43 w b g a s n f) (hz : Sz a s n) (hi : i < n) :
    Calls Try.prog 21 #[.pointer (some ⟨b, 0, none⟩), .int .i64 i] w fun e w' => e = .returned (.int .i64 (a + i * s)) ∧ Touch [] w w' :=
  (first_any b g a s n i w (h.obj.cell rfl) (h.obj.cell rfl) hz hi).mono fun _ _ ⟨h1, m, h2⟩ => ⟨h1, h2 ▸ (Touch.refl _ _).drewN m⟩

def GiveYes (b g : Nat) (a s : Int) (n k : Nat) (f : Nat → Bool) (T : TypeId) (w : World) (e : Ending) (w' : World) : Prop :=
  e = .returned (.bool true) ∧ Sg T w' b g a s n (setB f k false) ∧ Touch [g] w w'
set_option maxHeartbeats 2000000 in
theorem give_yes (b g : Nat) (a s at_ : Int) (n k : Nat) (f : Nat → Bool) (w : World) (hz : Sz a s n) (h : Sg 43 w b g a s n f) (hk : k < n) (hf : f k = true) (he : a + k * s = at_) :
    Calls Try.prog 12 #[.pointer (some ⟨b, 0, none⟩), .int .i64 at_] w (GiveYes b g a s n k f 43 w) := by
  have HS := Lib.hid h
  have HF := Lib.hid hf
  have HZ := Lib.hid hz
  have HE := Lib.hid he
  have n1 := hz.n1
  have h2 := h.obj.cell (i := 2) rfl
  clear h hf hz he
  go_enter Try.func12, Try.ntmps12
  go_wp2
  go_step3
  go_wp2
  go_step3
  go_wp2
  go_loopg [14] k (fun r i wr => ∃ j : Nat, j + r = k ∧ i = .int .i64 j ∧ Touch [] w wr)
  case atStart => exact ⟨0, by omega, rfl, Touch.refl _ _⟩
  case round =>
    obtain ⟨j, hj, rfl, ht⟩ := hrel
    have HS1 := Lib.hid (HS.out.touch ht (by simp) (by simp))
    have HT := Lib.hid ht
    clear ht
    have hlt : (j : Int) < (n : Int) := by omega
    have hx := HS1.out.cell (i := j) (by omega)
    by_cases hjk : j < k
    · have d1 : decide (a + (j : Int) * s < at_) = true := dT (by have := HZ.out.lt hjk; have := HZ.out.s0; have := HE.out; omega)
      go_wp2_with fail
      refine (first_t b g a s n j f _ HS1.out HZ.out (by omega)).mono ?_
      rintro e w1 ⟨rfl, ht⟩
      have HT1 := Lib.hid (HT.out.trans ht)
      clear ht
      go_wp2
      go_roundg (gk - 1)
      case rel => exact ⟨j + 1, by omega, by go_num, HT1.out⟩
      case measure => omega
    · obtain rfl : j = k := by omega
      rw [HF.out] at hx
      have d1 : decide (a + (j : Int) * s < at_) = false := dF (by have := HE.out; omega)
      have d2 : (a + (j : Int) * s == at_) = true := beqT HE.out
      go_wp2_with fail
      refine (first_t b g a s n j f _ HS1.out HZ.out (by omega)).mono ?_
      rintro e w1 ⟨rfl, ht⟩
      have HS2 := Lib.hid (HS1.out.touch ht (by simp) (by simp))
      have HT1 := Lib.hid (HT.out.trans ht)
      clear ht hx
      go_wp2_with fail
      refine (first_t b g a s n j f _ HS2.out HZ.out (by omega)).mono ?_
      rintro e w2 ⟨rfl, ht⟩
      have HS3 := Lib.hid (HS2.out.touch ht (by simp) (by simp))
      have HT2 := Lib.hid (HT1.out.trans ht)
      clear ht
      have x0 := HS3.out.obj.cell (i := 2) rfl
      have x1 := HS3.out.cell (i := j) (by omega)
      have x2 := HS3.out.row.free j
      go_wp2
      try rw [Exit.noGoto_ret]
      go_ret
      exact ⟨rfl, HS3.out.set j false, (HT2.out.mono (by simp)).setCell (by simp) _⟩

set_option maxHeartbeats 2000000 in
theorem give_no (b g : Nat) (a s at_ : Int) (n : Nat) (f : Nat → Bool) (w : World) (hz : Sz a s n) (h : Sg 43 w b g a s n f) (hno : ∀ k, k < n → f k = true → a + k * s ≠ at_) :
    Calls Try.prog 12 #[.pointer (some ⟨b, 0, none⟩), .int .i64 at_] w fun e w' => e = .returned (.bool false) ∧ Touch [] w w' := by
  have HS := Lib.hid h
  have HN := Lib.hid hno
  have HZ := Lib.hid hz
  have n1 := hz.n1
  have h2 := h.obj.cell (i := 2) rfl
  clear h hno hz
  go_enter Try.func12, Try.ntmps12
  go_wp2
  go_step3
  go_wp2
  go_step3
  go_wp2
  go_loopg [14] n (fun r i wr => ∃ j : Nat, j + r = n ∧ i = .int .i64 j ∧ Touch [] w wr)
  case atStart => exact ⟨0, by omega, rfl, Touch.refl _ _⟩
  case round =>
    obtain ⟨j, hj, rfl, ht⟩ := hrel
    have HS1 := Lib.hid (HS.out.touch ht (by simp) (by simp))
    have HT := Lib.hid ht
    clear ht
    by_cases hjn : j < n
    · have hlt : (j : Int) < (n : Int) := by omega
      have hx := HS1.out.cell (i := j) (by omega)
      by_cases hl : a + (j : Int) * s < at_
      · have d1 : decide (a + (j : Int) * s < at_) = true := dT hl
        clear hl
        go_wp2_with fail
        refine (first_t b g a s n j f _ HS1.out HZ.out (by omega)).mono ?_
        rintro e w1 ⟨rfl, ht⟩
        have HT1 := Lib.hid (HT.out.trans ht)
        clear ht
        go_wp2
        go_roundg (gk - 1)
        case rel => exact ⟨j + 1, by omega, by go_num, HT1.out⟩
        case measure => omega
      · have d1 : decide (a + (j : Int) * s < at_) = false := dF hl
        clear hl
        by_cases he : a + (j : Int) * s = at_
        · have hf : f j = false := by
            cases hfj : f j
            · rfl
            · exact absurd he (HN.out j hjn hfj)
          rw [hf] at hx
          have d2 : (a + (j : Int) * s == at_) = true := beqT he
          clear he hf
          go_wp2_with fail
          refine (first_t b g a s n j f _ HS1.out HZ.out (by omega)).mono ?_
          rintro e w1 ⟨rfl, ht⟩
          have HS2 := Lib.hid (HS1.out.touch ht (by simp) (by simp))
          have HT1 := Lib.hid (HT.out.trans ht)
          clear ht hx
          go_wp2_with fail
          refine (first_t b g a s n j f _ HS2.out HZ.out (by omega)).mono ?_
          rintro e w2 ⟨rfl, ht⟩
          have HT2 := Lib.hid (HT1.out.trans ht)
          clear ht
          go_wp2
          try rw [Exit.noGoto_ret]
          go_ret
          exact ⟨rfl, HT2.out⟩
        · have d2 : (a + (j : Int) * s == at_) = false := beqF he
          clear he
          go_wp2_with fail
          refine (first_t b g a s n j f _ HS1.out HZ.out (by omega)).mono ?_
          rintro e w1 ⟨rfl, ht⟩
          have HS2 := Lib.hid (HS1.out.touch ht (by simp) (by simp))
          have HT1 := Lib.hid (HT.out.trans ht)
          clear ht hx
          go_wp2_with fail
          refine (first_t b g a s n j f _ HS2.out HZ.out (by omega)).mono ?_
          rintro e w2 ⟨rfl, ht⟩
          have HT2 := Lib.hid (HT1.out.trans ht)
          clear ht
          go_wp2
          try rw [Exit.noGoto_ret]
          go_ret
          exact ⟨rfl, HT2.out⟩
    · have hlt : ¬ (j : Int) < (n : Int) := by omega
      go_wp2
      try rw [Exit.noGoto_ret]
      go_ret
      exact ⟨rfl, HT.out⟩

/-! Taken. -/
def tkL (a s : Int) (f : Nat → Bool) : Nat → List Int
  | 0 => []
  | k + 1 => tkL a s f k ++ if f k then [a + k * s] else []
theorem tkL_yes {a s : Int} {f : Nat → Bool} {k : Nat} (h : f k = true) : tkL a s f (k + 1) = tkL a s f k ++ [a + k * s] := by simp [tkL, h]
theorem tkL_no {a s : Int} {f : Nat → Bool} {k : Nat} (h : f k = false) : tkL a s f (k + 1) = tkL a s f k := by simp [tkL, h]
theorem tkL_len (a s : Int) (f : Nat → Bool) (k : Nat) : (tkL a s f k).length + cntF f k = k := by induction k with
  | zero => rfl
  | succ k ih => cases h : f k <;> simp [tkL, cntF, h] <;> omega

/-- A list of its own that a call hands back. -/
def Own (xs : List Int) (w : World) (e : Ending) (w' : World) : Prop := ∃ v, e = .returned v ∧ Sl w' v xs ∧ (∀ k, v.ownBlock = some k → w.heap.size ≤ k) ∧ Touch [] w w'

set_option maxHeartbeats 4000000 in
theorem taken_any (b g : Nat) (a s : Int) (n : Nat) (f : Nat → Bool) (w : World) (hz : Sz a s n) (h : Sg 43 w b g a s n f) :
    Calls Try.prog 18 #[.pointer (some ⟨b, 0, none⟩)] w (Own (tkL a s f n) w) := by
  obtain ⟨i0, hi, hz0, hz1, hz2⟩ := info_parts (show (Try.prog.info? 3).map (fun i => (i.zero, i.size, i.bytes)) = some (some (.int .i64 0), 1, 8) from by kernel_rfl)
  have HS := Lib.hid h
  have HZ := Lib.hid hz
  have n1 := hz.n1
  have h2 := h.obj.cell (i := 2) rfl
  clear h hz
  go_enter Try.func18, Try.ntmps18
  go_wp2
  go_loopw [3, 13] (fun v i wr => ∃ j : Nat, j ≤ n ∧ i = .int .i64 j ∧ Qu wr w.heap.size 3 v ((tkL a s f j).map (Value.int .i64)) ∧ Touch [] w wr) (fun _ i _ => n + 1 - (intOf i).toNat)
  case atStart => exact ⟨0, by omega, rfl, Qu.nil _ _ _, Touch.refl _ _⟩
  case round =>
    obtain ⟨j, hj, rfl, hq, ht⟩ := hrel
    have HS1 := Lib.hid (HS.out.touch ht (by simp) (by simp))
    have HT := Lib.hid ht
    have HQ := Lib.hid hq
    have hlen := tkL_len a s f j
    have hlen2 : (tkL a s f j).length ≤ 8192 := by omega
    clear ht hq hlen
    by_cases hjn : j < n
    · have hlt : (j : Int) < (n : Int) := by omega
      have hx := HS1.out.cell (i := j) (by omega)
      by_cases hfj : f j = true
      · rw [hfj] at hx
        have HFJ := Lib.hid hfj
        clear hfj
        go_wp2_with fail
        refine (first_t b g a s n j f _ HS1.out HZ.out (by omega)).mono ?_
        rintro e w1 ⟨rfl, ht⟩
        have HT1 := Lib.hid (HT.out.trans ht)
        have HQ1 := Lib.hid ((HQ.out.touch ht (by simp)).alloc (.cells #[.int .i64 (a + (j : Int) * s)] 3))
        have hsz := HT1.out.size
        clear ht hx
        go_wp2_with (at_builtin; refine wpList_append_q Try.underlying22 hi hz0 hz1 hz2 rfl rfl _ _ rfl w.heap.size _ _ rfl HQ1.out (by simp; omega) ⟨w1.heap.size, 0, none⟩ 1 (.int .i64 (a + (j : Int) * s)) rfl ?c1 rfl ?c2 ?c3 ?_)
        case c1 => exact World.cell?_alloc_at _ _ _ _ rfl
        case c2 => simp; omega
        case c3 => simp; omega
        intro v' w2 hq2 hg hnew
        have HQ2 := Lib.hid hq2
        have HT2 : Hid (Touch [] w w2) := Lib.hid ((HT1.out.alloc _).grown hg (fun k hk hlt => by have := (HQ.out.own k hk).1; omega))
        clear hq2 hg hnew
        go_wp2
        go_roundw
        case rel => exact ⟨j + 1, by omega, by go_num, by rw [tkL_yes HFJ.out, List.map_append]; exact HQ2.out, HT2.out⟩
        case measure => simp [intOf]; omega
      · rw [show f j = false from by simpa using hfj] at hx
        have HFJ := Lib.hid (show f j = false from by simpa using hfj)
        clear hfj
        go_wp2
        go_roundw
        case rel => exact ⟨j + 1, by omega, by go_num, by rw [tkL_no HFJ.out]; exact HQ.out, HT.out⟩
        case measure => simp [intOf]; omega
    · have hlt : ¬ (j : Int) < (n : Int) := by omega
      obtain rfl : j = n := by omega
      go_wp2
      go_ret
      exact ⟨_, rfl, HQ.out.sl, fun k hk => (HQ.out.own k hk).1, HT.out⟩
end Go.Proofs.Ytbdinbhdbljnkaa
