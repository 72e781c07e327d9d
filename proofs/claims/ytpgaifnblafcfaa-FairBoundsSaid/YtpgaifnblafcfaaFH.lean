/-
  The law's own awakening.
-/
import Derived.Test.YtpgaifnblafcfaaFG
set_option linter.unusedVariables false
namespace Go.Proofs.Ytpgaifnblafcfaa
open Go.RowKit Go.BigFrame

def l0 : List Stp := [⟨[1, 2], [2], 1⟩, ⟨[1, 2], [2], 2⟩, ⟨[1], [], 1⟩]
def fairB (k : Int) (l : List Stp) : Bool := decide (1 ≤ k) && (List.range l.length).all fun j => (stp l j).rd.all fun p => decide (¬ (p ≠ (stp l j).pid ∧ k ≤ missAt l j p + 1))
theorem fairB_is (k : Int) (l : List Stp) : fairB k l = true ↔ FairL k l := by
  unfold fairB FairL BadP
  simp only [Bool.and_eq_true, decide_eq_true_eq, List.all_eq_true, List.mem_range]
  constructor
  · rintro ⟨h1, h2⟩
    exact ⟨h1, fun j hj p hb => h2 j hj p hb.1 hb.2⟩
  · rintro ⟨h1, h2⟩
    exact ⟨h1, fun j hj p hp hb => h2 j hj p ⟨hp, hb⟩⟩
theorem wup_one {val : Nat → Int → Int} {l : List Stp} {j q : Nat} {B B' : Int} (h : WUp val l j q B) (h' : WUp val l j q B') : B = B' := by
  have le : ∀ {B B' : Int}, WUp val l j q B → WUp val l j q B' → B ≤ B' := fun {B B'} h h' => by
    rcases h.2.2 with e | ⟨j', q', h1, h2, h3⟩
    · have := h'.1; omega
    · rw [h3]; exact h'.2.1 j' q' h1 h2
  have := le h h'
  have := le h' h
  omega
theorem work_l0 : WUp (fun j => doneAt l0 (j + 1)) l0 3 0 1 := by
  refine ⟨by omega, fun j' q' h hq => ?_, .inr ⟨1, 0, by omega, by decide, by decide⟩⟩
  have : j' = 0 ∨ j' = 1 ∨ j' = 2 := by omega
  rcases this with rfl | rfl | rfl
  · have : q' = 0 := by have : q' < 1 := hq; omega
    subst this; decide
  · have : q' = 0 := by have : q' < 1 := hq; omega
    subst this; decide
  · have : q' < 0 := hq
    omega
theorem sl_one {w : World} {b : Nat} {x : Int} (h : Blk w b #[.int .i64 x] 3) : Sl w (.slice (some ⟨b, 0, none⟩) 1 1) [x] := ⟨_, 1, rfl, .inr ⟨b, 0, rfl, h.lt, fun j hj => by
  have : j = 0 := by simp at hj; omega
  subst this; exact h.cell rfl⟩⟩
theorem sl_two {w : World} {b : Nat} {x y : Int} (h : Blk w b #[.int .i64 x, .int .i64 y] 3) : Sl w (.slice (some ⟨b, 0, none⟩) 2 2) [x, y] := ⟨_, 2, rfl, .inr ⟨b, 0, rfl, h.lt, fun j hj => by
  have : j = 0 ∨ j = 1 := by simp at hj; omega
  rcases this with rfl | rfl <;> exact h.cell rfl⟩⟩
def cs0 (h : Nat) : Array Value := #[.slice (some ⟨h, 0, none⟩) 2 2, .slice (some ⟨h + 1, 0, none⟩) 1 1, .int .i64 1, .slice (some ⟨h + 1 + 1, 0, none⟩) 2 2, .slice (some ⟨h + 1 + 1 + 1, 0, none⟩) 1 1, .int .i64 2, .slice (some ⟨h + 1 + 1 + 1 + 1, 0, none⟩) 1 1, .slice none 0 0, .int .i64 1]
theorem sts_l0 (w : World) (h : Nat) (B0 : Blk w h #[.int .i64 1, .int .i64 2] 3) (B1 : Blk w (h + 1) #[.int .i64 2] 3) (B2 : Blk w (h + 1 + 1) #[.int .i64 1, .int .i64 2] 3) (B3 : Blk w (h + 1 + 1 + 1) #[.int .i64 2] 3) (B4 : Blk w (h + 1 + 1 + 1 + 1) #[.int .i64 1] 3) (B5 : Blk w (h + 1 + 1 + 1 + 1 + 1) (cs0 h) 25) :
    Sts w (.slice (some ⟨h + 1 + 1 + 1 + 1 + 1, 0, none⟩) 3 3) l0 := by
  refine ⟨_, 3, rfl, .inr ⟨_, 0, rfl, B5.lt, fun i j => ((cs0 h)[i * 3 + j]?).getD undef, fun i hi => ?_⟩⟩
  have hi : i < 3 := hi
  have hc : ∀ j, j < 3 → w.cell? ⟨h + 1 + 1 + 1 + 1 + 1, 0 + (i * 3 + j), none⟩ = some (((cs0 h)[i * 3 + j]?).getD undef) := fun j hj => by
    have hlt : i * 3 + j < (cs0 h).size := by show i * 3 + j < 9; omega
    refine B5.cell ?_
    rw [Nat.zero_add, Array.getElem?_eq_getElem hlt]
    rfl
  have : i = 0 ∨ i = 1 ∨ i = 2 := by omega
  rcases this with rfl | rfl | rfl
  · exact ⟨⟨sl_two B0, sl_one B1, rfl⟩, hc⟩
  · exact ⟨⟨sl_two B2, sl_one B3, rfl⟩, hc⟩
  · exact ⟨⟨sl_one B4, Sl.nil w, rfl⟩, hc⟩
set_option maxHeartbeats 8000000 in
theorem awake_any (w : World) : Calls Try.prog 5 #[] w fun e w' => e = .returned (.bool true) ∧ Touch [] w w' := by
  go_enter Try.func5, Try.ntmps5
  go_wp2_with fail
  obtain ⟨h, hh⟩ : ∃ h, w.heap.size = h := ⟨_, rfl⟩
  rw [hh]
  obtain ⟨W, hW⟩ : ∃ W, ((((((w.alloc (.cells #[.int .i64 1, .int .i64 2] 3)).alloc (.cells #[.int .i64 2] 3)).alloc (.cells #[.int .i64 1, .int .i64 2] 3)).alloc (.cells #[.int .i64 2] 3)).alloc (.cells #[.int .i64 1] 3)).alloc (.cells (cs0 h) 25)) = W := ⟨_, rfl⟩
  have HSt : Hid (Sts W (.slice (some ⟨h + 1 + 1 + 1 + 1 + 1, 0, none⟩) 3 3) l0) := Lib.hid (by
    rw [← hW]
    refine sts_l0 _ h ?_ ?_ ?_ ?_ ?_ ?_
    · exact ((((((Blk.new hh.symm).alloc _).alloc _).alloc _).alloc _).alloc _)
    · exact (((((Blk.new (by simp [hh])).alloc _).alloc _).alloc _).alloc _)
    · exact ((((Blk.new (by simp [hh])).alloc _).alloc _).alloc _)
    · exact (((Blk.new (by simp [hh])).alloc _).alloc _)
    · exact ((Blk.new (by simp [hh])).alloc _)
    · exact (Blk.new (by simp [hh])))
  have HT : Hid (Touch [] w W) := Lib.hid (by rw [← hW]; exact ((((((Touch.refl _ _).alloc _).alloc _).alloc _).alloc _).alloc _).alloc _)
  unfold cs0 at hW
  rw [hW]
  have HW := Lib.hid hW
  have HH := Lib.hid hh
  clear hW hh
  refine (bound_q 2 3 4 1 30 true _ (by decide) (by decide) (by decide) (by decide) (by decide) (by decide)).mono ?_
  rintro e w1 ⟨rfl, rfl⟩
  go_wp2_with fail
  refine (bound_q (-1) 0 0 0 0 false _ (by decide) (by decide) (by decide) (by decide) (by decide) (by decide)).mono ?_
  rintro e w2 ⟨rfl, rfl⟩
  have hl : l0.length ≤ 1000 := by decide
  have hr : ∀ j, j < l0.length → (stp l0 j).rd.length ≤ 9223372036854775807 ∧ (stp l0 j).ho.length ≤ 9223372036854775807 := fun j hj => by
    have hj : j < 3 := hj
    have : j = 0 ∨ j = 1 ∨ j = 2 := by omega
    rcases this with rfl | rfl | rfl <;> decide
  have HL := Lib.hid hl
  have HR := Lib.hid hr
  clear hl hr
  go_wp2_with fail
  refine (fair_q 2 _ l0 _ HSt.out HL.out (fun j hj => (HR.out j hj).1)).mono ?_
  rintro e w3 ⟨bb, rfl, hbb, ht⟩
  obtain rfl : bb = true := hbb.2 ((fairB_is _ _).1 (by decide))
  have HT := Lib.hid (HT.out.trans ht)
  have HSt := Lib.hid (HSt.out.touch ht)
  clear hbb ht
  go_wp2_with fail
  refine (fair_q 1 _ l0 _ HSt.out HL.out (fun j hj => (HR.out j hj).1)).mono ?_
  rintro e w4 ⟨bb, rfl, hbb, ht⟩
  obtain rfl : bb = false := by
    cases bb with
    | false => rfl
    | true => exact absurd ((fairB_is _ _).2 (hbb.1 rfl)) (by decide)
  have HT := Lib.hid (HT.out.trans ht)
  have HSt := Lib.hid (HSt.out.touch ht)
  clear hbb ht
  go_wp2_with fail
  refine (fair_q 0 _ l0 _ HSt.out HL.out (fun j hj => (HR.out j hj).1)).mono ?_
  rintro e w5 ⟨bb, rfl, hbb, ht⟩
  obtain rfl : bb = false := by
    cases bb with
    | false => rfl
    | true => exact absurd ((fairB_is _ _).2 (hbb.1 rfl)) (by decide)
  have HT := Lib.hid (HT.out.trans ht)
  have HSt := Lib.hid (HSt.out.touch ht)
  clear hbb ht
  go_wp2_with fail
  refine (work_q _ l0 _ HSt.out HL.out (fun j hj => (HR.out j hj).2)).mono ?_
  rintro e w6 ⟨B, rfl, hB, ht⟩
  obtain rfl : B = 1 := wup_one hB work_l0
  have HT := Lib.hid (HT.out.trans ht)
  clear hB ht
  go_wp2
  go_ret
  exact ⟨rfl, HT.out⟩
end Go.Proofs.Ytpgaifnblafcfaa
