/-
  Is it a state? The program's answer, and the reference's.
-/
import Derived.Test.YtjgdkaedfnihaaaB1
import Derived.Test.YtjgdkaedfnihaaaY11
import Derived.Test.YtjgdkaedfnihaaaR
set_option linter.unusedVariables false
namespace Go.Proofs.Ytjgdkaedfnihaaa
open Go.RowKit Go.BigFrame

theorem Sl.later {w : World} {v : Value} {xs : List Int} (h : Sl w v xs) (p : Later w) : Sl p.world v xs := h.touch p.ok (by simp)
theorem Rws.later {w : World} {v : Value} {l : List (List Int)} (h : Rws w v l) (p : Later w) : Rws p.world v l := h.touch p.ok
theorem Touch.later {w : World} (p : Later w) : Touch [] w p.world := p.ok

set_option maxHeartbeats 1000000 in
theorem is_ne (v : Value) (xs : List Int) (n : Int) (w : World) (h : Sl w v xs) (hne : ¬ (xs.length : Int) = n) :
    Calls Try.prog 20 #[v, .int .i64 n] w fun e w' => e = .returned (.bool false) ∧ w = w' := by
  obtain ⟨a, c, rfl⟩ := h.form
  clear h
  have q1 : ((xs.length : Int) != n) = true := bneT hne
  clear hne
  go_enter Try.func20, Try.ntmps20
  go_wp2
  go_ret
  exact ⟨rfl, rfl⟩
/-- .. of any length. -/
theorem is_w (v : Value) (xs : List Int) (n : Int) (b : Bool) (w : World) (h : Sl w v xs) (hl : n ≤ 1000000) (hb : isB xs n = b) :
    Calls Try.prog 20 #[v, .int .i64 n] w fun e w' => e = .returned (.bool b) ∧ w = w' := by
  by_cases hne : (xs.length : Int) = n
  · exact is_q v xs n b w h (by omega) hb
  · obtain rfl : b = false := by rw [← hb]; unfold isB; rw [dF hne]; rfl
    exact is_ne v xs n w h hne

set_option maxHeartbeats 1000000 in
theorem ris_ne (v : Value) (xs : List Int) (n : Int) (w : World) (h : Sl w v xs) (hne : ¬ (xs.length : Int) = n) :
    Calls Try.prog 33 #[v, .int .i64 n] w fun e w' => e = .returned (.bool false) ∧ w = w' := by
  obtain ⟨a, c, rfl⟩ := h.form
  clear h
  have q1 : ((xs.length : Int) != n) = true := bneT hne
  clear hne
  go_enter Try.func33, Try.ntmps33
  go_wp2
  go_ret
  exact ⟨rfl, rfl⟩
/-- .. of any length. -/
theorem ris_w (v : Value) (xs : List Int) (n : Int) (b : Bool) (w : World) (h : Sl w v xs) (hl : n ≤ 1000000) (hb : isB xs n = b) :
    Calls Try.prog 33 #[v, .int .i64 n] w fun e w' => e = .returned (.bool b) ∧ w = w' := by
  by_cases hne : (xs.length : Int) = n
  · exact ris_q v xs n b w h (by omega) hb
  · obtain rfl : b = false := by rw [← hb]; unfold isB; rw [dF hne]; rfl
    exact ris_ne v xs n w h hne

/-- What of row i. -/
def okRow (n : Nat) (hs cs : List (List Int)) (i : Nat) : Bool := isB (rw_ hs i) n && (isB (rw_ cs i) n && fitsB (rw_ hs i) (rw_ cs i))
def bmayB (xs : List Int) (hs cs : List (List Int)) : Bool := !decide (6 < xs.length) && (isB xs xs.length && (decide (hs.length = cs.length) && (!decide (32 < hs.length) && (List.range hs.length).all (okRow xs.length hs cs))))
theorem isB_len {xs : List Int} {n : Nat} (h : isB xs n = true) : xs.length = n := by
  unfold isB at h
  rw [Bool.and_eq_true] at h
  have := of_decide_eq_true h.1
  omega
theorem okRow_len {n : Nat} {hs cs : List (List Int)} {i : Nat} (h : okRow n hs cs i = true) : (rw_ hs i).length = n ∧ (rw_ cs i).length = n := by
  unfold okRow at h
  rw [Bool.and_eq_true, Bool.and_eq_true] at h
  exact ⟨isB_len h.1, isB_len h.2.1⟩
structure BMay (xs : List Int) (hs cs : List (List Int)) : Prop where
  l : xs.length ≤ 6
  a : xs.all mayB = true
  e : hs.length = cs.length
  m : hs.length ≤ 32
  r : ∀ i, i < hs.length → okRow xs.length hs cs i = true
theorem bmay_iff {xs : List Int} {hs cs : List (List Int)} : bmayB xs hs cs = true ↔ BMay xs hs cs := by
  unfold bmayB
  simp only [Bool.and_eq_true, Bool.not_eq_true', decide_eq_false_iff_not, decide_eq_true_eq, List.all_eq_true, List.mem_range, isB]
  constructor
  · rintro ⟨h1, ⟨_, h2⟩, h3, h4, h5⟩
    exact ⟨by omega, by simpa [List.all_eq_true] using h2, h3, by omega, h5⟩
  · rintro ⟨h1, h2, h3, h4, h5⟩
    exact ⟨by omega, ⟨trivial, by simpa [List.all_eq_true] using h2⟩, h3, by omega, h5⟩

end Go.Proofs.Ytjgdkaedfnihaaa
