/-
  Jobs as texts: the numbers of a line, part by part.
-/
import Derived.Test.YtnhbnggkaomfcaaDoorSB
import Derived.Lib.Bytealg
set_option linter.unusedVariables false
namespace Go.Proofs.YtnhbnggkaomfcaaDoor
open Go Go.RowKit Go.Lib

/-- The first word of a text is how it begins. -/
theorem words_head {t w : List UInt8} {ws : List (List UInt8)} (h : words t = w :: ws) : ∃ r, t = w ++ r ∧ (r = [] ∨ ∃ q, r = 32 :: q) := by
  have hg := glue_words t
  rw [h] at hg
  cases ws with
  | nil => exact ⟨[], by rw [List.append_nil]; exact hg.symm, .inl rfl⟩
  | cons v vs => rw [glue_cons _ (by simp)] at hg; exact ⟨_, hg.symm, .inr ⟨_, rfl⟩⟩
theorem lineN_not {word t : List UInt8} (h : ¬ ∃ r, t = word ++ r ∧ (r = [] ∨ ∃ q, r = 32 :: q)) : lineN word t = none := by
  unfold lineN
  cases hw : words t with
  | nil => rfl
  | cons w ws =>
    dsimp only
    rw [if_neg]
    intro e
    subst e
    exact h (words_head hw)
theorem lineN_word {word : List UInt8} (h : (32 : UInt8) ∉ word) : lineN word word = some [] := by
  unfold lineN; rw [words_noblank _ h]; show (if word = word then allN [] else none) = _; rw [if_pos rfl]; rfl
theorem lineN_more {word q : List UInt8} (h : (32 : UInt8) ∉ word) : lineN word (word ++ 32 :: q) = allN (words q) := by
  unfold lineN; rw [words_app _ _ h]; show (if word = word then allN (words q) else none) = _; rw [if_pos rfl]
/-- What is still to be read: nothing, or a blank and words. -/
def toRead (rest : List UInt8) : List (List UInt8) := match rest with
  | [] => []
  | _ :: q => words q
/-- Between two parts: what the line has is what has been read, and what is still to be read. -/
def NumAt (want : Option (List Int)) (rest : List UInt8) (l : List Int) : Prop := (rest = [] ∨ ∃ q, rest = 32 :: q) ∧ want = (allN (toRead rest)).map (l ++ ·)
theorem numAt_start {word r : List UInt8} (h : (32 : UInt8) ∉ word) (hr : r = [] ∨ ∃ q, r = 32 :: q) : NumAt (lineN word (word ++ r)) r [] := by
  refine ⟨hr, ?_⟩
  rcases hr with rfl | ⟨q, rfl⟩
  · rw [List.append_nil, lineN_word h]; rfl
  · rw [lineN_more h]; show _ = (allN (words q)).map ([] ++ ·); cases allN (words q) <;> rfl
theorem numAt_end {want : Option (List Int)} {l : List Int} (h : NumAt want [] l) : want = some l := by
  rw [h.2]; show some (l ++ []) = _; simp
theorem allN_map (l : List Int) (x : Int) (m : Option (List Int)) : (m.map (x :: ·)).map (l ++ ·) = m.map ((l ++ [x]) ++ ·) := by
  cases m <;> simp
/-- The next part ends at a blank, or at the end. -/
theorem numAt_mid {want : Option (List Int)} {p q : List UInt8} {l : List Int} (hp : (32 : UInt8) ∉ p) (h : NumAt want (32 :: (p ++ 32 :: q)) l) :
    (numL p = none → want = none) ∧ ∀ x, numL p = some x → NumAt want (32 :: q) (l ++ [x]) := by
  have h2 := h.2
  have e : toRead (32 :: (p ++ 32 :: q)) = p :: words q := words_app _ _ hp
  rw [e] at h2
  refine ⟨fun hn => ?_, fun x hx => ⟨.inr ⟨q, rfl⟩, ?_⟩⟩
  · rw [h2, allN_none _ _ hn]; rfl
  · rw [h2, allN_cons _ _ _ hx, allN_map]; rfl
theorem numAt_last {want : Option (List Int)} {p : List UInt8} {l : List Int} (hp : (32 : UInt8) ∉ p) (h : NumAt want (32 :: p) l) :
    (numL p = none → want = none) ∧ ∀ x, numL p = some x → NumAt want [] (l ++ [x]) := by
  have h2 := h.2
  have e : toRead (32 :: p) = [p] := words_noblank _ hp
  rw [e] at h2
  refine ⟨fun hn => ?_, fun x hx => ⟨.inl rfl, ?_⟩⟩
  · rw [h2, allN_none _ _ hn]; rfl
  · rw [h2, allN_cons _ _ _ hx, allN_map]; rfl
/-! Where a byte stands first. -/
theorem ixb : ∀ (l : List UInt8) (c : UInt8), (indexByte l c = -1 ∧ c ∉ l) ∨ ∃ a r, l = a ++ c :: r ∧ c ∉ a ∧ indexByte l c = (a.length : Int)
  | [], c => .inl ⟨rfl, by simp⟩
  | b :: l, c => by
    by_cases hb : b = c
    · subst hb
      exact .inr ⟨[], l, rfl, by simp, by rw [indexByte, if_pos (by simp)]; rfl⟩
    · rw [indexByte, if_neg (by simpa using hb)]
      rcases ixb l c with ⟨h1, h2⟩ | ⟨a, r, rfl, h2, h3⟩
      · left
        rw [h1]
        exact ⟨rfl, by simp only [List.mem_cons, not_or]; exact ⟨fun e => hb e.symm, h2⟩⟩
      · right
        refine ⟨b :: a, r, rfl, by simp only [List.mem_cons, not_or]; exact ⟨fun e => hb e.symm, h2⟩, ?_⟩
        rw [h3, if_neg (by simp)]
        simp
end Go.Proofs.YtnhbnggkaomfcaaDoor
