/-
  The laws TokenAll and TokenWords.
-/
import Derived.Test.YtdlhaadnfmpldaaDoorTKR
set_option linter.unusedVariables false
namespace Go.Proofs.YtdlhaadnfmpldaaDoor
open Go Go.RowKit

/-- What both of All answer: a list of tokens and a fault, in one form. -/
def AnsP (w : World) (T : List Tok) (c a : Int) (e : Ending) (w' : World) : Prop := ∃ v, e = .returned (.tuple #[v, .agg #[.int .i64 c, .int .i64 a]]) ∧ Tks w' w.heap.size v T ∧ Touch [] w w'
def ansT : TokR → List Tok
  | .ok T => T
  | .bad _ _ => []
def ansC : TokR → Int
  | .ok _ => 0
  | .bad c _ => c
def ansA : TokR → Int
  | .ok _ => 0
  | .bad _ a => a
theorem AllP.ans {w : World} {L : List UInt8} {e : Ending} {w' : World} (h : AllP w L e w') : AnsP w (ansT (allT L)) (ansC (allT L)) (ansA (allT L)) e w' := by
  obtain ⟨ht, h⟩ := h
  cases he : allT L with
  | ok T =>
    rw [he] at h
    obtain ⟨v, rfl, hT⟩ := h
    exact ⟨v, rfl, hT, ht⟩
  | bad c a =>
    rw [he] at h
    subst h
    exact ⟨_, rfl, Av.nil _ _ _ _ _, ht⟩
theorem scanF_len : ∀ (f : Nat) (l : List UInt8) (p : Nat) (acc : List Tok), (ansT (scanF f l p acc)).length ≤ acc.length + l.length + 1
  | 0, l, p, acc => by show acc.length ≤ _; omega
  | f + 1, [], p, acc => by show (acc ++ _).length ≤ _; simp
  | f + 1, c :: r, p, acc => by
    unfold scanF
    cases hs : stepT p c r with
    | bad x => show 0 ≤ _; omega
    | go k ts =>
      have h := scanF_len f (r.drop k) (p + 1 + k) (acc ++ ts)
      have h1 := (step_last hs).2
      show (ansT (scanF f (r.drop k) (p + 1 + k) (acc ++ ts))).length ≤ _
      rw [List.length_append, List.length_drop] at h
      rw [List.length_cons]
      omega
theorem allT_len (L : List UInt8) : (ansT (allT L)).length ≤ 5000 := by
  unfold allT
  by_cases h : 4096 < L.length
  · rw [if_pos h]; show 0 ≤ _; omega
  · rw [if_neg h]
    have := scanF_len (L.length + 1) L 0 []
    show (ansT (scan L 0 [])).length ≤ _
    unfold scan
    simp at this
    omega
end Go.Proofs.YtdlhaadnfmpldaaDoor
