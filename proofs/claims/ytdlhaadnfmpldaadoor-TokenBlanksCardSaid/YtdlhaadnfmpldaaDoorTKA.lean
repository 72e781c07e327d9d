/-
  Words and signs, plainly: what begins at a byte, and all tokens of a text, or the first byte at which there is none.
-/
import Derived.Test.YtdlhaadnfmpldaaDoorK
set_option linter.unusedVariables false
namespace Go.Proofs.YtdlhaadnfmpldaaDoor
open Go

structure Tok where
  kind : Int
  pos : Int
  num : Int
  text : List UInt8
deriving DecidableEq
def isLet (c : UInt8) : Bool := decide (97 ≤ c.toNat ∧ c.toNat ≤ 122)
def isDig (c : UInt8) : Bool := decide (48 ≤ c.toNat ∧ c.toNat ≤ 57)
def isBlk (c : UInt8) : Bool := decide (c.toNat = 32 ∨ c.toNat = 9 ∨ c.toNat = 10 ∨ c.toNat = 13)
def letDig (c : UInt8) : Bool := isLet c || isDig c
def wordL : List (List UInt8) := [[112, 114, 111, 103, 114, 97, 109], [114, 101, 115, 111, 117, 114, 99, 101], [115, 101, 109, 97, 112, 104, 111, 114, 101], [115, 104, 97, 114, 101, 100], [118, 97, 114], [112, 114, 111, 99, 101, 100, 117, 114, 101], [99, 108, 97, 105, 109, 115], [98, 101, 103, 105, 110], [101, 110, 100], [105, 102], [116, 104, 101, 110], [101, 108, 115, 101], [102, 105], [119, 104, 105, 108, 101], [100, 111], [111, 100], [99, 111, 98, 101, 103, 105, 110], [99, 111, 101, 110, 100], [114, 101, 103, 105, 111, 110], [119, 104, 101, 110], [114, 101, 113, 117, 101, 115, 116], [114, 101, 108, 101, 97, 115, 101], [119, 114, 105, 116, 101], [114, 101, 97, 100], [115, 107, 105, 112], [116, 114, 117, 101], [102, 97, 108, 115, 101], [97, 110, 100], [111, 114], [110, 111, 116], [80], [86]]
def isWord (t : List UInt8) : Bool := decide (t ∈ wordL)
def pairL : List (List UInt8) := [[58, 61], [60, 62], [60, 61], [62, 61], [47, 47]]
def oneL : List UInt8 := [59, 44, 40, 41, 91, 93, 43, 45, 42, 47, 37, 61, 60, 62, 46]
/-- How many bytes the longest sign has that begins here. -/
def sgnL (l : List UInt8) : Nat := if l.take 2 ∈ pairL then 2 else match l with
  | [] => 0
  | c :: _ => if c ∈ oneL then 1 else 0
def valD (l : List UInt8) : Nat := l.foldl (fun n c => 10 * n + (c.toNat - 48)) 0
/-- How many bytes there are ahead of the next one of that kind. -/
def ahead (x : UInt8) : List UInt8 → Option Nat
  | [] => none
  | c :: r => if c = x then some 0 else (ahead x r).map (· + 1)
inductive StepR where
  | go (k : Nat) (ts : List Tok)
  | bad (c : Int)
/-- What begins here: how many bytes behind the first one it has, and its token; or what is wrong. -/
def stepT (at' : Nat) (c : UInt8) (r : List UInt8) : StepR :=
  if isBlk c = true then .go 0 []
  else if c = 123 then (match ahead 125 r with
    | none => .bad 11
    | some n => .go (n + 1) [])
  else if c = 80 ∨ c = 86 then .go 0 [⟨3, at', 0, [c]⟩]
  else if isLet c = true then
    (if isWord (c :: r.takeWhile letDig) = true then .go (r.takeWhile letDig).length [⟨3, at', 0, c :: r.takeWhile letDig⟩]
    else if 12 < (c :: r.takeWhile letDig).length then .bad 12 else .go (r.takeWhile letDig).length [⟨1, at', 0, c :: r.takeWhile letDig⟩])
  else if isDig c = true then
    (if valD (c :: r.takeWhile isDig) ≤ 9223372036854775807 then .go (r.takeWhile isDig).length [⟨2, at', (valD (c :: r.takeWhile isDig) : Nat), []⟩] else .bad 13)
  else match sgnL (c :: r) with
    | 0 => .bad 11
    | n + 1 => .go n [⟨4, at', 0, (c :: r).take (n + 1)⟩]
inductive TokR where
  | ok (l : List Tok)
  | bad (c at' : Int)
deriving DecidableEq
def scanF : Nat → List UInt8 → Nat → List Tok → TokR
  | 0, _, _, acc => .ok acc
  | _ + 1, [], p, acc => .ok (acc ++ [⟨5, p, 0, []⟩])
  | f + 1, c :: r, p, acc => match stepT p c r with
    | .bad x => .bad x p
    | .go k ts => scanF f (r.drop k) (p + 1 + k) (acc ++ ts)
theorem scanF_fuel : ∀ (f g : Nat) (l : List UInt8) (p : Nat) (acc : List Tok), l.length < f → l.length < g → scanF f l p acc = scanF g l p acc
  | 0, _, l, _, _, h, _ => absurd h (Nat.not_lt_zero _)
  | _, 0, l, _, _, _, h => absurd h (Nat.not_lt_zero _)
  | f + 1, g + 1, [], p, acc, _, _ => rfl
  | f + 1, g + 1, c :: r, p, acc, h, h' => by
    unfold scanF
    cases stepT p c r with
    | bad x => rfl
    | go k ts => exact scanF_fuel f g (r.drop k) (p + 1 + k) (acc ++ ts) (by simp at h ⊢; omega) (by simp at h' ⊢; omega)
/-- All tokens from here on, behind those that there are. -/
def scan (l : List UInt8) (p : Nat) (acc : List Tok) : TokR := scanF (l.length + 1) l p acc
theorem scan_nil (p : Nat) (acc : List Tok) : scan [] p acc = .ok (acc ++ [⟨5, p, 0, []⟩]) := rfl
theorem scan_bad {c : UInt8} {r : List UInt8} {p : Nat} {acc : List Tok} {x : Int} (h : stepT p c r = .bad x) : scan (c :: r) p acc = .bad x p := by
  unfold scan
  show scanF ((c :: r).length + 1) (c :: r) p acc = _
  unfold scanF
  rw [h]
theorem scan_go {c : UInt8} {r : List UInt8} {p k : Nat} {acc ts : List Tok} (h : stepT p c r = .go k ts) : scan (c :: r) p acc = scan (r.drop k) (p + 1 + k) (acc ++ ts) := by
  unfold scan
  show scanF ((c :: r).length + 1) (c :: r) p acc = _
  rw [scanF, h]
  exact scanF_fuel _ _ _ _ _ (by simp; omega) (by simp)
/-- All tokens of a text, or what is wrong first. -/
def allT (b : List UInt8) : TokR := if 4096 < b.length then .bad 16 4096 else scan b 0 []
theorem ahead_lt {x : UInt8} : ∀ {l : List UInt8} {n : Nat}, ahead x l = some n → n < l.length
  | [], n, h => by cases h
  | c :: r, n, h => by
    unfold ahead at h
    split at h
    · cases h; simp
    · cases e : ahead x r with
      | none => rw [e] at h; cases h
      | some m =>
        rw [e] at h
        have := ahead_lt e
        cases h
        simp; omega
theorem takeWhile_le (p : UInt8 → Bool) (l : List UInt8) : (l.takeWhile p).length ≤ l.length := List.takeWhile_prefix p |>.length_le
/-- A step's end lies within the text. -/
theorem step_le {p k : Nat} {c : UInt8} {r : List UInt8} {ts : List Tok} (h : stepT p c r = .go k ts) : k ≤ r.length := by
  unfold stepT at h
  split at h
  · cases h; omega
  split at h
  · split at h
    · cases h
    · rename_i n e
      have := ahead_lt e
      cases h
      omega
  split at h
  · cases h; omega
  split at h
  · split at h
    · cases h; exact takeWhile_le _ _
    · split at h
      · cases h
      · cases h; exact takeWhile_le _ _
  split at h
  · split at h
    · cases h; exact takeWhile_le _ _
    · cases h
  · split at h
    · cases h
    · rename_i n e
      cases h
      unfold sgnL at e
      split at e
      · rename_i hp
        have : ((c :: r).take 2).length = 2 := by
          have hall : ∀ q ∈ pairL, q.length = 2 := by decide
          exact hall _ hp
        simp at this
        omega
      · have e : (if c ∈ oneL then 1 else 0) = k + 1 := e
        split at e <;> omega
theorem aw1 : allT [97, 58, 61, 49, 32, 123, 120, 125, 32, 60, 62] = .ok [⟨1, 0, 0, [97]⟩, ⟨4, 1, 0, [58, 61]⟩, ⟨2, 3, 1, []⟩, ⟨4, 9, 0, [60, 62]⟩, ⟨5, 11, 0, []⟩] := by decide +kernel
theorem aw2 : allT [97, 32, 63] = .bad 11 2 := by decide +kernel
theorem aw3 : allT [97, 98, 99, 100, 101, 102, 103, 104, 105, 106, 107, 108, 109] = .bad 12 0 := by decide +kernel
theorem aw4 : ∃ x, allT [57, 50, 50, 51, 51, 55, 50, 48, 51, 54, 56, 53, 52, 55, 55, 53, 56, 48, 56] = .bad 13 x := ⟨0, by decide +kernel⟩
end Go.Proofs.YtdlhaadnfmpldaaDoor
