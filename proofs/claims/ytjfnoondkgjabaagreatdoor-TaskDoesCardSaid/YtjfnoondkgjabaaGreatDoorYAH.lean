/-
  How many operands there are at each instruction, plainly: which depths ways lead to, and what a full list of them is.
  Programs as bytes, plainly: numbers of so many bytes, the lowest byte first.
  Programs as bytes, plainly: what is written, what is read, and that both are each other's.
  What may be wrong with a program, plainly: its tables, its instructions, its depths; the first thing is one.
  Arguments that are slices: of numbers, of truths, of structs of numbers: what a walk is told of each.
  Slices of structs of numbers, read; whether two are alike.
  Bytes of the call's own, and numbers put behind them, in both packages.
  Lists of lists of numbers: arguments, and lists of the call's own.
  Bytes put behind others while all that was there stays; what an element's numbers are.
  Lists as bytes: the program's generic function, instance by instance.
  A program as a value; whether one may be, in both packages; Small.
  What is asked of one number, and of each of a list.
  The program's tables, one by one.
  The program's tables that are gone through.
  A procedure's own instructions; whether what comes behind an instruction lies among them.
  Whether an instruction's operands are places of what they name.
  What an instruction takes.
  The reference's way through a procedure, plainly: places that are labelled and are still to be gone on from.
  The walk through a procedure.
  How many operands there are, of a procedure.
  One instruction, the program's and the reference's: they do the same.
-/
import Derived.Deep.Slices
import Derived.ChangeArms
import Derived.ChangeSame
import Derived.ChangeOld
import Derived.ProofKit
import Derived.Test.YtjfnoondkgjabaaGreatDoorRows
import Derived.Laws.StructEq
import Derived.Laws.EntriesVeiled
import Derived.Lib.AppendZeros
import Derived.RegionTactic
import Derived.Test.YtjfnoondkgjabaaGreatDoorYAG
set_option linter.unusedVariables false
set_option linter.unusedSimpArgs false
namespace Go.Proofs.YtjfnoondkgjabaaGreatDoor
open Go

/-- A procedure's instructions, by their places from its beginning on: what each takes and pushes, whether it is the end, where one goes on. -/
structure Flow where
  n : Nat
  tk : Nat → Int
  ps : Nat → Int
  rt : Nat → Bool
  nx : Nat → List Nat
def Flow.ok (F : Flow) (k : Nat) (h : Int) : Prop := 0 ≤ h - F.tk k ∧ (F.rt k = true → h = 0)
def Flow.out (F : Flow) (k : Nat) (h : Int) : Int := h - F.tk k + F.ps k
/-- Some way leads to place k with so many operands. -/
inductive Rch (F : Flow) : Nat → Int → Prop
  | zero : Rch F 0 0
  | step {k j : Nat} {h : Int} : Rch F k h → F.ok k h → j ∈ F.nx k → Rch F j (F.out k h)
structure Flow.May (F : Flow) : Prop where
  pos : 0 < F.n
  ps : ∀ k, k < F.n → 0 ≤ F.ps k
  nx : ∀ k, k < F.n → ∀ j ∈ F.nx k, j < F.n
theorem Rch.lt {F : Flow} (hm : F.May) {k : Nat} {h : Int} (r : Rch F k h) : k < F.n ∧ 0 ≤ h := by
  induction r with
  | zero => exact ⟨hm.pos, Int.le_refl _⟩
  | step r o hj ih => exact ⟨hm.nx _ ih.1 _ hj, by have := hm.ps _ ih.1; have := o.1; unfold Flow.out; omega⟩
/-- Nothing is wrong with the depths. -/
def Flow.Good (F : Flow) : Prop := (∀ k h, Rch F k h → F.ok k h) ∧ ∀ k h h', Rch F k h → Rch F k h' → h = h'
def lab (D : List Int) (k : Nat) : Int := D.getD k (-1)
theorem lab_lt {D : List Int} {k : Nat} (h : 0 ≤ lab D k) : k < D.length := by
  unfold lab at h
  rw [List.getD_eq_getElem?_getD] at h
  rcases Nat.lt_or_ge k D.length with hl | hl
  · exact hl
  · rw [List.getElem?_eq_none hl] at h
    exact absurd h (by decide)
theorem lab_at {D : List Int} {k : Nat} (h : k < D.length) : D[k] = lab D k := by
  unfold lab
  rw [List.getD_eq_getElem?_getD, List.getElem?_eq_getElem h]
  rfl
theorem lab_set (D : List Int) {k : Nat} (x : Int) (hk : k < D.length) (j : Nat) : lab (D.set k x) j = if j = k then x else lab D j := by
  unfold lab
  rw [List.getD_eq_getElem?_getD, List.getD_eq_getElem?_getD, List.getElem?_set]
  by_cases h : k = j
  · subst h; simp [hk]
  · rw [if_neg h, if_neg (fun e => h e.symm)]
/-- Each label is one that a way leads to; all others are -1. -/
structure Sound (F : Flow) (D : List Int) : Prop where
  len : D.length = F.n
  rch : ∀ k, 0 ≤ lab D k → Rch F k (lab D k)
  neg : ∀ k, lab D k < 0 → lab D k = -1
def Clo (F : Flow) (D : List Int) (k : Nat) : Prop := F.ok k (lab D k) ∧ ∀ j ∈ F.nx k, lab D j = F.out k (lab D k)
def Ext (D D' : List Int) : Prop := ∀ k, 0 ≤ lab D k → lab D' k = lab D k
theorem Ext.refl (D : List Int) : Ext D D := fun _ _ => rfl
theorem Ext.trans {A B C : List Int} (h : Ext A B) (h' : Ext B C) : Ext A C := fun k hk => by
  have e := h k hk
  rw [h' k (by rw [e]; exact hk), e]
theorem Clo.ext {F : Flow} (hm : F.May) {D D' : List Int} {k : Nat} (h : Clo F D k) (hk : k < F.n) (hl : 0 ≤ lab D k) (he : Ext D D') : Clo F D' k := by
  have e := he k hl
  refine ⟨by rw [e]; exact h.1, fun j hj => ?_⟩
  have e1 := h.2 j hj
  have h0 : 0 ≤ F.out k (lab D k) := by have := h.1.1; have := hm.ps k hk; unfold Flow.out; omega
  rw [e, he j (by rw [e1]; exact h0), e1]
/-- A list of labels that is full. -/
structure Full (F : Flow) (D : List Int) : Prop where
  snd : Sound F D
  zero : lab D 0 = 0
  clo : ∀ k, 0 ≤ lab D k → Clo F D k
theorem Full.at {F : Flow} {D : List Int} (h : Full F D) (hm : F.May) {k : Nat} {x : Int} (r : Rch F k x) : lab D k = x := by
  induction r with
  | zero => exact h.zero
  | step r o hj ih =>
    have h0 := (r.lt hm).2
    have := (h.clo _ (by rw [ih]; exact h0)).2 _ hj
    rw [this, ih]
theorem Full.good {F : Flow} {D : List Int} (h : Full F D) (hm : F.May) : F.Good := by
  refine ⟨fun k x r => ?_, fun k x y r r' => by rw [← h.at hm r, h.at hm r']⟩
  have e := h.at hm r
  have := (h.clo k (by rw [e]; exact (r.lt hm).2)).1
  rwa [e] at this
theorem bad_ok {F : Flow} {k : Nat} {h : Int} (r : Rch F k h) (hb : ¬ F.ok k h) : ¬ F.Good := fun g => hb (g.1 k h r)
theorem bad_two {F : Flow} {k : Nat} {h h' : Int} (r : Rch F k h) (r' : Rch F k h') (hb : h ≠ h') : ¬ F.Good := fun g => hb (g.2 k h h' r r')
theorem Sound.set {F : Flow} {D : List Int} (h : Sound F D) {k : Nat} {x : Int} (hk : k < F.n) (r : Rch F k x) (hx : 0 ≤ x) : Sound F (D.set k x) := by
  have hl : k < D.length := by rw [h.len]; exact hk
  refine ⟨by rw [List.length_set, h.len], fun j hj => ?_, fun j hj => ?_⟩
  · rw [lab_set D x hl] at hj ⊢
    split at hj
    · rename_i e; subst e; rw [if_pos rfl]; exact r
    · rename_i e; rw [if_neg e]; exact h.rch j hj
  · rw [lab_set D x hl] at hj ⊢
    split at hj
    · omega
    · rename_i e; rw [if_neg e]; exact h.neg j hj
theorem Ext.set {F : Flow} {D : List Int} {k : Nat} {x : Int} (hk : k < D.length) (hn : lab D k < 0) : Ext D (D.set k x) := fun j hj => by
  rw [lab_set D x hk]
  split
  · rename_i e; subst e; omega
  · rfl
/-- Behind a walk that holds: what is labelled anew is closed. -/
structure Walked (F : Flow) (D D' : List Int) (k : Nat) (x : Int) : Prop where
  snd : Sound F D'
  ext : Ext D D'
  at_ : lab D' k = x
  clo : ∀ j, lab D j < 0 → 0 ≤ lab D' j → Clo F D' j
theorem Walked.known {F : Flow} {D : List Int} {k : Nat} {x : Int} (h : Sound F D) (e : lab D k = x) (hx : 0 ≤ x) : Walked F D D k x :=
  ⟨h, Ext.refl _, e, fun j h1 h2 => by omega⟩
/-- One walk behind another one. -/
theorem Walked.then {F : Flow} (hm : F.May) {A B C : List Int} {i j : Nat} {x y : Int} (h : Walked F A B i x) (h' : Walked F B C j y) : Sound F C ∧ Ext A C ∧ (0 ≤ x → lab C i = x) ∧ lab C j = y ∧ ∀ k, lab A k < 0 → 0 ≤ lab C k → Clo F C k := by
  refine ⟨h'.snd, h.ext.trans h'.ext, fun h0 => by rw [h'.ext i (by rw [h.at_]; exact h0), h.at_], h'.at_, fun k h1 h2 => ?_⟩
  by_cases h3 : 0 ≤ lab B k
  · refine (h.clo k h1 h3).ext hm ?_ h3 h'.ext
    rw [← h.snd.len]; exact lab_lt h3
  · exact h'.clo k (by omega) h2
theorem Walked.full {F : Flow} (hm : F.May) {D' : List Int} (h : Walked F (List.replicate F.n (-1)) D' 0 0) : Full F D' := by
  refine ⟨h.snd, h.at_, fun k hk => h.clo k ?_ hk⟩
  unfold lab
  rw [List.getD_eq_getElem?_getD, List.getElem?_replicate]
  split <;> decide
theorem sound_none (F : Flow) : Sound F (List.replicate F.n (-1)) := by
  have e : ∀ k, lab (List.replicate F.n (-1)) k = -1 := fun k => by
    unfold lab
    rw [List.getD_eq_getElem?_getD, List.getElem?_replicate]
    split <;> rfl
  exact ⟨by simp, fun k hk => by rw [e] at hk; omega, fun k _ => e k⟩
/-- How many have no label yet. -/
def bare (D : List Int) : Nat := D.countP (fun x => decide (x < 0))
theorem bare_set : ∀ (D : List Int) (k : Nat) (x : Int), k < D.length → lab D k < 0 → 0 ≤ x → bare (D.set k x) + 1 = bare D
  | [], k, x, hk, _, _ => by simp at hk
  | y :: D, 0, x, _, hn, hx => by
    have hy : y < 0 := hn
    unfold bare
    rw [List.set_cons_zero, List.countP_cons, List.countP_cons, if_pos (decide_eq_true hy), if_neg (by simp; omega)]
  | y :: D, k + 1, x, hk, hn, hx => by
    have ih := bare_set D k x (by simpa using hk) hn hx
    unfold bare at ih ⊢
    rw [List.set_cons_succ, List.countP_cons, List.countP_cons]
    omega
theorem bare_le (D : List Int) : bare D ≤ D.length := List.countP_le_length
end Go.Proofs.YtjfnoondkgjabaaGreatDoor

set_option linter.unusedVariables false
namespace Go.Proofs.YtjfnoondkgjabaaGreatDoor
open Go

/-- The n lowest bytes of u. -/
def leN : Nat → Nat → List Nat
  | 0, _ => []
  | n + 1, u => u % 256 :: leN n (u / 256)
/-- The number that bytes make. -/
def valN : List Nat → Nat
  | [] => 0
  | b :: bs => b + 256 * valN bs
/-- A number's 64 bits as one that is not below 0. -/
def uns (x : Int) : Nat := (x % 18446744073709551616).toNat
/-- 64 bits as a number. -/
def sgn (u : Nat) : Int := if u < 9223372036854775808 then (u : Int) else (u : Int) - 18446744073709551616
/-- Eight bytes of a number. -/
def num8 (x : Int) : List Nat := leN 8 (uns x)
/-- The number that eight bytes make. -/
def of8 (l : List Nat) : Int := sgn (valN (l.take 8))
end Go.Proofs.YtjfnoondkgjabaaGreatDoor

set_option linter.unusedVariables false
namespace Go.Proofs.YtjfnoondkgjabaaGreatDoor
open Go

/-- A program, plainly. -/
structure Pg where
  n1 : Nat
  z1 : Nat → Nat → Int
  n2 : Nat
  z2 : Nat → Nat → Int
  n3 : Nat
  z3 : Nat → Nat → Int
  rg : Int
  se : List Int
  tt : List Int
  ve : List (List Int)
  n8 : Nat
  z8 : Nat → Nat → Int
  cl : Int
/-- Numbers of rows, one behind the other. -/
def flatI (k n : Nat) (z : Nat → Nat → Int) : List Int := (List.range (n * k)).map fun q => z (q / k) (q % k)
theorem flatI_congr {k n : Nat} {z y : Nat → Nat → Int} (h : ∀ i, i < n → ∀ j, j < k → z i j = y i j) : flatI k n z = flatI k n y := by
  unfold flatI
  apply List.map_congr_left
  intro q hq
  have hq := List.mem_range.1 hq
  have hk : 0 < k := by
    rcases Nat.eq_zero_or_pos k with rfl | hk
    · simp at hq
    · exact hk
  exact h _ (Nat.div_lt_of_lt_mul (by rw [Nat.mul_comm]; exact hq)) _ (Nat.mod_lt _ hk)
/-- A list's bytes. -/
def secB (n : Nat) (l : List Int) : List Nat := leN 2 n ++ l.flatMap num8
/-- A program's bytes. -/
def encL (P : Pg) : List Nat :=
  [83, 66] ++ (secB P.n1 (flatI 3 P.n1 P.z1) ++ (secB P.n2 (flatI 3 P.n2 P.z2) ++ (secB P.n3 (flatI 2 P.n3 P.z3) ++ (num8 P.rg ++ (secB P.se.length P.se ++ (secB P.tt.length P.tt ++ (secB P.ve.length P.ve.flatten ++ (secB P.n8 (flatI 2 P.n8 P.z8) ++ num8 P.cl))))))))
/-- May a program be? -/
def MayP (P : Pg) : Prop := P.n1 ≤ 5000 ∧ 1 ≤ P.n2 ∧ P.n2 ≤ 13 ∧ P.n3 ≤ 16 ∧ P.se.length ≤ 8 ∧ P.tt.length ≤ 6 ∧ P.ve.length ≤ 1000 ∧ P.n8 ≤ 1000 ∧ ∀ v ∈ P.ve, v.length = P.tt.length
instance (P : Pg) : Decidable (MayP P) := by unfold MayP; exact inferInstance
/-- Are two alike? -/
structure SameP (P Q : Pg) : Prop where
  n1 : P.n1 = Q.n1
  z1 : ∀ i, i < P.n1 → ∀ j, j < 3 → P.z1 i j = Q.z1 i j
  n2 : P.n2 = Q.n2
  z2 : ∀ i, i < P.n2 → ∀ j, j < 3 → P.z2 i j = Q.z2 i j
  n3 : P.n3 = Q.n3
  z3 : ∀ i, i < P.n3 → ∀ j, j < 2 → P.z3 i j = Q.z3 i j
  rg : P.rg = Q.rg
  se : P.se = Q.se
  tt : P.tt = Q.tt
  ve : P.ve = Q.ve
  n8 : P.n8 = Q.n8
  z8 : ∀ i, i < P.n8 → ∀ j, j < 2 → P.z8 i j = Q.z8 i j
  cl : P.cl = Q.cl
theorem SameP.refl (P : Pg) : SameP P P := ⟨rfl, fun _ _ _ _ => rfl, rfl, fun _ _ _ _ => rfl, rfl, fun _ _ _ _ => rfl, rfl, rfl, rfl, rfl, rfl, fun _ _ _ _ => rfl, rfl⟩
theorem SameP.symm {P Q : Pg} (h : SameP P Q) : SameP Q P :=
  ⟨h.n1.symm, fun i hi j hj => (h.z1 i (by rw [h.n1]; exact hi) j hj).symm, h.n2.symm, fun i hi j hj => (h.z2 i (by rw [h.n2]; exact hi) j hj).symm, h.n3.symm, fun i hi j hj => (h.z3 i (by rw [h.n3]; exact hi) j hj).symm, h.rg.symm, h.se.symm, h.tt.symm, h.ve.symm, h.n8.symm, fun i hi j hj => (h.z8 i (by rw [h.n8]; exact hi) j hj).symm, h.cl.symm⟩
theorem SameP.trans {P Q R : Pg} (h : SameP P Q) (k : SameP Q R) : SameP P R :=
  ⟨h.n1.trans k.n1, fun i hi j hj => (h.z1 i hi j hj).trans (k.z1 i (by rw [← h.n1]; exact hi) j hj), h.n2.trans k.n2, fun i hi j hj => (h.z2 i hi j hj).trans (k.z2 i (by rw [← h.n2]; exact hi) j hj), h.n3.trans k.n3, fun i hi j hj => (h.z3 i hi j hj).trans (k.z3 i (by rw [← h.n3]; exact hi) j hj), h.rg.trans k.rg, h.se.trans k.se, h.tt.trans k.tt, h.ve.trans k.ve, h.n8.trans k.n8, fun i hi j hj => (h.z8 i hi j hj).trans (k.z8 i (by rw [← h.n8]; exact hi) j hj), h.cl.trans k.cl⟩
theorem SameP.enc {P Q : Pg} (h : SameP P Q) : encL P = encL Q := by
  unfold encL
  rw [flatI_congr h.z1, flatI_congr h.z2, flatI_congr h.z3, flatI_congr h.z8, h.n1, h.n2, h.n3, h.n8, h.rg, h.se, h.tt, h.ve, h.cl]
theorem SameP.may {P Q : Pg} (h : SameP P Q) (hm : MayP P) : MayP Q := by
  unfold MayP at *
  rw [← h.n1, ← h.n2, ← h.n3, ← h.n8, ← h.se, ← h.tt, ← h.ve]; exact hm
/-- All numbers are of 64 bits. -/
structure InP (P : Pg) : Prop where
  z1 : ∀ i, i < P.n1 → ∀ j, j < 3 → InI (P.z1 i j)
  z2 : ∀ i, i < P.n2 → ∀ j, j < 3 → InI (P.z2 i j)
  z3 : ∀ i, i < P.n3 → ∀ j, j < 2 → InI (P.z3 i j)
  rg : InI P.rg
  se : ∀ x ∈ P.se, InI x
  tt : ∀ x ∈ P.tt, InI x
  ve : ∀ l ∈ P.ve, ∀ x ∈ l, InI x
  z8 : ∀ i, i < P.n8 → ∀ j, j < 2 → InI (P.z8 i j)
  cl : InI P.cl

/-! ### What is read -/
def cntA (D : List Nat) (o : Nat) : Nat := valN ((D.drop o).take 2)
def numA (D : List Nat) (o : Nat) : Int := of8 (D.drop o)
def numsA (D : List Nat) (o m : Nat) : List Int := (List.range m).map fun q => numA D (o + 8 * q)
/-- Where the parts end. -/
def o1 (D : List Nat) : Nat := 4 + 24 * cntA D 2
def o2 (D : List Nat) : Nat := o1 D + 2 + 24 * cntA D (o1 D)
def o3 (D : List Nat) : Nat := o2 D + 2 + 16 * cntA D (o2 D)
def o4 (D : List Nat) : Nat := o3 D + 8
def o5 (D : List Nat) : Nat := o4 D + 2 + 8 * cntA D (o4 D)
def o6 (D : List Nat) : Nat := o5 D + 2 + 8 * cntA D (o5 D)
def o7 (D : List Nat) : Nat := o6 D + 2 + 8 * (cntA D (o6 D) * cntA D (o5 D))
def o8 (D : List Nat) : Nat := o7 D + 2 + 16 * cntA D (o7 D)
def o9 (D : List Nat) : Nat := o8 D + 8
attribute [irreducible] o1 o2 o3 o4 o5 o6 o7 o8 o9
def rowsA (D : List Nat) (o k : Nat) : Nat → Nat → Int := fun i j => numA D (o + 8 * (i * k + j))
def vecsA (D : List Nat) (o k n : Nat) : List (List Int) := (List.range n).map fun i => (List.range k).map fun j => numA D (o + 8 * (i * k + j))
/-- The program that the bytes are, if they are one. -/
def decP (D : List Nat) : Pg where
  n1 := cntA D 2
  z1 := rowsA D 4 3
  n2 := cntA D (o1 D)
  z2 := rowsA D (o1 D + 2) 3
  n3 := cntA D (o2 D)
  z3 := rowsA D (o2 D + 2) 2
  rg := numA D (o3 D)
  se := numsA D (o4 D + 2) (cntA D (o4 D))
  tt := numsA D (o5 D + 2) (cntA D (o5 D))
  ve := vecsA D (o6 D + 2) (cntA D (o5 D)) (cntA D (o6 D))
  n8 := cntA D (o7 D)
  z8 := rowsA D (o7 D + 2) 2
  cl := numA D (o8 D)
/-- Are the bytes a program's? -/
def DecOk (D : List Nat) : Prop := D.take 2 = [83, 66] ∧ o9 D = D.length ∧ MayP (decP D)
instance (D : List Nat) : Decidable (DecOk D) := by unfold DecOk; exact inferInstance
/-! What is read is written so again. -/
end Go.Proofs.YtjfnoondkgjabaaGreatDoor

set_option linter.unusedVariables false
namespace Go.Proofs.YtjfnoondkgjabaaGreatDoor
open Go

def Pg.op (P : Pg) (i : Nat) : Int := P.z1 i 0
def Pg.a (P : Pg) (i : Nat) : Int := P.z1 i 1
def Pg.b (P : Pg) (i : Nat) : Int := P.z1 i 2
structure EntOk (P : Pg) (i : Nat) : Prop where
  p0 : 0 ≤ P.z2 i 1
  p1 : P.z2 i 1 ≤ 4
  l0 : P.z2 i 1 ≤ P.z2 i 2
  l1 : P.z2 i 2 ≤ 8
  a0 : 0 ≤ P.z2 i 0
  a1 : P.z2 i 0 < P.n1
  zero : i = 0 → P.z2 i 0 = 0 ∧ P.z2 i 2 = 0
  rise : 0 < i → P.z2 (i - 1) 0 < P.z2 i 0
structure CellOk (P : Pg) (i : Nat) : Prop where
  s0 : 0 ≤ P.z3 i 1
  s1 : P.z3 i 1 ≤ 64
  b0 : 0 ≤ P.z3 i 0
  b1 : P.z3 i 0 + P.z3 i 1 ≤ 8192
  b2 : P.z3 i 0 + 1 ≤ 8192
structure ForkOk (P : Pg) (i : Nat) : Prop where
  p0 : 1 ≤ P.z8 i 0
  p1 : P.z8 i 0 < P.n2
  c0 : 0 ≤ P.z8 i 1
  c1 : P.z8 i 1 < P.ve.length
def betw (lo hi x : Int) : Prop := lo ≤ x ∧ x ≤ hi
def tabOk (P : Pg) : Nat → Prop
  | 0 => MayP P
  | 1 => ∀ i, i < P.n2 → EntOk P i
  | 2 => ∀ i, i < P.n3 → CellOk P i
  | 3 => betw 0 16 P.rg
  | 4 => ∀ x ∈ P.se, betw 0 1000 x
  | 5 => ∀ x ∈ P.tt, betw 1 1000 x
  | 6 => ∀ v ∈ P.ve, ∀ x ∈ v, betw 0 1000 x
  | 7 => ∀ i, i < P.n8 → ForkOk P i
  | _ => 0 ≤ P.cl ∧ P.cl < P.ve.length
def TabOk (P : Pg) : Prop := ∀ j, j < 9 → tabOk P j
def TabBad (P : Pg) (k : Nat) : Prop := k < 9 ∧ ¬ tabOk P k ∧ ∀ j, j < k → tabOk P j
/-- A procedure's own instructions: from .. on, up to ahead of to. -/
def fromP (P : Pg) (k : Nat) : Nat := (P.z2 k 0).toNat
def toP (P : Pg) (k : Nat) : Nat := if k + 1 < P.n2 then fromP P (k + 1) else P.n1
theorem from_lt {P : Pg} (h : TabOk P) {k : Nat} (hk : k < P.n2) : fromP P k < toP P k ∧ toP P k ≤ P.n1 ∧ ((fromP P k : Nat) : Int) = P.z2 k 0 := by
  have he : ∀ i, i < P.n2 → EntOk P i := h 1 (by omega)
  have e0 := he k hk
  have e1 := e0.a0
  have e2 := e0.a1
  unfold toP
  split
  · rename_i h1
    have e3 := (he (k + 1) h1).rise (by omega)
    have e4 := (he (k + 1) h1).a1
    simp only [Nat.add_sub_cancel] at e3
    unfold fromP
    omega
  · unfold fromP
    omega
/-- Of how many things an instruction's operand names one; below 0: of none. -/
def limN (P : Pg) (k : Nat) (op : Int) : Int :=
  if op = 3 ∨ op = 4 ∨ op = 5 ∨ op = 6 then P.n3
  else if op = 7 ∨ op = 8 then P.z2 k 2
  else if op = 26 then P.n2
  else if op = 28 then P.n8
  else if op = 30 ∨ op = 31 then P.se.length
  else if op = 32 ∨ op = 33 ∨ op = 34 then P.rg
  else if op = 35 ∨ op = 36 then P.ve.length
  else -1
structure FitOk (P : Pg) (k i : Nat) : Prop where
  is_ : isZ (P.op i) = true
  b0 : opZ (P.op i) < 2 → P.b i = 0
  a0 : opZ (P.op i) < 1 → P.a i = 0
  lim : 0 ≤ limN P k (P.op i) → 0 ≤ P.a i ∧ P.a i < limN P k (P.op i)
  call : P.op i = 26 → P.a i ≠ 0
structure GoOk (P : Pg) (k i : Nat) : Prop where
  jump : P.op i = 24 ∨ P.op i = 25 → (fromP P k : Int) ≤ P.a i ∧ P.a i < (toP P k : Int)
  await : P.op i = 33 → (fromP P k : Int) ≤ P.b i ∧ P.b i < (toP P k : Int)
  on : P.op i ≠ 24 → P.op i ≠ 27 → i + 1 < toP P k
open Classical in
noncomputable def insC (P : Pg) (k i : Nat) : Int := if FitOk P k i then (if GoOk P k i then 0 else 28) else 27
theorem insC_fit {P : Pg} {k i : Nat} (h : ¬ FitOk P k i) : insC P k i = 27 := if_neg h
theorem insC_go {P : Pg} {k i : Nat} (h : FitOk P k i) (h2 : ¬ GoOk P k i) : insC P k i = 28 := by unfold insC; rw [if_pos h, if_neg h2]
theorem insC_ok {P : Pg} {k i : Nat} (h : FitOk P k i) (h2 : GoOk P k i) : insC P k i = 0 := by unfold insC; rw [if_pos h, if_pos h2]
theorem insC_zero {P : Pg} {k i : Nat} (h : insC P k i = 0) : FitOk P k i ∧ GoOk P k i := by
  unfold insC at h
  split at h
  · rename_i h1
    split at h
    · rename_i h2; exact ⟨h1, h2⟩
    · cases h
  · cases h
def InsAll (P : Pg) (k : Nat) : Prop := ∀ i, fromP P k ≤ i → i < toP P k → insC P k i = 0
def InsOk (P : Pg) : Prop := ∀ k, k < P.n2 → InsAll P k
def InsBad (P : Pg) (i : Nat) (c : Int) : Prop := ∃ k, k < P.n2 ∧ fromP P k ≤ i ∧ i < toP P k ∧ insC P k i = c ∧ c ≠ 0 ∧ (∀ j, j < k → InsAll P j) ∧ ∀ j, fromP P k ≤ j → j < i → insC P k j = 0
/-- What an instruction takes, and where one goes on behind it (by places from the procedure's beginning on). -/
def tkP (P : Pg) (i : Nat) : Int := if P.op i = 26 then P.z2 (P.a i).toNat 1 else if P.op i = 28 then P.z2 (P.z8 (P.a i).toNat 0).toNat 1 else popZ (P.op i)
def nxP (P : Pg) (k j : Nat) : List Nat :=
  if P.op (fromP P k + j) = 27 then [] else if P.op (fromP P k + j) = 24 then [(P.a (fromP P k + j)).toNat - fromP P k]
  else if P.op (fromP P k + j) = 25 then [j + 1, (P.a (fromP P k + j)).toNat - fromP P k] else if P.op (fromP P k + j) = 33 then [j + 1, (P.b (fromP P k + j)).toNat - fromP P k] else [j + 1]
def flow (P : Pg) (k : Nat) : Flow := ⟨toP P k - fromP P k, fun j => tkP P (fromP P k + j), fun j => pusZ (P.op (fromP P k + j)), fun j => decide (P.op (fromP P k + j) = 27), nxP P k⟩
theorem pusT_fin : ∀ k : Fin 39, 0 ≤ pusT k.val ∧ pusT k.val ≤ 1 := by decide +kernel
theorem popT_fin : ∀ k : Fin 39, 0 ≤ popT k.val ∧ popT k.val ≤ 2 := by decide +kernel
theorem pusZ_01 (op : Int) : 0 ≤ pusZ op ∧ pusZ op ≤ 1 := by
  unfold pusZ
  by_cases h : op.toNat < 39
  · exact pusT_fin ⟨_, h⟩
  · rw [pusT_big (by omega)]; omega
theorem popZ_02 (op : Int) : 0 ≤ popZ op ∧ popZ op ≤ 2 := by
  unfold popZ
  by_cases h : op.toNat < 39
  · exact popT_fin ⟨_, h⟩
  · rw [popT_big (by omega)]; omega
theorem flow_may {P : Pg} (ht : TabOk P) {k : Nat} (hk : k < P.n2) (hi : InsAll P k) : (flow P k).May := by
  obtain ⟨h1, h2, h3⟩ := from_lt ht hk
  refine ⟨by show 0 < toP P k - fromP P k; omega, fun j _ => (pusZ_01 _).1, fun j hj x hx => ?_⟩
  have hj' : j < toP P k - fromP P k := hj
  obtain ⟨hf, hg⟩ := insC_zero (hi (fromP P k + j) (by omega) (by omega))
  have hx' : x ∈ nxP P k j := hx
  show x < toP P k - fromP P k
  unfold nxP at hx'
  split at hx'
  · cases hx'
  rename_i n27
  split at hx'
  · rename_i e
    have := hg.jump (.inl e)
    rw [List.mem_singleton] at hx'
    omega
  rename_i n24
  have hon := hg.on n24 n27
  split at hx'
  · rename_i e
    have := hg.jump (.inr e)
    rcases List.mem_cons.1 hx' with e2 | e2
    · omega
    · rw [List.mem_singleton] at e2; omega
  split at hx'
  · rename_i e
    have := hg.await e
    rcases List.mem_cons.1 hx' with e2 | e2
    · omega
    · rw [List.mem_singleton] at e2; omega
  · rw [List.mem_singleton] at hx'; omega
def DepBad (P : Pg) (k : Nat) : Prop := k < P.n2 ∧ ¬ (flow P k).Good ∧ ∀ j, j < k → (flow P j).Good
def DepOk (P : Pg) : Prop := ∀ j, j < P.n2 → (flow P j).Good
/-- What is told of a program: where, and what. -/
def CheckR (P : Pg) (t c : Int) : Prop :=
  (∃ k : Nat, TabBad P k ∧ t = k ∧ c = 26) ∨ (TabOk P ∧ ∃ i : Nat, InsBad P i c ∧ t = i) ∨ (TabOk P ∧ InsOk P ∧ ∃ k : Nat, DepBad P k ∧ t = k ∧ c = 29) ∨ (TabOk P ∧ InsOk P ∧ DepOk P ∧ t = 0 ∧ c = 0)
theorem CheckR.zero {P : Pg} {t c : Int} (h : CheckR P t c) (hc : c = 0) : TabOk P ∧ InsOk P ∧ DepOk P ∧ t = 0 := by
  subst hc
  rcases h with ⟨_, _, _, e⟩ | ⟨_, i, ⟨_, _, _, _, _, e, _⟩, _⟩ | ⟨_, _, _, _, _, e⟩ | ⟨h0, h1, h2, h3, _⟩
  · cases e
  · exact absurd rfl e
  · cases e
  · exact ⟨h0, h1, h2, h3⟩
end Go.Proofs.YtjfnoondkgjabaaGreatDoor

set_option linter.unusedVariables false
namespace Go.Proofs.YtjfnoondkgjabaaGreatDoor
open Go.RowKit Go.ChangeShapes Go.WideShapes Go.Deep

/-- v is a slice of truths, its elements bs. -/
def Slb (w : World) (v : Value) (bs : List Bool) : Prop := ∃ a cap, v = .slice a bs.length cap ∧ (bs = [] ∨ ∃ g off, a = some ⟨g, off, none⟩ ∧ g < w.heap.size ∧ ∀ j, j < bs.length → w.cell? ⟨g, off + j, none⟩ = some (.bool (bs.getD j false)))
/-- v is a slice of n structs of nf numbers each. -/
def Slr (w : World) (v : Value) (n nf : Nat) (z : Nat → Nat → Int) : Prop := ∃ a cap, v = .slice a n cap ∧ (n = 0 ∨ ∃ g off, a = some ⟨g, off, none⟩ ∧ g < w.heap.size ∧ ∀ i, i < n → ∀ j, j < nf → w.cell? ⟨g, off + (i * nf + j), none⟩ = some (.int .i64 (z i j)))
theorem Slb.below {B : Nat} {w w' : World} {v : Value} {bs : List Bool} (h : Slb w v bs) (hb : Below B w w') (hB : B = w.heap.size) : Slb w' v bs := by
  subst hB
  obtain ⟨a, cap, rfl, h | ⟨g, off, rfl, hlt, hr⟩⟩ := h
  · exact ⟨a, cap, rfl, .inl h⟩
  · exact ⟨_, cap, rfl, .inr ⟨g, off, rfl, Nat.lt_of_lt_of_le hlt hb.size, fun j hj => by rw [hb.cell (p := ⟨g, off + j, none⟩) hlt]; exact hr j hj⟩⟩
theorem Sl.below {B : Nat} {w w' : World} {v : Value} {xs : List Int} (h : Sl w v xs) (hb : Below B w w') (hB : B = w.heap.size) : Sl w' v xs := by
  subst hB
  obtain ⟨a, cap, rfl, h | ⟨g, off, rfl, hlt, hr⟩⟩ := h
  · exact ⟨a, cap, rfl, .inl h⟩
  · exact ⟨_, cap, rfl, .inr ⟨g, off, rfl, Nat.lt_of_lt_of_le hlt hb.size, fun j hj => by rw [hb.cell (p := ⟨g, off + j, none⟩) hlt]; exact hr j hj⟩⟩
theorem Slr.below {B : Nat} {w w' : World} {v : Value} {n nf : Nat} {z : Nat → Nat → Int} (h : Slr w v n nf z) (hb : Below B w w') (hB : B = w.heap.size) : Slr w' v n nf z := by
  subst hB
  obtain ⟨a, cap, rfl, h | ⟨g, off, rfl, hlt, hr⟩⟩ := h
  · exact ⟨a, cap, rfl, .inl h⟩
  · exact ⟨_, cap, rfl, .inr ⟨g, off, rfl, Nat.lt_of_lt_of_le hlt hb.size, fun i hi j hj => by rw [hb.cell (p := ⟨g, off + (i * nf + j), none⟩) hlt]; exact hr i hi j hj⟩⟩

section
variable {H : Type} {enc : TypeId × Value → H} {P : Program} {w : World} {base : Nat} {spare : Nat → Bool} {held : Bool}
theorem addr_add {b off : Nat} {s : Option Nat} (j : Nat) : (Addr.add ⟨b, off, none⟩ j) = ⟨b, off + j, none⟩ := by
  unfold Addr.add; by_cases h : j = 0 <;> simp [h]
/-- One element's cells, where each element has k of them. -/
theorem elem_cells {g off i k : Nat} {cs : List Value} (h : w.cells? base (Addr.add ⟨g, off, none⟩ i) k = some cs) : cs.length = k ∧ ∀ j, j < k → w.cell? ⟨g, off + (i + j), none⟩ = cs[j]? := by
  obtain ⟨_, hl, hc⟩ := World.cells?_some h
  refine ⟨hl, fun j hj => ?_⟩
  have := hc j hj
  rw [addr_add (s := none), addr_add (s := none)] at this
  rw [← this, Nat.add_assoc]
theorem elem_head {a : Addr} {k : Nat} {cs : List Value} (h : w.cells? base (a.add 0) k = some cs) (hk : 0 < k) : ∃ g off, a = ⟨g, off, none⟩ ∧ g < w.heap.size := by
  obtain ⟨_, hl, hc⟩ := World.cells?_some h
  obtain ⟨g, off, s⟩ := a
  have h0 := hc 0 hk
  have h1 : cs[0]? = some (cs[0]'(by omega)) := List.getElem?_eq_getElem (by omega)
  rw [h1] at h0
  have e : ((Addr.add ⟨g, off, s⟩ 0).add 0) = (⟨g, off, s⟩ : Addr) := by simp [Addr.add]
  rw [e] at h0
  have hs := World.cell?_spot h0
  simp at hs
  subst hs
  exact ⟨g, off, rfl, World.block_lt_of_cell? w _ h0⟩

theorem arg_elems {t e : TypeId} {k : Nat} {fuel : Nat} {a : Option Addr} {len cap : Nat} {x : DataW H × List MemPlace} (ht : P.underlying t = some (.slice e)) (hC : P.cellsOf e = k) (hk : 0 < k)
    (h : DataW.trod enc P w base spare held fuel t (Value.slice a len cap).cells.toList = some x) :
    len ≤ maxLen ∧ (len = 0 ∨ ∃ g off, a = some ⟨g, off, none⟩ ∧ g < w.heap.size ∧ ∀ i, i < len → ∃ cs n y, cs.length = k ∧ (∀ j, j < k → w.cell? ⟨g, off + (i * k + j), none⟩ = cs[j]?) ∧ DataW.trod enc P w base spare held n e cs = some y) := by
  rcases open_slice ht h with ⟨hcs, _⟩ | ⟨a', len', cap', m, n, D, Pl, hcs, hb, hl, hm, hmm, _, hi⟩
  · simp [Value.cells] at hcs
    obtain ⟨rfl, rfl, rfl⟩ := hcs
    exact ⟨Nat.zero_le _, .inl rfl⟩
  · simp [Value.cells] at hcs
    obtain ⟨rfl, rfl, rfl⟩ := hcs
    refine ⟨by omega, ?_⟩
    by_cases h0 : len = 0
    · exact .inl h0
    · right
      have hlm : len ≤ m := by rw [hmm]; split <;> omega
      obtain ⟨cs0, hc0, _⟩ := hi 0 (by omega)
      rw [hC, Nat.zero_mul] at hc0
      obtain ⟨g, off, rfl, hlt⟩ := elem_head hc0 hk
      refine ⟨g, off, rfl, hlt, fun i hil => ?_⟩
      obtain ⟨cs', hc, ht'⟩ := hi i (by omega)
      rw [hC] at hc
      obtain ⟨hlen, hcell⟩ := elem_cells hc
      exact ⟨cs', n, _, hlen, hcell, ht'⟩

theorem arg_ints {t e : TypeId} {fuel : Nat} {a : Option Addr} {len cap : Nat} {x : DataW H × List MemPlace} (ht : P.underlying t = some (.slice e)) (he : P.underlying e = some (.int .i64)) (hC : P.cellsOf e = 1)
    (h : DataW.trod enc P w base spare held fuel t (Value.slice a len cap).cells.toList = some x) :
    ∃ xs : List Int, xs.length = len ∧ Sl w (.slice a len cap) xs ∧ (∀ y ∈ xs, InI y) ∧ len ≤ maxLen := by
  obtain ⟨hm, h0 | ⟨g, off, rfl, hlt, hi⟩⟩ := arg_elems ht hC (by omega) h
  · subst h0
    exact ⟨[], rfl, ⟨a, cap, rfl, .inl rfl⟩, by simp, hm⟩
  · have h1 : ∀ i, ∃ y : Int, i < len → w.cell? ⟨g, off + i, none⟩ = some (.int .i64 y) ∧ InI y := by
      intro i
      by_cases hil : i < len
      · obtain ⟨cs, n, y, hl, hc, htr⟩ := hi i hil
        obtain ⟨z, rfl, _, hwf⟩ := DataW.trod_int he htr
        exact ⟨z, fun _ => ⟨by have := hc 0 (by omega); simpa using this, inI_of hwf⟩⟩
      · exact ⟨0, fun h => absurd h hil⟩
    obtain ⟨f, hf⟩ := Classical.axiomOfChoice h1
    refine ⟨rowL f len, rowL_length _ _, ⟨_, cap, by rw [rowL_length], .inr ⟨g, off, rfl, hlt, fun j hj => ?_⟩⟩, fun y hy => ?_, hm⟩
    · rw [rowL_length] at hj
      rw [rowL_get _ _ _ hj]
      exact (hf j hj).1
    · unfold rowL at hy
      rw [List.mem_map] at hy
      obtain ⟨i, hi2, rfl⟩ := hy
      exact (hf i (List.mem_range.1 hi2)).2
/-- All fields of the struct are numbers of 64 bits, one cell each, in order. -/
def intFields (P : Program) (fs : Array Field) : Bool := (List.range fs.size).all fun i => match fs[i]? with
  | some f => f.offset == i && P.cellsOf f.type == 1 && (match P.underlying f.type with | some (.int .i64) => true | _ => false)
  | none => false
theorem intFields_at {P : Program} {fs : Array Field} (h : intFields P fs = true) (j : Nat) (hj : j < fs.size) : ∃ f, fs[j]? = some f ∧ f.offset = j ∧ P.cellsOf f.type = 1 ∧ P.underlying f.type = some (.int .i64) := by
  have := List.all_eq_true.1 h j (List.mem_range.2 hj)
  have hf : fs[j]? = some fs[j] := Array.getElem?_eq_getElem hj
  rw [hf] at this
  simp only [Bool.and_eq_true, beq_iff_eq] at this
  refine ⟨_, hf, this.1.1, this.1.2, ?_⟩
  have h3 := this.2
  split at h3
  · assumption
  · cases h3
theorem arg_structs {t e : TypeId} {fs : Array Field} {nf : Nat} {fuel : Nat} {a : Option Addr} {len cap : Nat} {x : DataW H × List MemPlace} (ht : P.underlying t = some (.slice e)) (he : P.underlying e = some (.struct fs)) (hone : intFields P fs = true) (hn : fs.size = nf) (hC : P.cellsOf e = nf) (h0 : 0 < nf)
    (h : DataW.trod enc P w base spare held fuel t (Value.slice a len cap).cells.toList = some x) :
    ∃ z : Nat → Nat → Int, Slr w (.slice a len cap) len nf z ∧ (∀ i, i < len → ∀ j, j < nf → InI (z i j)) ∧ len ≤ maxLen := by
  obtain ⟨hm, hz | ⟨g, off, rfl, hlt, hi⟩⟩ := arg_elems ht hC h0 h
  · subst hz
    exact ⟨fun _ _ => 0, ⟨a, cap, rfl, .inl rfl⟩, fun i hi => by omega, hm⟩
  · have h1 : ∀ i, ∃ r : Nat → Int, i < len → ∀ j, j < nf → w.cell? ⟨g, off + (i * nf + j), none⟩ = some (.int .i64 (r j)) ∧ InI (r j) := by
      intro i
      by_cases hil : i < len
      · obtain ⟨cs, n, y, hl, hc, htr⟩ := hi i hil
        obtain ⟨ys, n', _, _, _, hyl, hf⟩ := DataW.trod_struct he htr
        have h2 : ∀ j, ∃ r : Int, j < nf → w.cell? ⟨g, off + (i * nf + j), none⟩ = some (.int .i64 r) ∧ InI r := by
          intro j
          by_cases hj : j < nf
          · obtain ⟨f, hfj, ho, hcl, hu⟩ := intFields_at hone j (by omega)
            have h3 := hf j f hfj
            rw [ho, hcl, List.drop_eq_getElem_cons (by omega), List.take_succ_cons, List.take_zero, List.getElem?_eq_getElem (by omega)] at h3
            obtain ⟨r, hr, _, hwf⟩ := DataW.trod_int hu h3
            refine ⟨r, fun _ => ⟨?_, inI_of hwf⟩⟩
            rw [hc j hj, List.getElem?_eq_getElem (by omega)]
            have : cs[j] = .int .i64 r := by simpa using hr
            rw [this]
          · exact ⟨0, fun h => absurd h hj⟩
        obtain ⟨r, hr⟩ := Classical.axiomOfChoice h2
        exact ⟨r, fun _ => hr⟩
      · exact ⟨fun _ => 0, fun h => absurd h hil⟩
    obtain ⟨z, hz⟩ := Classical.axiomOfChoice h1
    exact ⟨z, ⟨_, cap, rfl, .inr ⟨g, off, rfl, hlt, fun i hil j hj => (hz i hil j hj).1⟩⟩, fun i hil j hj => (hz i hil j hj).2, hm⟩
end
end Go.Proofs.YtjfnoondkgjabaaGreatDoor

set_option linter.unusedVariables false
namespace Go.Proofs.YtjfnoondkgjabaaGreatDoor
open Go Go.RowKit

theorem Slr.touch {w w' : World} {v : Value} {n nf : Nat} {z : Nat → Nat → Int} (h : Slr w v n nf z) (ht : Touch [] w w') : Slr w' v n nf z := by
  obtain ⟨a, cap, rfl, h⟩ := h
  refine ⟨a, cap, rfl, ?_⟩
  rcases h with h | ⟨g, off, rfl, hg, hc⟩
  · exact .inl h
  · exact .inr ⟨g, off, rfl, Nat.lt_of_lt_of_le hg ht.size, fun i hi j hj => by
      rw [World.cell?_of_block (w := w) (a := ⟨g, off + (i * nf + j), none⟩) (ht.block g hg (by simp))]; exact hc i hi j hj⟩
theorem Slr.form {w : World} {v : Value} {n nf : Nat} {z : Nat → Nat → Int} (h : Slr w v n nf z) : ∃ a c, v = .slice a n c := by obtain ⟨a, c, h, _⟩ := h; exact ⟨a, c, h⟩
/-- One number's place, and the number. -/
theorem Slr.ix {w : World} {a : Option Addr} {n cap nf : Nat} {z : Nat → Nat → Int} (h : Slr w (.slice a n cap) n nf z) {i : Nat} (hi : i < n) : ∃ g off, a = some ⟨g, off, none⟩ ∧ ∀ w', Touch [] w w' → ∀ j, j < nf → w'.cell? ⟨g, off + (i * nf + j), none⟩ = some (.int .i64 (z i j)) := by
  obtain ⟨a', cap', he, h⟩ := h
  cases he
  rcases h with h | ⟨g, off, rfl, hg, hc⟩
  · omega
  · exact ⟨g, off, rfl, fun w' ht j hj => by
      rw [World.cell?_of_block (w := w) (a := ⟨g, off + (i * nf + j), none⟩) (ht.block g hg (by simp))]; exact hc i hi j hj⟩
def eqE (k : Nat) (z y : Nat → Nat → Int) (n : Nat) : Prop := ∀ i, i < n → ∀ j, j < k → z i j = y i j
instance (k : Nat) (z y : Nat → Nat → Int) (n : Nat) : Decidable (eqE k z y n) := by unfold eqE; exact inferInstance
def BoolP (b : Bool) (w : World) (e : Ending) (w' : World) : Prop := e = .returned (.bool b) ∧ Touch [] w w'
theorem Slr.at2 {w : World} {a : Option Addr} {n cap : Nat} {z : Nat → Nat → Int} (h : Slr w (.slice a n cap) n 2 z) {i : Nat} (hi : i < n) : ∃ g off, a = some ⟨g, off, none⟩ ∧ ∀ w', Touch [] w w' →
    w'.cell? ⟨g, off + i * 2, none⟩ = some (.int .i64 (z i 0)) ∧ w'.cell? ⟨g, off + i * 2 + 1, none⟩ = some (.int .i64 (z i 1)) := by
  obtain ⟨g, off, rfl, hc⟩ := h.ix hi
  refine ⟨g, off, rfl, fun w' ht => ?_⟩
  have d0 := hc w' ht 0 (by omega)
  have d1 := hc w' ht 1 (by omega)
  rw [Nat.add_zero] at d0
  rw [← Nat.add_assoc] at d1
  exact ⟨d0, d1⟩
theorem Slr.at3 {w : World} {a : Option Addr} {n cap : Nat} {z : Nat → Nat → Int} (h : Slr w (.slice a n cap) n 3 z) {i : Nat} (hi : i < n) : ∃ g off, a = some ⟨g, off, none⟩ ∧ ∀ w', Touch [] w w' →
    w'.cell? ⟨g, off + i * 3, none⟩ = some (.int .i64 (z i 0)) ∧ w'.cell? ⟨g, off + i * 3 + 1, none⟩ = some (.int .i64 (z i 1)) ∧ w'.cell? ⟨g, off + i * 3 + 2, none⟩ = some (.int .i64 (z i 2)) := by
  obtain ⟨g, off, rfl, hc⟩ := h.ix hi
  refine ⟨g, off, rfl, fun w' ht => ?_⟩
  have d0 := hc w' ht 0 (by omega)
  have d1 := hc w' ht 1 (by omega)
  have d2 := hc w' ht 2 (by omega)
  rw [Nat.add_zero] at d0
  rw [← Nat.add_assoc] at d1 d2
  exact ⟨d0, d1, d2⟩
end Go.Proofs.YtjfnoondkgjabaaGreatDoor

set_option linter.unusedVariables false
namespace Go.Proofs.YtjfnoondkgjabaaGreatDoor
open Go Go.RowKit

/-- A byte as a value. -/
def u8v (b : Nat) : Value := .int .u8 (b : Int)
/-- v is a slice of bytes of the call's own. -/
def Qb (w : World) (base : Nat) (v : Value) (bs : List Nat) : Prop := Qu w base 5 v (bs.map u8v)
theorem Qb.form {w : World} {base : Nat} {v : Value} {bs : List Nat} (h : Qb w base v bs) : ∃ a c, v = .slice a bs.length c := by
  obtain ⟨a, c, h, _⟩ := Qu.shape h
  exact ⟨a, c, by simpa using h⟩
/-- What a call that puts bytes behind v0's leaves: bytes in v, v0's own block alone written. -/
structure Bw (w : World) (base : Nat) (v0 : Value) (w' : World) (v : Value) (bs : List Nat) : Prop where
  q : Qb w' base v bs
  t : Touch v0.ownBlock.toList w w'
  o : ∀ k, v.ownBlock = some k → v0.ownBlock = some k ∨ w.heap.size ≤ k
theorem Bw.refl {w : World} {base : Nat} {v : Value} {bs : List Nat} (h : Qb w base v bs) : Bw w base v w v bs := ⟨h, Touch.refl _ _, fun k hk => .inl hk⟩
theorem Bw.trans {w w1 w2 : World} {base : Nat} {v0 v1 v2 : Value} {bs bs2 : List Nat} (h : Bw w base v0 w1 v1 bs) (k : Bw w1 base v1 w2 v2 bs2) : Bw w base v0 w2 v2 bs2 :=
  ⟨k.q, h.t.transF k.t (fun i hi hlt => by
    rcases h.o i (by simpa using hi) with e | e
    · simp [e]
    · omega), fun i hi => by
    rcases k.o i hi with e | e
    · exact h.o i e
    · exact .inr (Nat.le_trans h.t.size e)⟩
/-- Behind an append of one byte. -/
theorem Bw.one {w w' : World} {base : Nat} {v v' : Value} {bs : List Nat} {b : Nat} (o : Obj) (hq : Qu w' base 5 v' (bs.map u8v ++ [u8v b])) (hg : (w.alloc o).grownBy w' v.ownBlock) (ho : ∀ k, v'.ownBlock = some k → v.ownBlock = some k ∨ (w.alloc o).heap.size ≤ k) : Bw w base v w' v' (bs ++ [b]) := by
  refine ⟨by unfold Qb; rw [List.map_append]; exact hq, ((Touch.refl v.ownBlock.toList w).alloc o).grown hg (fun k hk _ => by simp [hk]), fun k hk => ?_⟩
  rcases ho k hk with e | e
  · exact .inl e
  · exact .inr (by simp at e; omega)
end Go.Proofs.YtjfnoondkgjabaaGreatDoor

set_option linter.unusedVariables false
namespace Go.Proofs.YtjfnoondkgjabaaGreatDoor
open Go.RowKit Go.ChangeShapes Go.WideShapes Go.Deep

def rw_ (l : List (List Int)) (i : Nat) : List Int := l.getD i []
/-- v is a slice of slices of numbers. -/
def Rws (w : World) (v : Value) (l : List (List Int)) : Prop := ∃ a cap, v = .slice a l.length cap ∧ (l = [] ∨ ∃ g off, a = some ⟨g, off, none⟩ ∧ g < w.heap.size ∧ ∃ ps : Nat → Value, ∀ i, i < l.length → Sl w (ps i) (rw_ l i) ∧ w.cell? ⟨g, off + i, none⟩ = some (ps i))
theorem Rws.touch {w w' : World} {v : Value} {l : List (List Int)} (h : Rws w v l) (ht : Touch [] w w') : Rws w' v l := by
  obtain ⟨a, cap, rfl, h⟩ := h
  refine ⟨a, cap, rfl, ?_⟩
  rcases h with h | ⟨g, off, rfl, hg, ps, hp⟩
  · exact .inl h
  · refine .inr ⟨g, off, rfl, Nat.lt_of_lt_of_le hg ht.size, ps, fun i hi => ⟨(hp i hi).1.touch ht (by simp), ?_⟩⟩
    rw [World.cell?_of_block (w := w) (a := ⟨g, off + i, none⟩) (ht.block g hg (by simp))]
    exact (hp i hi).2
theorem Rws.form {w : World} {v : Value} {l : List (List Int)} (h : Rws w v l) : ∃ a c, v = .slice a l.length c := by obtain ⟨a, c, h, _⟩ := h; exact ⟨a, c, h⟩
theorem Rws.nil (w : World) : Rws w (.slice none 0 0) [] := ⟨none, 0, rfl, .inl rfl⟩
/-- One row's place, and the row. -/
theorem Rws.at {w : World} {a : Option Addr} {n cap : Nat} {l : List (List Int)} (h : Rws w (.slice a n cap) l) {i : Nat} (hi : i < l.length) : ∃ g off, a = some ⟨g, off, none⟩ ∧ ∃ ra rc, Sl w (.slice ra (rw_ l i).length rc) (rw_ l i) ∧
    ∀ w', Touch [] w w' → w'.cell? ⟨g, off + i, none⟩ = some (.slice ra (rw_ l i).length rc) := by
  obtain ⟨a', cap', he, h⟩ := h
  cases he
  rcases h with h | ⟨g, off, rfl, hg, ps, hp⟩
  · subst h; simp at hi
  · obtain ⟨q0, q1⟩ := hp i hi
    obtain ⟨ra, rc, hr⟩ := q0.form
    rw [hr] at q0 q1
    refine ⟨g, off, rfl, ra, rc, q0, fun w' ht => ?_⟩
    rw [World.cell?_of_block (w := w) (a := ⟨g, off + i, none⟩) (ht.block g hg (by simp))]; exact q1
/-- One number's place, and the number. -/
theorem Sl.ix {w : World} {a : Option Addr} {n cap : Nat} {xs : List Int} (h : Sl w (.slice a n cap) xs) {q : Nat} (hq : q < xs.length) : ∃ g off, a = some ⟨g, off, none⟩ ∧ ∀ w', Touch [] w w' → w'.cell? ⟨g, off + q, none⟩ = some (.int .i64 (xs.getD q 0)) := by
  obtain ⟨a', cap', he, h⟩ := h
  cases he
  rcases h with h | ⟨g, off, rfl, hg, hr⟩
  · subst h; simp at hq
  · exact ⟨g, off, rfl, fun w' ht => (hr.touch ht hg (by simp)) q hq⟩
section
variable {H : Type} {enc : TypeId × Value → H} {P : Program} {w : World} {base : Nat} {spare : Nat → Bool} {held : Bool}
/-- An argument that is a slice of slices of numbers. -/
theorem arg_rows {t ti ei : TypeId} {fuel : Nat} {a : Option Addr} {len cap : Nat} {x : DataW H × List MemPlace} (ht : P.underlying t = some (.slice ti)) (hti : P.underlying ti = some (.slice ei)) (hei : P.underlying ei = some (.int .i64)) (hCi : P.cellsOf ei = 1) (hCti : P.cellsOf ti = 1)
    (h : DataW.trod enc P w base spare held fuel t (Value.slice a len cap).cells.toList = some x) :
    ∃ l : List (List Int), l.length = len ∧ Rws w (.slice a len cap) l ∧ (∀ i, i < len → (rw_ l i).length ≤ maxLen ∧ ∀ y ∈ rw_ l i, InI y) ∧ len ≤ maxLen := by
  obtain ⟨hm, hz | ⟨g, off, rfl, hlt, hi⟩⟩ := arg_elems ht hCti (by omega) h
  · subst hz
    exact ⟨[], rfl, ⟨a, cap, rfl, .inl rfl⟩, fun i hi => by omega, hm⟩
  · have h1 : ∀ i, ∃ (r : Value × List Int), i < len → Sl w r.1 r.2 ∧ w.cell? ⟨g, off + i, none⟩ = some r.1 ∧ r.2.length ≤ maxLen ∧ ∀ y ∈ r.2, InI y := by
      intro i
      by_cases hil : i < len
      · obtain ⟨cs, n, y, hl, hc, htr⟩ := hi i hil
        obtain ⟨u, rfl⟩ : ∃ u, cs = [u] := by
          match cs, hl with
          | [u], _ => exact ⟨u, rfl⟩
        have hc0 := hc 0 (by omega)
        rw [Nat.mul_one, Nat.add_zero] at hc0
        rcases open_slice hti htr with ⟨hcs, _⟩ | ⟨a', len', cap', m, n, D, Pl, hcs, _⟩
        · obtain rfl : u = .slice none 0 0 := by simpa using hcs
          exact ⟨(.slice none 0 0, []), fun _ => ⟨Sl.nil w, hc0, by simp, by simp⟩⟩
        · obtain rfl : u = .slice a' len' cap' := by simpa using hcs
          obtain ⟨xs, q1, q2, q3, q4⟩ := arg_ints hti hei hCi (a := a') (len := len') (cap := cap') htr
          exact ⟨(.slice a' len' cap', xs), fun _ => ⟨q2, hc0, by show xs.length ≤ _; omega, q3⟩⟩
      · exact ⟨(.slice none 0 0, []), fun h => absurd h hil⟩
    obtain ⟨F, hF⟩ := Classical.axiomOfChoice h1
    have hg : ∀ i, i < len → rw_ ((List.range len).map fun i => (F i).2) i = (F i).2 := fun i hi => by simp [rw_, hi]
    refine ⟨(List.range len).map fun i => (F i).2, by simp, ⟨_, cap, by simp, .inr ⟨g, off, rfl, hlt, fun i => (F i).1, fun i hi => ?_⟩⟩, fun i hi => ?_, hm⟩
    · have hi' : i < len := by simpa using hi
      rw [hg i hi']
      exact ⟨(hF i hi').1, (hF i hi').2.1⟩
    · rw [hg i hi]; exact (hF i hi).2.2
end
end Go.Proofs.YtjfnoondkgjabaaGreatDoor

set_option linter.unusedVariables false
namespace Go.Proofs.YtjfnoondkgjabaaGreatDoor
open Go Go.RowKit

theorem Bw.keep {w0 w w' : World} {v v' : Value} {bs bs' : List Nat} (h0 : Touch [] w0 w) (hq : Qb w w0.heap.size v bs) (h : Bw w w0.heap.size v w' v' bs') : Touch [] w0 w' :=
  h0.transF h.t (fun i hi hlt => by have := (Qu.own hq i (by simpa using hi)).1; omega)
end Go.Proofs.YtjfnoondkgjabaaGreatDoor

set_option linter.unusedVariables false
namespace Go.Proofs.YtjfnoondkgjabaaGreatDoor
open Go Go.RowKit

theorem rw_mem {l : List (List Int)} {i : Nat} (h : i < l.length) : rw_ l i ∈ l := by
  unfold rw_
  rw [List.getD_eq_getElem?_getD, List.getElem?_eq_getElem h]
  exact List.getElem_mem h
end Go.Proofs.YtjfnoondkgjabaaGreatDoor

set_option linter.unusedVariables false
namespace Go.Proofs.YtjfnoondkgjabaaGreatDoor
open Go Go.RowKit

/-- pv is the program P. -/
def PgV (w : World) (pv : Value) (P : Pg) : Prop := ∃ v1 v2 v3 v5 v6 v7 v8, pv = .agg #[v1, v2, v3, .int .i64 P.rg, v5, v6, v7, v8, .int .i64 P.cl] ∧ Slr w v1 P.n1 3 P.z1 ∧ Slr w v2 P.n2 3 P.z2 ∧ Slr w v3 P.n3 2 P.z3 ∧ Sl w v5 P.se ∧ Sl w v6 P.tt ∧ Rws w v7 P.ve ∧ Slr w v8 P.n8 2 P.z8
theorem PgV.touch {w w' : World} {pv : Value} {P : Pg} (h : PgV w pv P) (ht : Touch [] w w') : PgV w' pv P := by
  obtain ⟨v1, v2, v3, v5, v6, v7, v8, rfl, h1, h2, h3, h5, h6, h7, h8⟩ := h
  exact ⟨v1, v2, v3, v5, v6, v7, v8, rfl, h1.touch ht, h2.touch ht, h3.touch ht, h5.touch ht (by simp), h6.touch ht (by simp), h7.touch ht, h8.touch ht⟩
structure LenP (P : Pg) : Prop where
  n1 : P.n1 ≤ 9223372036854775807
  n2 : P.n2 ≤ 9223372036854775807
  n3 : P.n3 ≤ 9223372036854775807
  se : P.se.length ≤ 9223372036854775807
  tt : P.tt.length ≤ 9223372036854775807
  ve : P.ve.length ≤ 9223372036854775807
  vs : ∀ v ∈ P.ve, v.length ≤ 9223372036854775807
  n8 : P.n8 ≤ 9223372036854775807
def AnyB (w : World) (e : Ending) (w' : World) : Prop := ∃ b : Bool, e = .returned (.bool b) ∧ Touch [] w w'
/-- Does a row have another length? -/
def oddR (ve : List (List Int)) (c : Nat) : Bool := ve.any fun v => decide (v.length ≠ c)
theorem oddR_range (ve : List (List Int)) (c : Nat) : oddR ve c = (List.range ve.length).any fun i => decide ((rw_ ve i).length ≠ c) := by
  unfold oddR
  rw [Bool.eq_iff_iff]
  simp only [List.any_eq_true, decide_eq_true_eq]
  constructor
  · rintro ⟨v, hv, hc⟩
    obtain ⟨i, hi, rfl⟩ := List.getElem_of_mem hv
    exact ⟨i, List.mem_range.2 hi, by unfold rw_; rw [List.getD_eq_getElem?_getD, List.getElem?_eq_getElem hi]; exact hc⟩
  · rintro ⟨i, hi, hc⟩
    exact ⟨_, rw_mem (List.mem_range.1 hi), hc⟩
theorem mayP_odd (P : Pg) (h : P.n1 ≤ 5000 ∧ 1 ≤ P.n2 ∧ P.n2 ≤ 13 ∧ P.n3 ≤ 16 ∧ P.se.length ≤ 8 ∧ P.tt.length ≤ 6 ∧ P.ve.length ≤ 1000 ∧ P.n8 ≤ 1000) : decide (MayP P) = !oddR P.ve P.tt.length := by
  obtain ⟨h1, h2, h3, h4, h5, h6, h7, h8⟩ := h
  cases ho : oddR P.ve P.tt.length with
  | true =>
    refine decide_eq_false (fun hm => ?_)
    unfold oddR at ho
    obtain ⟨v, hv, hc⟩ := List.any_eq_true.1 ho
    exact of_decide_eq_true hc (hm.2.2.2.2.2.2.2.2 v hv)
  | false =>
    refine decide_eq_true ⟨h1, h2, h3, h4, h5, h6, h7, h8, fun v hv => ?_⟩
    unfold oddR at ho
    have := List.any_eq_false.1 ho v hv
    simpa using this
set_option maxHeartbeats 32000000 in
set_option maxRecDepth 100000 in
theorem rmay_any (pv : Value) (P : Pg) (w : World) (h : PgV w pv P) : Calls Tryz.prog 48 #[pv] w (BoolP (decide (MayP P)) w) := by
  obtain ⟨n1, z1, n2, z2, n3, z3, rg, se, tt, ve, n8, z8, cl⟩ := P
  obtain ⟨v1, v2, v3, v5, v6, v7, v8, rfl, h1, h2, h3, h5, h6, h7, h8⟩ := h
  dsimp only at h1 h2 h3 h5 h6 h7 h8 ⊢
  obtain ⟨a1, c1, rfl⟩ := h1.form
  obtain ⟨a2, c2, rfl⟩ := h2.form
  obtain ⟨a3, c3, rfl⟩ := h3.form
  obtain ⟨a5, c5, rfl⟩ := h5.form
  obtain ⟨a6, c6, rfl⟩ := h6.form
  obtain ⟨a7, c7, rfl⟩ := h7.form
  obtain ⟨a8, c8, rfl⟩ := h8.form
  obtain ⟨B, hB⟩ : ∃ B, decide (MayP ⟨n1, z1, n2, z2, n3, z3, rg, se, tt, ve, n8, z8, cl⟩) = B := ⟨_, rfl⟩
  have HBF : Hid (5000 < n1 ∨ n2 < 1 ∨ 13 < n2 ∨ 16 < n3 ∨ 8 < se.length ∨ 6 < tt.length ∨ 1000 < ve.length ∨ 1000 < n8 → B = false) := Lib.hid (fun h => by rw [← hB]; exact decide_eq_false (fun hm => by obtain ⟨q1, q2, q3, q4, q5, q6, q7, q8, _⟩ := hm; dsimp only at q1 q2 q3 q4 q5 q6 q7 q8; omega))
  have HBO : Hid (n1 ≤ 5000 ∧ 1 ≤ n2 ∧ n2 ≤ 13 ∧ n3 ≤ 16 ∧ se.length ≤ 8 ∧ tt.length ≤ 6 ∧ ve.length ≤ 1000 ∧ n8 ≤ 1000 → B = !oddR ve tt.length) := Lib.hid (fun h => by rw [← hB]; exact mayP_odd _ h)
  rw [hB]
  clear hB
  have HR := Lib.hid h7
  clear h1 h2 h3 h5 h6 h7 h8
  obtain ⟨l5, hl5⟩ : ∃ l, se.length = l := ⟨_, rfl⟩
  obtain ⟨l6, hl6⟩ : ∃ l, tt.length = l := ⟨_, rfl⟩
  obtain ⟨l7, hl7⟩ : ∃ l, ve.length = l := ⟨_, rfl⟩
  rw [hl5, hl6, hl7] at HBF HBO
  rw [hl5, hl6, hl7]
  rw [hl7] at HR
  have HL7 := Lib.hid hl7
  clear hl5 hl6 hl7
  by_cases t0 : 5000 < n1
  · have d0 : decide ((5000 : Int) < (n1 : Int)) = true := dT (by omega)
    have HQ : Hid (B = false) := Lib.hid (HBF.out (by omega))
    go_enter Tryz.func48, Tryz.ntmps48
    go_wp2
    go_ret
    exact ⟨by rw [HQ.out]; rfl, (Touch.refl [] w).alloc _⟩
  have d0 : decide ((5000 : Int) < (n1 : Int)) = false := dF (by omega)
  by_cases t1 : n2 < 1
  · have d1 : decide ((n2 : Int) < 1) = true := dT (by omega)
    have HQ : Hid (B = false) := Lib.hid (HBF.out (by omega))
    go_enter Tryz.func48, Tryz.ntmps48
    go_wp2
    go_ret
    exact ⟨by rw [HQ.out]; rfl, (Touch.refl [] w).alloc _⟩
  have d1 : decide ((n2 : Int) < 1) = false := dF (by omega)
  by_cases t2 : 13 < n2
  · have d2 : decide ((13 : Int) < (n2 : Int)) = true := dT (by omega)
    have HQ : Hid (B = false) := Lib.hid (HBF.out (by omega))
    go_enter Tryz.func48, Tryz.ntmps48
    go_wp2
    go_ret
    exact ⟨by rw [HQ.out]; rfl, (Touch.refl [] w).alloc _⟩
  have d2 : decide ((13 : Int) < (n2 : Int)) = false := dF (by omega)
  by_cases t3 : 16 < n3
  · have d3 : decide ((16 : Int) < (n3 : Int)) = true := dT (by omega)
    have HQ : Hid (B = false) := Lib.hid (HBF.out (by omega))
    go_enter Tryz.func48, Tryz.ntmps48
    go_wp2
    go_ret
    exact ⟨by rw [HQ.out]; rfl, (Touch.refl [] w).alloc _⟩
  have d3 : decide ((16 : Int) < (n3 : Int)) = false := dF (by omega)
  by_cases t4 : 8 < l5
  · have d4 : decide ((8 : Int) < (l5 : Int)) = true := dT (by omega)
    have HQ : Hid (B = false) := Lib.hid (HBF.out (by omega))
    go_enter Tryz.func48, Tryz.ntmps48
    go_wp2
    go_ret
    exact ⟨by rw [HQ.out]; rfl, (Touch.refl [] w).alloc _⟩
  have d4 : decide ((8 : Int) < (l5 : Int)) = false := dF (by omega)
  by_cases t5 : 6 < l6
  · have d5 : decide ((6 : Int) < (l6 : Int)) = true := dT (by omega)
    have HQ : Hid (B = false) := Lib.hid (HBF.out (by omega))
    go_enter Tryz.func48, Tryz.ntmps48
    go_wp2
    go_ret
    exact ⟨by rw [HQ.out]; rfl, (Touch.refl [] w).alloc _⟩
  have d5 : decide ((6 : Int) < (l6 : Int)) = false := dF (by omega)
  by_cases t6 : 1000 < l7
  · have d6 : decide ((1000 : Int) < (l7 : Int)) = true := dT (by omega)
    have HQ : Hid (B = false) := Lib.hid (HBF.out (by omega))
    go_enter Tryz.func48, Tryz.ntmps48
    go_wp2
    go_ret
    exact ⟨by rw [HQ.out]; rfl, (Touch.refl [] w).alloc _⟩
  have d6 : decide ((1000 : Int) < (l7 : Int)) = false := dF (by omega)
  by_cases t7 : 1000 < n8
  · have d7 : decide ((1000 : Int) < (n8 : Int)) = true := dT (by omega)
    have HQ : Hid (B = false) := Lib.hid (HBF.out (by omega))
    go_enter Tryz.func48, Tryz.ntmps48
    go_wp2
    go_ret
    exact ⟨by rw [HQ.out]; rfl, (Touch.refl [] w).alloc _⟩
  have d7 : decide ((1000 : Int) < (n8 : Int)) = false := dF (by omega)
  have HQ : Hid (B = !oddR ve l6) := Lib.hid (HBO.out (by omega))
  have ht0 : Touch [] w (w.alloc (.cells #[.slice a1 n1 c1, .slice a2 n2 c2, .slice a3 n3 c3, .int .i64 rg, .slice a5 l5 c5, .slice a6 l6 c6, .slice a7 l7 c7, .slice a8 n8 c8, .int .i64 cl] 29)) := (Touch.refl [] w).alloc _
  have hb0 : Blk (w.alloc (.cells #[.slice a1 n1 c1, .slice a2 n2 c2, .slice a3 n3 c3, .int .i64 rg, .slice a5 l5 c5, .slice a6 l6 c6, .slice a7 l7 c7, .slice a8 n8 c8, .int .i64 cl] 29)) w.heap.size #[.slice a1 n1 c1, .slice a2 n2 c2, .slice a3 n3 c3, .int .i64 rg, .slice a5 l5 c5, .slice a6 l6 c6, .slice a7 l7 c7, .slice a8 n8 c8, .int .i64 cl] 29 := Blk.new rfl
  have HT0 := Lib.hid ht0
  have HB0 := Lib.hid hb0
  clear ht0 hb0
  have HA : Hid (oddR ve l6 = (List.range l7).any fun i => decide ((rw_ ve i).length ≠ l6)) := Lib.hid (by rw [oddR_range, HL7.out])
  go_enter Tryz.func48, Tryz.ntmps48
  go_wp2
  go_loopw [3] (fun kv wr => ∃ k : Nat, k ≤ l7 ∧ kv = .int .i64 (k : Int) ∧ Touch [] (w.alloc (.cells #[.slice a1 n1 c1, .slice a2 n2 c2, .slice a3 n3 c3, .int .i64 rg, .slice a5 l5 c5, .slice a6 l6 c6, .slice a7 l7 c7, .slice a8 n8 c8, .int .i64 cl] 29)) wr ∧ ∀ i, i < k → decide ((rw_ ve i).length ≠ l6) = false) (fun kv _ => l7 + 1 - (intOf kv).toNat)
  case atStart => exact ⟨0, by omega, rfl, Touch.refl _ _, fun i hi => by omega⟩
  case round =>
    obtain ⟨k, hk, rfl, ht, hno⟩ := hrel
    have HT := Lib.hid ht
    have HNo := Lib.hid hno
    have hbx : ∀ q : Later wr, Blk q.world w.heap.size #[.slice a1 n1 c1, .slice a2 n2 c2, .slice a3 n3 c3, .int .i64 rg, .slice a5 l5 c5, .slice a6 l6 c6, .slice a7 l7 c7, .slice a8 n8 c8, .int .i64 cl] 29 := fun q => HB0.out.touch (HT.out.trans q.ok) (by simp)
    have b6 : ∀ q : Later wr, q.world.cell? ⟨w.heap.size, 6, none⟩ = some (.slice a7 l7 c7) := fun q => (hbx q).cell (i := 6) rfl
    have b5 : ∀ q : Later wr, q.world.cell? ⟨w.heap.size, 5, none⟩ = some (.slice a6 l6 c6) := fun q => (hbx q).cell (i := 5) rfl
    have e6 : wr.cell? ⟨w.heap.size, 6, none⟩ = some (.slice a7 l7 c7) := b6 ⟨wr, Touch.refl _ _⟩
    clear ht hno hbx
    by_cases hlt : k < l7
    · obtain ⟨g, off, hga, ra, rc, hsl, hc⟩ := (HR.out.touch HT0.out).at (i := k) (by rw [HL7.out]; exact hlt)
      subst hga
      obtain ⟨m, hm⟩ : ∃ m, (rw_ ve k).length = m := ⟨_, rfl⟩
      rw [hm] at hc
      have HM := Lib.hid hm
      have HC := Lib.hid hc
      have x0 : ∀ q : Later wr, q.world.cell? ⟨g, off + k, none⟩ = some (.slice ra m rc) := fun q => HC.out _ (HT.out.trans q.ok)
      clear hc hm hsl
      by_cases hme : m = l6
      · have hd : ((m : Int) != (l6 : Int)) = false := bneF (by omega)
        have HNE : Hid (decide (m ≠ l6) = false) := Lib.hid (by simp [hme])
        clear hme
        go_wp2_with fail
        refine wp_region_later (by kernel_rfl) (by kernel_rfl) ?_
        repeat (first
          | (go_big_quiet_step ((with_reducible rfl)))
          | (quiet_step (fail)))
        refine wpQuiet_nil ?_
        intro wq hw'
        obtain ⟨⟨wq', hwq⟩, hwe⟩ := hw'
        have hwe : wq = wq' := hwe
        subst hwe
        have HTn := Lib.hid (HT.out.trans hwq)
        clear hwe hwq x0 b5 b6 e6
        go_wp2
        go_roundw
        case rel =>
          refine ⟨k + 1, by omega, by go_num, HTn.out, fun i hi => ?_⟩
          by_cases e : i = k
          · subst e; rw [HM.out]; exact HNE.out
          · exact HNo.out i (by omega)
        case measure => simp [intOf]; omega
      · have hd : ((m : Int) != (l6 : Int)) = true := bneT (by omega)
        have HE : Hid (B = false) := Lib.hid (by rw [HQ.out, HA.out, show ((List.range l7).any fun i => decide ((rw_ ve i).length ≠ l6)) = true from List.any_eq_true.2 ⟨k, List.mem_range.2 hlt, by rw [HM.out]; exact decide_eq_true hme⟩]; rfl)
        clear hme
        go_wp2_with fail
        refine wp_region_later (by kernel_rfl) (by kernel_rfl) ?_
        repeat (first
          | (go_big_quiet_step ((with_reducible rfl)))
          | (quiet_step (fail)))
        refine wpQuiet_nil ?_
        intro wq hw'
        obtain ⟨⟨wq', hwq⟩, hwe⟩ := hw'
        have hwe : wq = wq' := hwe
        subst hwe
        have HTn := Lib.hid (HT0.out.trans (HT.out.trans hwq))
        clear hwe hwq x0 b5 b6 e6
        go_wp2
        go_ret
        exact ⟨by rw [HE.out]; rfl, HTn.out⟩
    · obtain rfl : l7 = k := by omega
      have HE : Hid (B = true) := Lib.hid (by rw [HQ.out, HA.out, show ((List.range l7).any fun i => decide ((rw_ ve i).length ≠ l6)) = false from List.any_eq_false.2 (fun i hi => by rw [HNo.out i (List.mem_range.1 hi)]; exact Bool.false_ne_true)]; rfl)
      have HTn := Lib.hid (HT0.out.trans HT.out)
      clear b5 b6
      go_wp2
      go_ret
      exact ⟨by rw [HE.out]; rfl, HTn.out⟩
set_option maxHeartbeats 32000000 in
set_option maxRecDepth 100000 in
theorem small_any (pv : Value) (P : Pg) (most : Int) (w : World) (h : PgV w pv P) (hlen : P.ve.length ≤ 9223372036854775807) : Calls Tryz.prog 4 #[pv, .int .i64 most] w (AnyB w) := by
  obtain ⟨n1, z1, n2, z2, n3, z3, rg, se, tt, ve, n8, z8, cl⟩ := P
  obtain ⟨v1, v2, v3, v5, v6, v7, v8, rfl, h1, h2, h3, h5, h6, h7, h8⟩ := h
  dsimp only at h1 h2 h3 h5 h6 h7 h8 ⊢
  obtain ⟨a1, c1, rfl⟩ := h1.form
  obtain ⟨a2, c2, rfl⟩ := h2.form
  obtain ⟨a3, c3, rfl⟩ := h3.form
  obtain ⟨a5, c5, rfl⟩ := h5.form
  obtain ⟨a6, c6, rfl⟩ := h6.form
  obtain ⟨a7, c7, rfl⟩ := h7.form
  obtain ⟨a8, c8, rfl⟩ := h8.form
  have HR := Lib.hid h7
  clear h1 h2 h3 h5 h6 h7 h8
  obtain ⟨l5, hl5⟩ : ∃ l, se.length = l := ⟨_, rfl⟩
  obtain ⟨l6, hl6⟩ : ∃ l, tt.length = l := ⟨_, rfl⟩
  obtain ⟨l7, hl7⟩ : ∃ l, ve.length = l := ⟨_, rfl⟩
  dsimp only at hlen
  rw [hl7] at hlen
  rw [hl5, hl6, hl7]
  rw [hl7] at HR
  have HL7 := Lib.hid hl7
  clear hl5 hl6 hl7
  obtain ⟨N1, hN1⟩ : ∃ n, IntKind.i64.wrap ((n1 : Int) + (n2 : Int)) = n := ⟨_, rfl⟩
  obtain ⟨N2, hN2⟩ : ∃ n, IntKind.i64.wrap (N1 + (n3 : Int)) = n := ⟨_, rfl⟩
  obtain ⟨N3, hN3⟩ : ∃ n, IntKind.i64.wrap (N2 + (l5 : Int)) = n := ⟨_, rfl⟩
  obtain ⟨N4, hN4⟩ : ∃ n, IntKind.i64.wrap (N3 + (l6 : Int)) = n := ⟨_, rfl⟩
  obtain ⟨N5, hN5⟩ : ∃ n, IntKind.i64.wrap (N4 + (l7 : Int)) = n := ⟨_, rfl⟩
  obtain ⟨N6, hN6⟩ : ∃ n, IntKind.i64.wrap (N5 + (n8 : Int)) = n := ⟨_, rfl⟩
  have ht0 : Touch [] w (w.alloc (.cells #[.slice a1 n1 c1, .slice a2 n2 c2, .slice a3 n3 c3, .int .i64 rg, .slice a5 l5 c5, .slice a6 l6 c6, .slice a7 l7 c7, .slice a8 n8 c8, .int .i64 cl] 29)) := (Touch.refl [] w).alloc _
  have hb0 : Blk (w.alloc (.cells #[.slice a1 n1 c1, .slice a2 n2 c2, .slice a3 n3 c3, .int .i64 rg, .slice a5 l5 c5, .slice a6 l6 c6, .slice a7 l7 c7, .slice a8 n8 c8, .int .i64 cl] 29)) w.heap.size #[.slice a1 n1 c1, .slice a2 n2 c2, .slice a3 n3 c3, .int .i64 rg, .slice a5 l5 c5, .slice a6 l6 c6, .slice a7 l7 c7, .slice a8 n8 c8, .int .i64 cl] 29 := Blk.new rfl
  have HT0 := Lib.hid ht0
  have HB0 := Lib.hid hb0
  clear ht0 hb0
  by_cases hgt : most < N6
  · have d : decide (most < N6) = true := dT hgt
    go_enter Tryz.func4, Tryz.ntmps4
    go_wp2
    go_ret
    exact ⟨_, rfl, HT0.out⟩
  · have d : decide (most < N6) = false := dF hgt
    go_enter Tryz.func4, Tryz.ntmps4
    go_wp2
    clear hgt d hN1 hN2 hN3 hN4 hN5 hN6
    go_loopw [5, 6] (fun nv kv wr => ∃ (N : Int) (k : Nat), k ≤ l7 ∧ nv = .int .i64 N ∧ kv = .int .i64 (k : Int) ∧ Touch [] (w.alloc (.cells #[.slice a1 n1 c1, .slice a2 n2 c2, .slice a3 n3 c3, .int .i64 rg, .slice a5 l5 c5, .slice a6 l6 c6, .slice a7 l7 c7, .slice a8 n8 c8, .int .i64 cl] 29)) wr) (fun _ kv _ => l7 + 1 - (intOf kv).toNat)
    case atStart => exact ⟨_, 0, by omega, rfl, rfl, Touch.refl _ _⟩
    case round =>
      obtain ⟨N, k, hk, rfl, rfl, ht⟩ := hrel
      have HT := Lib.hid ht
      have hbx : Blk wr w.heap.size #[.slice a1 n1 c1, .slice a2 n2 c2, .slice a3 n3 c3, .int .i64 rg, .slice a5 l5 c5, .slice a6 l6 c6, .slice a7 l7 c7, .slice a8 n8 c8, .int .i64 cl] 29 := HB0.out.touch ht (by simp)
      have e6 : wr.cell? ⟨w.heap.size, 6, none⟩ = some (.slice a7 l7 c7) := hbx.cell (i := 6) rfl
      clear ht hbx
      by_cases hlt : k < l7
      · have HLT := Lib.hid hlt
        obtain ⟨g, off, hga, ra, rc, hsl, hc⟩ := (HR.out.touch HT0.out).at (i := k) (by rw [HL7.out]; exact hlt)
        subst hga
        obtain ⟨m, hm⟩ : ∃ m, (rw_ ve k).length = m := ⟨_, rfl⟩
        rw [hm] at hc
        have x0 := hc wr HT.out
        clear hc hm hsl
        obtain ⟨M, hM⟩ : ∃ M, IntKind.i64.wrap (N + (m : Int)) = M := ⟨_, rfl⟩
        by_cases hgt : most < M
        · have d : decide (most < M) = true := dT hgt
          go_wp2
          go_ret
          exact ⟨_, rfl, HT0.out.trans HT.out⟩
        · have d : decide (most < M) = false := dF hgt
          go_wp2
          go_roundw
          case rel => exact ⟨_, k + 1, by omega, by first | rfl | rw [hM], by go_num, HT.out⟩
          case measure => simp [intOf]; omega
      · go_wp2
        go_ret
        exact ⟨_, rfl, HT0.out.trans HT.out⟩
end Go.Proofs.YtjfnoondkgjabaaGreatDoor

set_option linter.unusedVariables false
namespace Go.Proofs.YtjfnoondkgjabaaGreatDoor
open Go Go.RowKit

/-- The answer is whether p. -/
def BoolI (p : Prop) (w : World) (e : Ending) (w' : World) : Prop := ∃ b : Bool, e = .returned (.bool b) ∧ (b = true ↔ p) ∧ Touch [] w w'
def BoolQ (b : Bool) (w : World) (e : Ending) (w' : World) : Prop := e = .returned (.bool b) ∧ w = w'
set_option maxHeartbeats 1000000 in
theorem rin_any (x lo hi : Int) (w : World) : Calls Tryz.prog 49 #[.int .i64 x, .int .i64 lo, .int .i64 hi] w (BoolQ (decide (lo ≤ x ∧ x ≤ hi)) w) := by
  by_cases h1 : lo ≤ x
  · have dh1 : decide (lo ≤ x) = true := dT h1
    by_cases h2 : x ≤ hi
    · have dh2 : decide (x ≤ hi) = true := dT h2
      rw [show decide (lo ≤ x ∧ x ≤ hi) = true from dT ⟨h1, h2⟩]
      go_enter Tryz.func49, Tryz.ntmps49
      go_wp2
      go_ret
      exact ⟨rfl, rfl⟩
    · have dh2 : decide (x ≤ hi) = false := dF h2
      rw [show decide (lo ≤ x ∧ x ≤ hi) = false from dF (fun h => h2 (by omega))]
      go_enter Tryz.func49, Tryz.ntmps49
      go_wp2
      go_ret
      exact ⟨rfl, rfl⟩
  · have dh1 : decide (lo ≤ x) = false := dF h1
    rw [show decide (lo ≤ x ∧ x ≤ hi) = false from dF (fun h => h1 (by omega))]
    go_enter Tryz.func49, Tryz.ntmps49
    go_wp2
    go_ret
    exact ⟨rfl, rfl⟩
theorem all_iff {lo hi : Int} {xs : List Int} : (∀ x ∈ xs, betw lo hi x) ↔ ∀ k, k < xs.length → betw lo hi (xs.getD k 0) := by
  constructor
  · intro h k hk
    rw [List.getD_eq_getElem?_getD, List.getElem?_eq_getElem hk]
    exact h _ (List.getElem_mem hk)
  · intro h x hx
    obtain ⟨k, hk, rfl⟩ := List.getElem_of_mem hx
    have := h k hk
    rw [List.getD_eq_getElem?_getD, List.getElem?_eq_getElem hk] at this
    exact this
end Go.Proofs.YtjfnoondkgjabaaGreatDoor

set_option linter.unusedVariables false
namespace Go.Proofs.YtjfnoondkgjabaaGreatDoor
open Go Go.RowKit

/-- A program as a value, with its slices' parts. -/
structure PgO (w : World) (P : Pg) (a1 a2 a3 a5 a6 a7 a8 : Option Addr) (c1 c2 c3 c5 c6 c7 c8 : Nat) : Prop where
  h1 : Slr w (.slice a1 P.n1 c1) P.n1 3 P.z1
  h2 : Slr w (.slice a2 P.n2 c2) P.n2 3 P.z2
  h3 : Slr w (.slice a3 P.n3 c3) P.n3 2 P.z3
  h5 : Sl w (.slice a5 P.se.length c5) P.se
  h6 : Sl w (.slice a6 P.tt.length c6) P.tt
  h7 : Rws w (.slice a7 P.ve.length c7) P.ve
  h8 : Slr w (.slice a8 P.n8 c8) P.n8 2 P.z8
theorem PgV.open {w : World} {pv : Value} {P : Pg} (h : PgV w pv P) : ∃ a1 a2 a3 a5 a6 a7 a8 c1 c2 c3 c5 c6 c7 c8, pv = .agg #[.slice a1 P.n1 c1, .slice a2 P.n2 c2, .slice a3 P.n3 c3, .int .i64 P.rg, .slice a5 P.se.length c5, .slice a6 P.tt.length c6, .slice a7 P.ve.length c7, .slice a8 P.n8 c8, .int .i64 P.cl] ∧ PgO w P a1 a2 a3 a5 a6 a7 a8 c1 c2 c3 c5 c6 c7 c8 := by
  obtain ⟨v1, v2, v3, v5, v6, v7, v8, rfl, h1, h2, h3, h5, h6, h7, h8⟩ := h
  obtain ⟨a1, c1, rfl⟩ := h1.form
  obtain ⟨a2, c2, rfl⟩ := h2.form
  obtain ⟨a3, c3, rfl⟩ := h3.form
  obtain ⟨a5, c5, rfl, g5⟩ := h5
  obtain ⟨a6, c6, rfl, g6⟩ := h6
  obtain ⟨a7, c7, rfl⟩ := h7.form
  obtain ⟨a8, c8, rfl⟩ := h8.form
  exact ⟨a1, a2, a3, a5, a6, a7, a8, c1, c2, c3, c5, c6, c7, c8, rfl, h1, h2, h3, ⟨_, _, rfl, g5⟩, ⟨_, _, rfl, g6⟩, h7, h8⟩
theorem PgO.touch {w w' : World} {P : Pg} {a1 a2 a3 a5 a6 a7 a8 : Option Addr} {c1 c2 c3 c5 c6 c7 c8 : Nat} (h : PgO w P a1 a2 a3 a5 a6 a7 a8 c1 c2 c3 c5 c6 c7 c8) (ht : Touch [] w w') : PgO w' P a1 a2 a3 a5 a6 a7 a8 c1 c2 c3 c5 c6 c7 c8 :=
  ⟨h.h1.touch ht, h.h2.touch ht, h.h3.touch ht, h.h5.touch ht (by simp), h.h6.touch ht (by simp), h.h7.touch ht, h.h8.touch ht⟩
theorem PgO.val {w : World} {P : Pg} {a1 a2 a3 a5 a6 a7 a8 : Option Addr} {c1 c2 c3 c5 c6 c7 c8 : Nat} (h : PgO w P a1 a2 a3 a5 a6 a7 a8 c1 c2 c3 c5 c6 c7 c8) : PgV w (.agg #[.slice a1 P.n1 c1, .slice a2 P.n2 c2, .slice a3 P.n3 c3, .int .i64 P.rg, .slice a5 P.se.length c5, .slice a6 P.tt.length c6, .slice a7 P.ve.length c7, .slice a8 P.n8 c8, .int .i64 P.cl]) P :=
  ⟨_, _, _, _, _, _, _, rfl, h.h1, h.h2, h.h3, h.h5, h.h6, h.h7, h.h8⟩
end Go.Proofs.YtjfnoondkgjabaaGreatDoor

set_option linter.unusedVariables false
namespace Go.Proofs.YtjfnoondkgjabaaGreatDoor
open Go Go.RowKit

theorem rws_iff {p : List Int → Prop} {ve : List (List Int)} : (∀ v ∈ ve, p v) ↔ ∀ i, i < ve.length → p (rw_ ve i) := by
  constructor
  · intro h i hi
    unfold rw_
    rw [List.getD_eq_getElem?_getD, List.getElem?_eq_getElem hi]
    exact h _ (List.getElem_mem hi)
  · intro h v hv
    obtain ⟨i, hi, rfl⟩ := List.getElem_of_mem hv
    have := h i hi
    unfold rw_ at this
    rw [List.getD_eq_getElem?_getD, List.getElem?_eq_getElem hi] at this
    exact this
end Go.Proofs.YtjfnoondkgjabaaGreatDoor

set_option linter.unusedVariables false
namespace Go.Proofs.YtjfnoondkgjabaaGreatDoor
open Go Go.RowKit

/-- Whether one may go on behind instruction (op, a, b) at place i of those from fr up to ahead of to. -/
structure GoZ (op a b : Int) (i fr tz : Nat) : Prop where
  jump : op = 24 ∨ op = 25 → (fr : Int) ≤ a ∧ a < (tz : Int)
  await : op = 33 → (fr : Int) ≤ b ∧ b < (tz : Int)
  on : op ≠ 24 → op ≠ 27 → i + 1 < tz
end Go.Proofs.YtjfnoondkgjabaaGreatDoor

set_option linter.unusedVariables false
namespace Go.Proofs.YtjfnoondkgjabaaGreatDoor
open Go Go.RowKit

structure FitZ (P : Pg) (k : Nat) (op a b : Int) : Prop where
  is_ : isZ op = true
  b0 : opZ op < 2 → b = 0
  a0 : opZ op < 1 → a = 0
  lim : 0 ≤ limN P k op → 0 ≤ a ∧ a < limN P k op
  call : op = 26 → a ≠ 0
theorem fit_iff {P : Pg} {k i : Nat} : FitOk P k i ↔ FitZ P k (P.op i) (P.a i) (P.b i) := ⟨fun h => ⟨h.is_, h.b0, h.a0, h.lim, h.call⟩, fun h => ⟨h.is_, h.b0, h.a0, h.lim, h.call⟩⟩
theorem go_iff {P : Pg} {k i : Nat} : GoOk P k i ↔ GoZ (P.op i) (P.a i) (P.b i) i (fromP P k) (toP P k) := ⟨fun h => ⟨h.jump, h.await, h.on⟩, fun h => ⟨h.jump, h.await, h.on⟩⟩
def spec : List Int := [3, 4, 5, 6, 7, 8, 26, 28, 30, 31, 32, 33, 34, 35, 36]
theorem lim_none {P : Pg} {k : Nat} {op : Int} (h : op ∉ spec) : limN P k op = -1 := by
  simp only [spec, List.mem_cons, List.not_mem_nil, or_false, not_or] at h
  obtain ⟨h3, h4, h5, h6, h7, h8, h26, h28, h30, h31, h32, h33, h34, h35, h36⟩ := h
  unfold limN
  simp only [h3, h4, h5, h6, h7, h8, h26, h28, h30, h31, h32, h33, h34, h35, h36, or_self, if_false]
theorem opZ_012 (op : Int) : opZ op = 0 ∨ opZ op = 1 ∨ opZ op = 2 := by
  have := opT_02 op.toNat
  unfold opZ
  omega
end Go.Proofs.YtjfnoondkgjabaaGreatDoor

set_option linter.unusedVariables false
namespace Go.Proofs.YtjfnoondkgjabaaGreatDoor
open Go Go.RowKit

def IntQ (x : Int) (w : World) (e : Ending) (w' : World) : Prop := e = .returned (.int .i64 x) ∧ Touch [] w w'
theorem lim_26 (P : Pg) (k : Nat) : limN P k 26 = (P.n2 : Int) := by simp [limN]
theorem lim_28 (P : Pg) (k : Nat) : limN P k 28 = (P.n8 : Int) := by simp [limN]
end Go.Proofs.YtjfnoondkgjabaaGreatDoor

set_option linter.unusedVariables false
namespace Go.Proofs.YtjfnoondkgjabaaGreatDoor
open Go

structure Wk (F : Flow) (D : List Int) (todo : List Nat) : Prop where
  snd : Sound F D
  zero : lab D 0 = 0
  lab : ∀ k ∈ todo, 0 ≤ lab D k
  clo : ∀ k, 0 ≤ Go.Proofs.YtjfnoondkgjabaaGreatDoor.lab D k → k ∉ todo → Clo F D k
/-- While one goes on from place i: pre were looked at. -/
structure Wp (F : Flow) (D : List Int) (todo : List Nat) (i : Nat) (pre : List Nat) : Prop where
  snd : Sound F D
  zero : lab D 0 = 0
  lab : ∀ k ∈ todo, 0 ≤ lab D k
  at_ : 0 ≤ Go.Proofs.YtjfnoondkgjabaaGreatDoor.lab D i
  ok : F.ok i (Go.Proofs.YtjfnoondkgjabaaGreatDoor.lab D i)
  pre : ∀ j ∈ pre, Go.Proofs.YtjfnoondkgjabaaGreatDoor.lab D j = F.out i (Go.Proofs.YtjfnoondkgjabaaGreatDoor.lab D i)
  clo : ∀ k, 0 ≤ Go.Proofs.YtjfnoondkgjabaaGreatDoor.lab D k → k ∉ todo → k ≠ i → Clo F D k
theorem lab_none (n k : Nat) : lab (List.replicate n (-1)) k = -1 := by
  unfold lab
  rw [List.getD_eq_getElem?_getD, List.getElem?_replicate]
  split <;> rfl
theorem Wk.start {F : Flow} (hm : F.May) : Wk F ((List.replicate F.n (-1)).set 0 0) [0] := by
  have hl : 0 < (List.replicate F.n (-1 : Int)).length := by rw [List.length_replicate]; exact hm.pos
  refine ⟨(sound_none F).set hm.pos Rch.zero (Int.le_refl _), by rw [lab_set _ _ hl, if_pos rfl], fun k hk => ?_, fun k hk hn => ?_⟩
  · rw [List.mem_singleton] at hk
    subst hk
    rw [lab_set _ _ hl, if_pos rfl]
    exact Int.le_refl _
  · rw [lab_set _ _ hl] at hk
    split at hk
    · rename_i e; subst e; exact absurd (List.mem_singleton_self 0) hn
    · rw [lab_none] at hk; omega
theorem Wk.rch {F : Flow} {D : List Int} {t : List Nat} {i : Nat} (h : Wk F D (t ++ [i])) : Rch F i (Go.Proofs.YtjfnoondkgjabaaGreatDoor.lab D i) ∧ 0 ≤ Go.Proofs.YtjfnoondkgjabaaGreatDoor.lab D i ∧ i < D.length := by
  have h0 := h.lab i (by simp)
  exact ⟨h.snd.rch i h0, h0, lab_lt h0⟩
theorem Wk.pop {F : Flow} {D : List Int} {t : List Nat} {i : Nat} (h : Wk F D (t ++ [i])) (ho : F.ok i (Go.Proofs.YtjfnoondkgjabaaGreatDoor.lab D i)) : Wp F D t i [] :=
  ⟨h.snd, h.zero, fun k hk => h.lab k (by simp [hk]), h.lab i (by simp), ho, (fun j hj => by cases hj), fun k hk hn hi => h.clo k hk (by simp [hn, hi])⟩
theorem Wp.rch {F : Flow} {D : List Int} {t pre : List Nat} {i j : Nat} (h : Wp F D t i pre) (hj : j ∈ F.nx i) : Rch F j (F.out i (Go.Proofs.YtjfnoondkgjabaaGreatDoor.lab D i)) :=
  Rch.step (h.snd.rch i h.at_) h.ok hj
theorem Wp.same {F : Flow} {D : List Int} {t pre : List Nat} {i j : Nat} (h : Wp F D t i pre) (hj : Go.Proofs.YtjfnoondkgjabaaGreatDoor.lab D j = F.out i (Go.Proofs.YtjfnoondkgjabaaGreatDoor.lab D i)) : Wp F D t i (pre ++ [j]) :=
  ⟨h.snd, h.zero, h.lab, h.at_, h.ok, fun k hk => by
    rcases List.mem_append.1 hk with e | e
    · exact h.pre k e
    · rw [List.mem_singleton] at e; subst e; exact hj, h.clo⟩
theorem Wp.new {F : Flow} (hm : F.May) {D : List Int} {t pre : List Nat} {i j : Nat} (h : Wp F D t i pre) (hi : i < F.n) (hj : j ∈ F.nx i) (hn : Go.Proofs.YtjfnoondkgjabaaGreatDoor.lab D j < 0) :
    Wp F (D.set j (F.out i (Go.Proofs.YtjfnoondkgjabaaGreatDoor.lab D i))) (t ++ [j]) i (pre ++ [j]) ∧ Go.Proofs.YtjfnoondkgjabaaGreatDoor.lab (D.set j (F.out i (Go.Proofs.YtjfnoondkgjabaaGreatDoor.lab D i))) i = Go.Proofs.YtjfnoondkgjabaaGreatDoor.lab D i ∧ bare (D.set j (F.out i (Go.Proofs.YtjfnoondkgjabaaGreatDoor.lab D i))) + 1 = bare D := by
  have hjn := hm.nx i hi j hj
  have hl : j < D.length := by rw [h.snd.len]; exact hjn
  have h0 : 0 ≤ F.out i (Go.Proofs.YtjfnoondkgjabaaGreatDoor.lab D i) := by have := h.ok.1; have := hm.ps i hi; unfold Flow.out; omega
  have he : Ext D (D.set j (F.out i (Go.Proofs.YtjfnoondkgjabaaGreatDoor.lab D i))) := Ext.set (F := F) hl hn
  have hei := he i h.at_
  refine ⟨⟨h.snd.set hjn (h.rch hj) h0, by rw [he 0 (by rw [h.zero]; exact Int.le_refl _), h.zero], fun k hk => ?_, by rw [hei]; exact h.at_, by rw [hei]; exact h.ok, fun k hk => ?_, fun k hk hkt hki => ?_⟩, hei, bare_set D j _ hl hn h0⟩
  · rcases List.mem_append.1 hk with e | e
    · rw [he k (h.lab k e)]; exact h.lab k e
    · rw [List.mem_singleton] at e; subst e; rw [lab_set D _ hl, if_pos rfl]; exact h0
  · rw [hei]
    rcases List.mem_append.1 hk with e | e
    · have e2 := h.pre k e
      rw [he k (by rw [e2]; exact h0), e2]
    · rw [List.mem_singleton] at e; subst e; rw [lab_set D _ hl, if_pos rfl]
  · rw [lab_set D _ hl] at hk
    have hkj : k ≠ j := fun e => hkt (by simp [e])
    rw [if_neg hkj] at hk
    exact (h.clo k hk (fun e => hkt (by simp [e])) hki).ext hm (by rw [← h.snd.len]; exact lab_lt hk) hk he
theorem Wp.done {F : Flow} {D : List Int} {t : List Nat} {i : Nat} (h : Wp F D t i (F.nx i)) : Wk F D t :=
  ⟨h.snd, h.zero, h.lab, fun k hk hn => by
    by_cases e : k = i
    · subst e; exact ⟨h.ok, h.pre⟩
    · exact h.clo k hk hn e⟩
theorem Wk.full {F : Flow} {D : List Int} (h : Wk F D []) : Full F D := ⟨h.snd, h.zero, fun k hk => h.clo k hk (by simp)⟩
/-- No label is above how many there are. -/
def Low (D : List Int) : Prop := ∀ k, lab D k + (bare D : Int) ≤ (D.length : Int)
theorem Low.none (n : Nat) : Low (List.replicate n (-1)) := fun k => by
  have := bare_le (List.replicate n (-1 : Int))
  rw [lab_none]
  omega
theorem Low.set {D : List Int} (h : Low D) {k : Nat} {x : Int} (hk : k < D.length) (hn : lab D k < 0) (hx : 0 ≤ x) (hb : x + (bare D : Int) ≤ (D.length : Int) + 1) : Low (D.set k x) := fun j => by
  have e := bare_set D k x hk hn hx
  have := h j
  rw [lab_set D x hk, List.length_set]
  split <;> omega
theorem bare_none (n : Nat) : bare (List.replicate n (-1 : Int)) = n := by
  unfold bare
  rw [List.countP_replicate]
  simp
end Go.Proofs.YtjfnoondkgjabaaGreatDoor

set_option linter.unusedVariables false
namespace Go.Proofs.YtjfnoondkgjabaaGreatDoor
open Go Go.RowKit

/-- The blocks of the walk's variables. -/
structure DpB where
  l : Nat
  f : Nat
  p : Nat
  k : Nat
  g : Nat
theorem tk_04 {P : Pg} (ht : TabOk P) {k i : Nat} (hf : FitOk P k i) : 0 ≤ tkP P i ∧ tkP P i ≤ 4 := by
  have hen : ∀ j, j < P.n2 → EntOk P j := ht 1 (by omega)
  have hfk : ∀ j, j < P.n8 → ForkOk P j := ht 7 (by omega)
  unfold tkP
  split
  · rename_i e
    have := hf.lim (by rw [e, lim_26]; omega)
    rw [e, lim_26] at this
    have he := hen (P.a i).toNat (by omega)
    exact ⟨he.p0, he.p1⟩
  · split
    · rename_i e
      have := hf.lim (by rw [e, lim_28]; omega)
      rw [e, lim_28] at this
      have h8 := hfk (P.a i).toNat (by omega)
      have := h8.p0
      have := h8.p1
      have he := hen (P.z8 (P.a i).toNat 0).toNat (by omega)
      exact ⟨he.p0, he.p1⟩
    · have := popZ_02 (P.op i)
      omega
end Go.Proofs.YtjfnoondkgjabaaGreatDoor

set_option linter.unusedVariables false
namespace Go.Proofs.YtjfnoondkgjabaaGreatDoor
open Go Go.RowKit

def fillD (n j : Nat) : List Int := List.replicate j (-1) ++ List.replicate (n - j) 0
theorem fill_zero (n : Nat) : ((fillD n 0).map (Value.int .i64)).toArray = rowA (fun _ => 0) n := by
  unfold fillD rowA
  rw [List.replicate_zero, List.nil_append, Nat.sub_zero, List.map_replicate]
  congr 1
  rw [List.map_const', List.length_range]
theorem fill_set {n j : Nat} (h : j < n) : (fillD n j).set j (-1) = fillD n (j + 1) := by
  unfold fillD
  rw [List.set_append_right _ _ (by simp)]
  obtain ⟨m, hm⟩ : ∃ m, n - j = m + 1 := ⟨n - j - 1, by omega⟩
  rw [hm, show n - (j + 1) = m from by omega, List.replicate_succ, List.length_replicate, Nat.sub_self, List.set_cons_zero, List.replicate_succ', List.append_assoc]
  rfl
theorem fill_all (n : Nat) : fillD n n = List.replicate n (-1) := by unfold fillD; simp
/-- A procedure's depths, or none. -/
def DepP (P : Pg) (k : Nat) (w : World) (e : Ending) (w' : World) : Prop := Touch [] w w' ∧ ((∃ v D, e = .returned (.tuple #[v, .bool true]) ∧ Full (flow P k) D ∧ Sl w' v D) ∨ (e = .returned (.tuple #[.slice none 0 0, .bool false]) ∧ ¬ (flow P k).Good))
end Go.Proofs.YtjfnoondkgjabaaGreatDoor

set_option linter.unusedVariables false
set_option maxRecDepth 100000
namespace Go.Proofs.YtjfnoondkgjabaaGreatDoor
open Go.RowKit Go.BigFrame

/-- The program in memory. -/
structure Me (w0 : World) (P : Pg) (p : PV) : Prop where
  n1 : p.n1 = P.n1
  n2 : p.n2 = P.n2
  n3 : p.n3 = P.n3
  h1 : Slr w0 (.slice p.a1 p.n1 p.c1) p.n1 3 P.z1
  h2 : Slr w0 (.slice p.a2 p.n2 p.c2) p.n2 3 P.z2
  h3 : Slr w0 (.slice p.a3 p.n3 p.c3) p.n3 2 P.z3
/-- The program's task. -/
structure Pc (w0 w : World) (b k G sb g N n sz : Nat) (at' : Int) (v : Nat → Int) (S : List Frm) : Prop where
  t : Touch [] w0 w
  vs : Vs w
  tk : Tk w b k G at'
  ps : Ps w k sb g N n sz v S
  d : b ≠ k ∧ b ≠ g ∧ b ≠ sb ∧ G ≠ k ∧ G ≠ g
/-- The reference's task. -/
structure Rc (w0 w : World) (u t rs rg : Nat) (B : List Nat) (base n N sz : Nat) (at' : Int) (v : Nat → Int) (S : List Frm) : Prop where
  tt : Touch [] w0 w
  bs : w0.heap.size ≤ base ∧ w0.heap.size ≤ u ∧ w0.heap.size ≤ rg
  rp : Rp w u t rs rg B base n N sz at' v S
def Both (w0 : World) (p : PV) (b k G sb g N n sz u t rs rg : Nat) (B : List Nat) (base : Nat) (i : Int) (v : Nat → Int) (S : List Frm) : Prop :=
  (∃ (c nx : Int) (v' : Nat → Int) (S' : List Frm), (∀ w, Pc w0 w b k G sb g N n sz i v S → Calls Tryz.prog 15 #[.pointer (some ⟨b, 0, none⟩), .agg p.c, .pointer (some ⟨sb, 0, none⟩)] w (DoP b k G sb g N n sz i c nx v' S' w)) ∧
    (∀ w, Rc w0 w u t rs rg B base n N sz i v S → Calls Tryz.prog 35 #[.pointer (some ⟨u, 0, none⟩), .agg p.c, .pointer (some ⟨rs, 0, none⟩)] w (RdP u t rs rg B base n N sz i c nx v' S' w)) ∧ ∃ F' r', S' = F' :: r') ∨
  ((∀ w, Pc w0 w b k G sb g N n sz i v S → Calls Tryz.prog 15 #[.pointer (some ⟨b, 0, none⟩), .agg p.c, .pointer (some ⟨sb, 0, none⟩)] w (KeptP w)) ∧
    (∀ w, Rc w0 w u t rs rg B base n N sz i v S → Calls Tryz.prog 35 #[.pointer (some ⟨u, 0, none⟩), .agg p.c, .pointer (some ⟨rs, 0, none⟩)] w (RkP u t rs rg B base n N sz i v S w)))
theorem pushM_shape (sz : Nat) (x : Int) (F : Frm) (r : List Frm) : ∃ F' r', (pushM sz x (F :: r)).2 = F' :: r' := by
  simp only [pushM]; split <;> exact ⟨_, _, rfl⟩
theorem callM_shape (sz : Nat) (x pa lc : Int) (F : Frm) (r : List Frm) : ∃ F' r', (callM sz x pa lc (F :: r)).2 = F' :: r' := by
  simp only [callM]
  split
  · exact ⟨_, _, rfl⟩
  · split
    · exact ⟨_, _, rfl⟩
    · split <;> exact ⟨_, _, rfl⟩
/-- The frame whose last operand is taken away. -/
def offF (F : Frm) : Frm := {F with ops := F.ops.take (F.ops.length - 1)}
def lastF (F : Frm) : Int := F.ops.getD (F.ops.length - 1) 0
theorem popM_yes {F : Frm} {r : List Frm} (h : 1 ≤ F.ops.length) : popM (F :: r) = (lastF F, 0, offF F :: r) := by
  simp only [popM]
  rw [if_neg (by omega)]
  rfl
theorem offF_len (F : Frm) : (offF F).ops.length = F.ops.length - 1 := by
  show (F.ops.take (F.ops.length - 1)).length = _
  rw [List.length_take]; omega
theorem offF_in {F : Frm} (h : ∀ x ∈ F.ops, InI x) : ∀ x ∈ (offF F).ops, InI x := fun x hx => h x (List.mem_of_mem_take hx)
theorem lastF_in {F : Frm} (h : ∀ x ∈ F.ops, InI x) (h1 : 1 ≤ F.ops.length) : InI (lastF F) := by
  have hl : F.ops.length - 1 < F.ops.length := by omega
  unfold lastF
  rw [List.getD_eq_getElem?_getD, List.getElem?_eq_getElem hl]
  exact h _ (List.getElem_mem hl)
section
variable {w0 w : World} {P : Pg} {p : PV} {b k G sb g N n sz u t rs rg : Nat} {B : List Nat} {base i o kk : Nat} {a bb : Int} {v : Nat → Int} {F : Frm} {r : List Frm} {g1 o1 : Nat}
theorem Pc.rw_ {at' op nx : Int} {S : List Frm} {W : Nat} {w' : World} (h : Pc w0 w b k G sb g N n sz at' v S) (hW : w.heap.size ≤ W) (ht : Touch [] w w') (hb : Blk w' W (wkA op a bb p sb nx) 99) : Rw w' b k G W sb g N n sz at' op a bb nx p v S ∧ b ≠ W ∧ G ≠ W := by
  have hl := h.ps.lt
  have h1 := h.tk.obj.lt
  have h2 := h.tk.rows.lt
  have hd := h.d
  exact ⟨⟨h.tk.touch ht (by simp) (by simp), hb, h.ps.still ht, by omega⟩, by omega, by omega⟩
/-- What is known of the instruction at place i. -/
structure At (w0 : World) (p : PV) (i o : Nat) (a bb : Int) (g1 o1 : Nat) : Prop where
  hi : i < p.n1
  hn1 : p.n1 ≤ 1000000
  ha1 : p.a1 = some ⟨g1, o1, none⟩
  hc : ∀ w', Touch [] w0 w' → w'.cell? ⟨g1, o1 + i * 3, none⟩ = some (.int .i64 (o : Int)) ∧ w'.cell? ⟨g1, o1 + i * 3 + 1, none⟩ = some (.int .i64 a) ∧ w'.cell? ⟨g1, o1 + i * 3 + 2, none⟩ = some (.int .i64 bb)
set_option maxHeartbeats 4000000 in
theorem s_nop  (hA : At w0 p i 1 a bb g1 o1) : Both w0 p b k G sb g N n sz u t rs rg B base i v (F :: r) := by
  refine .inl ⟨0, ((i : Int) + 1), v, (F :: r), fun w hP => ?_, fun w hR => ?_, _, _, rfl⟩
  · refine do_row (o := 1) hA.hi hA.hn1 hA.ha1 (fun w' t => hA.hc w' (hP.t.trans t)) (by omega) (fn := 67) rfl (by omega) hP.tk hP.ps hP.d.1 hP.d.2.1 hP.d.2.2.1 hP.d.2.2.2.1 hP.d.2.2.2.2 ?_
    intro W w' hW ht hb
    obtain ⟨hR, hbW, hGW⟩ := hP.rw_ hW ht hb
    exact row_nop hb hR.ps
  · exact d_words (o := 1) (by omega) hA.hi hA.hn1 hA.ha1 hA.hc hR.tt hR.bs (fun E w' t0 h => w_nop rfl hA.hi hA.hn1 hA.ha1 hA.hc t0 hR.bs h) hR.rp
set_option maxHeartbeats 4000000 in
theorem s_push  (hA : At w0 p i 2 a bb g1 o1) : Both w0 p b k G sb g N n sz u t rs rg B base i v (F :: r) := by
  refine .inl ⟨(pushM sz a (F :: r)).1, ((i : Int) + 1), v, (pushM sz a (F :: r)).2, fun w hP => ?_, fun w hR => ?_, pushM_shape _ _ _ _⟩
  · refine do_row (o := 2) hA.hi hA.hn1 hA.ha1 (fun w' t => hA.hc w' (hP.t.trans t)) (by omega) (fn := 68) rfl (by omega) hP.tk hP.ps hP.d.1 hP.d.2.1 hP.d.2.2.1 hP.d.2.2.2.1 hP.d.2.2.2.2 ?_
    intro W w' hW ht hb
    obtain ⟨hR, hbW, hGW⟩ := hP.rw_ hW ht hb
    exact row_push rfl rfl hR.tk hb hR.ps hR.d.2.2.1 hR.d.2.2.2.1
  · exact d_words (o := 2) (by omega) hA.hi hA.hn1 hA.ha1 hA.hc hR.tt hR.bs (fun E w' t0 h => w_push rfl hA.hi hA.hn1 hA.ha1 hA.hc t0 hR.bs rfl rfl h) hR.rp
set_option maxHeartbeats 4000000 in
theorem s_load {g3 o3 j : Nat} (ha : a = (j : Int)) (hj : j < p.n3) (hn : p.n3 ≤ 1000000) (ha3 : p.a3 = some ⟨g3, o3, none⟩) (q z : Nat) (hv : ∀ w', Touch [] w0 w' → w'.cell? ⟨g3, o3 + j * 2, none⟩ = some (.int .i64 (q : Int)) ∧ w'.cell? ⟨g3, o3 + j * 2 + 1, none⟩ = some (.int .i64 (z : Int))) (hq : q < n) (hA : At w0 p i 3 a bb g1 o1) : Both w0 p b k G sb g N n sz u t rs rg B base i v (F :: r) := by
  refine .inl ⟨(pushM sz (v q) (F :: r)).1, ((i : Int) + 1), v, (pushM sz (v q) (F :: r)).2, fun w hP => ?_, fun w hR => ?_, pushM_shape _ _ _ _⟩
  · refine do_row (o := 3) hA.hi hA.hn1 hA.ha1 (fun w' t => hA.hc w' (hP.t.trans t)) (by omega) (fn := 69) rfl (by omega) hP.tk hP.ps hP.d.1 hP.d.2.1 hP.d.2.2.1 hP.d.2.2.2.1 hP.d.2.2.2.2 ?_
    intro W w' hW ht hb
    obtain ⟨hR, hbW, hGW⟩ := hP.rw_ hW ht hb
    exact (row_load q z ha hj hn ha3 (fun w' t => hv w' ((hP.t.trans ht).trans t)) hq rfl rfl rfl hR).mono fun e w2 h => h.row
  · exact d_words (o := 3) (by omega) hA.hi hA.hn1 hA.ha1 hA.hc hR.tt hR.bs (fun E w' t0 h => w_load rfl hA.hi hA.hn1 hA.ha1 hA.hc t0 hR.bs ha hj hn ha3 q z hv hq rfl rfl rfl h) hR.rp
set_option maxHeartbeats 4000000 in
theorem s_store {g3 o3 j : Nat} (ha : a = (j : Int)) (hj : j < p.n3) (hn : p.n3 ≤ 1000000) (ha3 : p.a3 = some ⟨g3, o3, none⟩) (q z : Nat) (hv : ∀ w', Touch [] w0 w' → w'.cell? ⟨g3, o3 + j * 2, none⟩ = some (.int .i64 (q : Int)) ∧ w'.cell? ⟨g3, o3 + j * 2 + 1, none⟩ = some (.int .i64 (z : Int))) (hq : q < n) (hl : 1 ≤ F.ops.length) (hA : At w0 p i 4 a bb g1 o1) : Both w0 p b k G sb g N n sz u t rs rg B base i v (F :: r) := by
  refine .inl ⟨0, ((i : Int) + 1), (upd v q (lastF F)), (offF F :: r), fun w hP => ?_, fun w hR => ?_, _, _, rfl⟩
  · refine do_row (o := 4) hA.hi hA.hn1 hA.ha1 (fun w' t => hA.hc w' (hP.t.trans t)) (by omega) (fn := 70) rfl (by omega) hP.tk hP.ps hP.d.1 hP.d.2.1 hP.d.2.2.1 hP.d.2.2.2.1 hP.d.2.2.2.2 ?_
    intro W w' hW ht hb
    obtain ⟨hR, hbW, hGW⟩ := hP.rw_ hW ht hb
    exact (row_store q z ha hj hn ha3 (fun w' t => hv w' ((hP.t.trans ht).trans t)) hq (popM_yes hl) hR).mono fun e w2 h => h.row
  · exact d_words (o := 4) (by omega) hA.hi hA.hn1 hA.ha1 hA.hc hR.tt hR.bs (fun E w' t0 h => w_store rfl hA.hi hA.hn1 hA.ha1 hA.hc t0 hR.bs ha hj hn ha3 q z hv hq (popM_yes hl) h) hR.rp
set_option maxHeartbeats 4000000 in
theorem s_loadat {g3 o3 j : Nat} (ha : a = (j : Int)) (hj : j < p.n3) (hn : p.n3 ≤ 1000000) (ha3 : p.a3 = some ⟨g3, o3, none⟩) (q z : Nat) (hv : ∀ w', Touch [] w0 w' → w'.cell? ⟨g3, o3 + j * 2, none⟩ = some (.int .i64 (q : Int)) ∧ w'.cell? ⟨g3, o3 + j * 2 + 1, none⟩ = some (.int .i64 (z : Int))) (hqz : q + z ≤ n) (hnn : n ≤ 8192) (hl : 1 ≤ F.ops.length) (hA : At w0 p i 5 a bb g1 o1) : Both w0 p b k G sb g N n sz u t rs rg B base i v (F :: r) := by
  refine .inl ⟨(if 0 ≤ lastF F ∧ lastF F < z then (pushM sz (v (q + (lastF F).toNat)) (offF F :: r)).1 else 33), ((i : Int) + 1), v, (if 0 ≤ lastF F ∧ lastF F < z then (pushM sz (v (q + (lastF F).toNat)) (offF F :: r)).2 else offF F :: r), fun w hP => ?_, fun w hR => ?_, by split; exact pushM_shape _ _ _ _; exact ⟨_, _, rfl⟩⟩
  · refine do_row (o := 5) hA.hi hA.hn1 hA.ha1 (fun w' t => hA.hc w' (hP.t.trans t)) (by omega) (fn := 71) rfl (by omega) hP.tk hP.ps hP.d.1 hP.d.2.1 hP.d.2.2.1 hP.d.2.2.2.1 hP.d.2.2.2.2 ?_
    intro W w' hW ht hb
    obtain ⟨hR, hbW, hGW⟩ := hP.rw_ hW ht hb
    exact (row_loadat rfl q z ha hj hn ha3 (fun w' t => hv w' ((hP.t.trans ht).trans t)) hqz hnn (popM_yes hl) (fun h1 h2 => ⟨rfl, by rw [if_pos ⟨h1, h2⟩], by rw [if_pos ⟨h1, h2⟩]⟩) (fun h => ⟨by rw [if_neg h], by rw [if_neg h]⟩) hR).mono fun e w2 h => h.row
  · exact d_words (o := 5) (by omega) hA.hi hA.hn1 hA.ha1 hA.hc hR.tt hR.bs (fun E w' t0 h => w_loadat rfl hA.hi hA.hn1 hA.ha1 hA.hc t0 hR.bs ha hj hn ha3 q z hv hqz hnn (popM_yes hl) (fun h1 h2 => ⟨rfl, by rw [if_pos ⟨h1, h2⟩], by rw [if_pos ⟨h1, h2⟩]⟩) (fun h => ⟨by rw [if_neg h], by rw [if_neg h]⟩) h) hR.rp
set_option maxHeartbeats 4000000 in
theorem s_storeat {g3 o3 j : Nat} (ha : a = (j : Int)) (hj : j < p.n3) (hn : p.n3 ≤ 1000000) (ha3 : p.a3 = some ⟨g3, o3, none⟩) (q z : Nat) (hv : ∀ w', Touch [] w0 w' → w'.cell? ⟨g3, o3 + j * 2, none⟩ = some (.int .i64 (q : Int)) ∧ w'.cell? ⟨g3, o3 + j * 2 + 1, none⟩ = some (.int .i64 (z : Int))) (hqz : q + z ≤ n) (hnn : n ≤ 8192) (hl : 2 ≤ F.ops.length) (hA : At w0 p i 6 a bb g1 o1) : Both w0 p b k G sb g N n sz u t rs rg B base i v (F :: r) := by
  refine .inl ⟨(if 0 ≤ lastF (offF F) ∧ lastF (offF F) < z then 0 else 33), ((i : Int) + 1), (if 0 ≤ lastF (offF F) ∧ lastF (offF F) < z then upd v (q + (lastF (offF F)).toNat) (lastF F) else v), (offF (offF F) :: r), fun w hP => ?_, fun w hR => ?_, _, _, rfl⟩
  · refine do_row (o := 6) hA.hi hA.hn1 hA.ha1 (fun w' t => hA.hc w' (hP.t.trans t)) (by omega) (fn := 71) rfl (by omega) hP.tk hP.ps hP.d.1 hP.d.2.1 hP.d.2.2.1 hP.d.2.2.2.1 hP.d.2.2.2.2 ?_
    intro W w' hW ht hb
    obtain ⟨hR, hbW, hGW⟩ := hP.rw_ hW ht hb
    exact (row_storeat rfl q z ha hj hn ha3 (fun w' t => hv w' ((hP.t.trans ht).trans t)) hqz hnn (popM_yes (by omega)) (popM_yes (by rw [offF_len]; omega)) (fun h1 h2 => ⟨by rw [if_pos ⟨h1, h2⟩], by rw [if_pos ⟨h1, h2⟩]⟩) (fun h => ⟨by rw [if_neg h], by rw [if_neg h]⟩) hR).mono fun e w2 h => h.row
  · exact d_words (o := 6) (by omega) hA.hi hA.hn1 hA.ha1 hA.hc hR.tt hR.bs (fun E w' t0 h => w_storeat rfl hA.hi hA.hn1 hA.ha1 hA.hc t0 hR.bs ha hj hn ha3 q z hv hqz hnn (popM_yes (by omega)) (popM_yes (by rw [offF_len]; omega)) (fun h1 h2 => ⟨by rw [if_pos ⟨h1, h2⟩], by rw [if_pos ⟨h1, h2⟩]⟩) (fun h => ⟨by rw [if_neg h], by rw [if_neg h]⟩) h) hR.rp
theorem locM_yes {x : Int} (h1 : 0 ≤ x) (h2 : x < F.loc.length) : locM x (F :: r) = (F.loc.getD x.toNat 0, true) := by
  simp only [locM]; rw [if_neg (by omega)]
theorem setM_yes {x y : Int} (h1 : 0 ≤ x) (h2 : x < F.loc.length) : setM x y (F :: r) = (true, {F with loc := F.loc.set x.toNat y} :: r) := by
  simp only [setM]; rw [if_neg (by omega)]
set_option maxHeartbeats 4000000 in
theorem s_local (hr : r ≠ []) (h1 : 0 ≤ a) (h2 : a < F.loc.length) (hA : At w0 p i 7 a bb g1 o1) : Both w0 p b k G sb g N n sz u t rs rg B base i v (F :: r) := by
  refine .inl ⟨(pushM sz (F.loc.getD a.toNat 0) (F :: r)).1, ((i : Int) + 1), v, (pushM sz (F.loc.getD a.toNat 0) (F :: r)).2, fun w hP => ?_, fun w hR => ?_, pushM_shape _ _ _ _⟩
  · refine do_row (o := 7) hA.hi hA.hn1 hA.ha1 (fun w' t => hA.hc w' (hP.t.trans t)) (by omega) (fn := 72) rfl (by omega) hP.tk hP.ps hP.d.1 hP.d.2.1 hP.d.2.2.1 hP.d.2.2.2.1 hP.d.2.2.2.2 ?_
    intro W w' hW ht hb
    obtain ⟨hR, hbW, hGW⟩ := hP.rw_ hW ht hb
    exact (row_local (locM_yes h1 h2) rfl rfl hR).mono fun e w2 h => h.row
  · exact d_words (o := 7) (by omega) hA.hi hA.hn1 hA.ha1 hA.hc hR.tt hR.bs (fun E w' t0 h => w_local rfl hA.hi hA.hn1 hA.ha1 hA.hc t0 hR.bs hr (locM_yes h1 h2) rfl rfl h) hR.rp
set_option maxHeartbeats 4000000 in
theorem s_setlocal (hr : r ≠ []) (h1 : 0 ≤ a) (h2 : a < F.loc.length) (hl : 1 ≤ F.ops.length) (hA : At w0 p i 8 a bb g1 o1) : Both w0 p b k G sb g N n sz u t rs rg B base i v (F :: r) := by
  refine .inl ⟨0, ((i : Int) + 1), v, ({offF F with loc := (offF F).loc.set a.toNat (lastF F)} :: r), fun w hP => ?_, fun w hR => ?_, _, _, rfl⟩
  · refine do_row (o := 8) hA.hi hA.hn1 hA.ha1 (fun w' t => hA.hc w' (hP.t.trans t)) (by omega) (fn := 73) rfl (by omega) hP.tk hP.ps hP.d.1 hP.d.2.1 hP.d.2.2.1 hP.d.2.2.2.1 hP.d.2.2.2.2 ?_
    intro W w' hW ht hb
    obtain ⟨hR, hbW, hGW⟩ := hP.rw_ hW ht hb
    exact (row_setlocal (popM_yes hl) (setM_yes h1 h2) hR).mono fun e w2 h => h.row
  · exact d_words (o := 8) (by omega) hA.hi hA.hn1 hA.ha1 hA.hc hR.tt hR.bs (fun E w' t0 h => w_setlocal rfl hA.hi hA.hn1 hA.ha1 hA.hc t0 hR.bs hr (popM_yes hl) (setM_yes h1 h2) h) hR.rp
theorem row_cmp (h1 : 9 ≤ o) (h2 : o ≤ 23) : rowV 24 o = fnV 78 := by
  unfold rowV
  rw [if_neg (by omega), if_neg (by omega), if_neg (by omega), if_neg (by omega), if_neg (by omega), if_neg (by omega), if_neg (by omega), if_neg (by omega), if_neg (by omega), if_neg (by omega), if_neg (by omega), if_neg (by omega), if_pos (by omega)]
theorem pop_two (h1 : 9 ≤ o) (h2 : o ≤ 22) (h3 : o ≠ 14) : popZ (o : Int) = 2 := by
  have : ∀ q : Fin 23, 9 ≤ q.val → q.val ≠ 14 → popZ (q.val : Int) = 2 := by decide +kernel
  exact this ⟨o, by omega⟩ h1 h3
set_option maxHeartbeats 4000000 in
theorem s_bin (ho : 9 ≤ o ∧ o ≤ 22 ∧ o ≠ 14) (hl : 2 ≤ F.ops.length) (hI : ∀ x ∈ F.ops, InI x) (hA : At w0 p i o a bb g1 o1) : Both w0 p b k G sb g N n sz u t rs rg B base i v (F :: r) := by
  refine .inl ⟨(if doC (o : Int) (lastF (offF F)) (lastF F) = 0 then (pushM sz (doV (o : Int) (lastF (offF F)) (lastF F)) (offF (offF F) :: r)).1 else doC (o : Int) (lastF (offF F)) (lastF F)), ((i : Int) + 1), v, (if doC (o : Int) (lastF (offF F)) (lastF F) = 0 then (pushM sz (doV (o : Int) (lastF (offF F)) (lastF F)) (offF (offF F) :: r)).2 else offF (offF F) :: r), fun w hP => ?_, fun w hR => ?_, by split; exact pushM_shape _ _ _ _; exact ⟨_, _, rfl⟩⟩
  · refine do_row (o := o) hA.hi hA.hn1 hA.ha1 (fun w' t => hA.hc w' (hP.t.trans t)) (by omega) (fn := 78) (row_cmp ho.1 (by omega)) (by omega) hP.tk hP.ps hP.d.1 hP.d.2.1 hP.d.2.2.1 hP.d.2.2.2.1 hP.d.2.2.2.2 ?_
    intro W w' hW ht hb
    obtain ⟨hR, hbW, hGW⟩ := hP.rw_ hW ht hb
    exact (compute2 (hP.vs.touch ht) (pop_two ho.1 ho.2.1 ho.2.2) (popM_yes (by omega)) (popM_yes (by rw [offF_len]; omega)) (lastF_in (offF_in hI) (by rw [offF_len]; omega)) (lastF_in hI (by omega)) rfl rfl (fun e => by rw [if_pos e]) (fun e => by rw [if_pos e]) (fun e => ⟨by rw [if_neg e], by rw [if_neg e]⟩) hR.tk hb hR.ps hR.d.2.2.1 hR.d.2.2.2.1 hR.d.1 hR.d.2.1).mono fun e w2 h => h.row hb hR.d.2.2.1 hR.d.2.2.2.1
  · exact d_bin ho hA.hi hA.hn1 hA.ha1 hA.hc hR.tt hR.bs (popM_yes (by omega)) (popM_yes (by rw [offF_len]; omega)) (lastF_in (offF_in hI) (by rw [offF_len]; omega)) (lastF_in hI (by omega)) rfl rfl (fun e => by rw [if_pos e]) (fun e => by rw [if_pos e]) (fun e => ⟨by rw [if_neg e], by rw [if_neg e]⟩) hR.rp
set_option maxHeartbeats 4000000 in
theorem s_neg (hl : 1 ≤ F.ops.length) (hI : ∀ x ∈ F.ops, InI x) (hA : At w0 p i 14 a bb g1 o1) : Both w0 p b k G sb g N n sz u t rs rg B base i v (F :: r) := by
  refine .inl ⟨(if doC ((14 : Nat) : Int) (lastF F) 0 = 0 then (pushM sz (doV ((14 : Nat) : Int) (lastF F) 0) (offF F :: r)).1 else doC ((14 : Nat) : Int) (lastF F) 0), ((i : Int) + 1), v, (if doC ((14 : Nat) : Int) (lastF F) 0 = 0 then (pushM sz (doV ((14 : Nat) : Int) (lastF F) 0) (offF F :: r)).2 else offF F :: r), fun w hP => ?_, fun w hR => ?_, by split; exact pushM_shape _ _ _ _; exact ⟨_, _, rfl⟩⟩
  · refine do_row (o := 14) hA.hi hA.hn1 hA.ha1 (fun w' t => hA.hc w' (hP.t.trans t)) (by omega) (fn := 78) (row_cmp (by omega) (by omega)) (by omega) hP.tk hP.ps hP.d.1 hP.d.2.1 hP.d.2.2.1 hP.d.2.2.2.1 hP.d.2.2.2.2 ?_
    intro W w' hW ht hb
    obtain ⟨hR, hbW, hGW⟩ := hP.rw_ hW ht hb
    exact (compute1 (hP.vs.touch ht) (by decide) (popM_yes hl) (lastF_in hI hl) rfl rfl (fun e => by rw [if_pos e]) (fun e => by rw [if_pos e]) (fun e => ⟨by rw [if_neg e], by rw [if_neg e]⟩) hR.tk hb hR.ps hR.d.2.2.1 hR.d.2.2.2.1 hR.d.1 hR.d.2.1).mono fun e w2 h => h.row hb hR.d.2.2.1 hR.d.2.2.2.1
  · exact d_neg rfl hA.hi hA.hn1 hA.ha1 hA.hc hR.tt hR.bs (popM_yes hl) (lastF_in hI hl) rfl rfl (fun e => by rw [if_pos e]) (fun e => by rw [if_pos e]) (fun e => ⟨by rw [if_neg e], by rw [if_neg e]⟩) hR.rp
set_option maxHeartbeats 4000000 in
theorem s_not (hl : 1 ≤ F.ops.length) (hI : ∀ x ∈ F.ops, InI x) (hA : At w0 p i 23 a bb g1 o1) : Both w0 p b k G sb g N n sz u t rs rg B base i v (F :: r) := by
  refine .inl ⟨(if doC ((23 : Nat) : Int) (lastF F) 0 = 0 then (pushM sz (doV ((23 : Nat) : Int) (lastF F) 0) (offF F :: r)).1 else doC ((23 : Nat) : Int) (lastF F) 0), ((i : Int) + 1), v, (if doC ((23 : Nat) : Int) (lastF F) 0 = 0 then (pushM sz (doV ((23 : Nat) : Int) (lastF F) 0) (offF F :: r)).2 else offF F :: r), fun w hP => ?_, fun w hR => ?_, by split; exact pushM_shape _ _ _ _; exact ⟨_, _, rfl⟩⟩
  · refine do_row (o := 23) hA.hi hA.hn1 hA.ha1 (fun w' t => hA.hc w' (hP.t.trans t)) (by omega) (fn := 78) (row_cmp (by omega) (by omega)) (by omega) hP.tk hP.ps hP.d.1 hP.d.2.1 hP.d.2.2.1 hP.d.2.2.2.1 hP.d.2.2.2.2 ?_
    intro W w' hW ht hb
    obtain ⟨hR, hbW, hGW⟩ := hP.rw_ hW ht hb
    exact (compute1 (hP.vs.touch ht) (by decide) (popM_yes hl) (lastF_in hI hl) rfl rfl (fun e => by rw [if_pos e]) (fun e => by rw [if_pos e]) (fun e => ⟨by rw [if_neg e], by rw [if_neg e]⟩) hR.tk hb hR.ps hR.d.2.2.1 hR.d.2.2.2.1 hR.d.1 hR.d.2.1).mono fun e w2 h => h.row hb hR.d.2.2.1 hR.d.2.2.2.1
  · exact d_not rfl hA.hi hA.hn1 hA.ha1 hA.hc hR.tt hR.bs (popM_yes hl) (lastF_in hI hl) rfl rfl (fun e => by rw [if_pos e]) (fun e => by rw [if_pos e]) (fun e => ⟨by rw [if_neg e], by rw [if_neg e]⟩) hR.rp
set_option maxHeartbeats 4000000 in
theorem s_jump  (hA : At w0 p i 24 a bb g1 o1) : Both w0 p b k G sb g N n sz u t rs rg B base i v (F :: r) := by
  refine .inl ⟨0, a, v, (F :: r), fun w hP => ?_, fun w hR => ?_, _, _, rfl⟩
  · refine do_row (o := 24) hA.hi hA.hn1 hA.ha1 (fun w' t => hA.hc w' (hP.t.trans t)) (by omega) (fn := 74) rfl (by omega) hP.tk hP.ps hP.d.1 hP.d.2.1 hP.d.2.2.1 hP.d.2.2.2.1 hP.d.2.2.2.2 ?_
    intro W w' hW ht hb
    obtain ⟨hR, hbW, hGW⟩ := hP.rw_ hW ht hb
    exact (row_jump hbW hGW hR).mono fun e w2 h => h.row
  · exact d_jump rfl hA.hi hA.hn1 hA.ha1 hA.hc hR.tt hR.bs hR.rp
set_option maxHeartbeats 4000000 in
theorem s_jz (hl : 1 ≤ F.ops.length) (hA : At w0 p i 25 a bb g1 o1) : Both w0 p b k G sb g N n sz u t rs rg B base i v (F :: r) := by
  refine .inl ⟨0, (if lastF F = 0 then a else (i : Int) + 1), v, (offF F :: r), fun w hP => ?_, fun w hR => ?_, _, _, rfl⟩
  · refine do_row (o := 25) hA.hi hA.hn1 hA.ha1 (fun w' t => hA.hc w' (hP.t.trans t)) (by omega) (fn := 75) rfl (by omega) hP.tk hP.ps hP.d.1 hP.d.2.1 hP.d.2.2.1 hP.d.2.2.2.1 hP.d.2.2.2.2 ?_
    intro W w' hW ht hb
    obtain ⟨hR, hbW, hGW⟩ := hP.rw_ hW ht hb
    exact (row_jumpzero hbW hGW (popM_yes hl) rfl hR).mono fun e w2 h => h.row
  · exact d_jz rfl hA.hi hA.hn1 hA.ha1 hA.hc hR.tt hR.bs (popM_yes hl) rfl hR.rp
set_option maxHeartbeats 4000000 in
theorem s_call {g2 o2 j : Nat} {ea pa lc : Int} (ha : a = (j : Int)) (hj : j < p.n2) (hn : p.n2 ≤ 1000000) (ha2 : p.a2 = some ⟨g2, o2, none⟩) (hv : ∀ w', Touch [] w0 w' → w'.cell? ⟨g2, o2 + j * 3, none⟩ = some (.int .i64 ea) ∧ w'.cell? ⟨g2, o2 + j * 3 + 1, none⟩ = some (.int .i64 pa) ∧ w'.cell? ⟨g2, o2 + j * 3 + 2, none⟩ = some (.int .i64 lc)) (hlc : lc ≤ 9223372036854775807) (hA : At w0 p i 26 a bb g1 o1) : Both w0 p b k G sb g N n sz u t rs rg B base i v (F :: r) := by
  refine .inl ⟨(callM sz ((i : Int) + 1) pa lc (F :: r)).1, ea, v, (callM sz ((i : Int) + 1) pa lc (F :: r)).2, fun w hP => ?_, fun w hR => ?_, callM_shape _ _ _ _ _ _⟩
  · refine do_row (o := 26) hA.hi hA.hn1 hA.ha1 (fun w' t => hA.hc w' (hP.t.trans t)) (by omega) (fn := 76) rfl (by omega) hP.tk hP.ps hP.d.1 hP.d.2.1 hP.d.2.2.1 hP.d.2.2.2.1 hP.d.2.2.2.2 ?_
    intro W w' hW ht hb
    obtain ⟨hR, hbW, hGW⟩ := hP.rw_ hW ht hb
    exact (row_call hbW hGW ha hj hn ha2 (fun w' t => hv w' ((hP.t.trans ht).trans t)) hlc rfl hR).mono fun e w2 h => h.row
  · exact d_call rfl hA.hi hA.hn1 hA.ha1 hA.hc hR.tt hR.bs ha hj hn ha2 hv rfl hR.rp
theorem retM_yes {r : List Frm} (hl : 2 ≤ r.length) : retM (F :: r) = (F.back, true, r) := by
  cases r with
  | nil => simp at hl
  | cons G r => rfl
set_option maxHeartbeats 4000000 in
theorem s_ret (hl : 2 ≤ r.length) (hA : At w0 p i 27 a bb g1 o1) : Both w0 p b k G sb g N n sz u t rs rg B base i v (F :: r) := by
  refine .inl ⟨0, F.back, v, r, fun w hP => ?_, fun w hR => ?_, by cases r with | nil => simp at hl | cons G r => exact ⟨_, _, rfl⟩⟩
  · refine do_row (o := 27) hA.hi hA.hn1 hA.ha1 (fun w' t => hA.hc w' (hP.t.trans t)) (by omega) (fn := 77) rfl (fun _ => hl) hP.tk hP.ps hP.d.1 hP.d.2.1 hP.d.2.2.1 hP.d.2.2.2.1 hP.d.2.2.2.2 ?_
    intro W w' hW ht hb
    obtain ⟨hR, hbW, hGW⟩ := hP.rw_ hW ht hb
    exact (row_ret hbW hGW (retM_yes hl) hR).mono fun e w2 h => h.row
  · exact d_ret rfl hA.hi hA.hn1 hA.ha1 hA.hc hR.tt hR.bs hl (retM_yes hl) hR.rp
theorem s_last (hl : r.length < 2) (hA : At w0 p i 27 a bb g1 o1) : Both w0 p b k G sb g N n sz u t rs rg B base i v (F :: r) :=
  .inr ⟨fun w hP => do_last hA.hi hA.hn1 hA.ha1 (fun w' t => hA.hc w' (hP.t.trans t)) rfl hl hP.tk hP.ps, fun w hR => d_last rfl hA.hi hA.hn1 hA.ha1 hA.hc hR.tt hR.bs hl hR.rp⟩
theorem s_kern (ho : 28 ≤ o ∧ o < 39) (hA : At w0 p i o a bb g1 o1) : Both w0 p b k G sb g N n sz u t rs rg B base i v (F :: r) :=
  .inr ⟨fun w hP => do_kern hA.hi hA.hn1 hA.ha1 (fun w' t => hA.hc w' (hP.t.trans t)) ho hP.tk hP.ps, fun w hR => d_kern ho.1 hA.hi hA.hn1 hA.ha1 hA.hc hR.tt hR.bs hR.rp⟩

end
end Go.Proofs.YtjfnoondkgjabaaGreatDoor
