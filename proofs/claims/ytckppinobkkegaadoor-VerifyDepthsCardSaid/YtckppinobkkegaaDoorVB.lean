/-
  What may be wrong with a program, plainly: its tables, its instructions, its depths; the first thing is one.
-/
import Derived.Test.YtckppinobkkegaaDoorVA
import Derived.Test.YtckppinobkkegaaDoorIA
import Derived.Test.YtckppinobkkegaaDoorCB
set_option linter.unusedVariables false
namespace Go.Proofs.YtckppinobkkegaaDoor
open Go

def Pg.op (P : Pg) (i : Nat) : Int := P.z1 i 0
def Pg.a (P : Pg) (i : Nat) : Int := P.z1 i 1
def Pg.b (P : Pg) (i : Nat) : Int := P.z1 i 2
structure EntOk (P : Pg) (i : Nat) : Prop where
  p0 : 0 ≤ P.z2 i 1
  p1 : P.z2 i 1 ≤ 4
  l0 : P.z2 i 1 ≤ P.z2 i 2
  l1 : P.z2 i 2 ≤ 8
  a0 : 0 ≤ P.z2 i 0
  a1 : P.z2 i 0 < P.n1
  zero : i = 0 → P.z2 i 0 = 0 ∧ P.z2 i 2 = 0
  rise : 0 < i → P.z2 (i - 1) 0 < P.z2 i 0
structure CellOk (P : Pg) (i : Nat) : Prop where
  s0 : 0 ≤ P.z3 i 1
  s1 : P.z3 i 1 ≤ 64
  b0 : 0 ≤ P.z3 i 0
  b1 : P.z3 i 0 + P.z3 i 1 ≤ 8192
  b2 : P.z3 i 0 + 1 ≤ 8192
structure ForkOk (P : Pg) (i : Nat) : Prop where
  p0 : 1 ≤ P.z8 i 0
  p1 : P.z8 i 0 < P.n2
  c0 : 0 ≤ P.z8 i 1
  c1 : P.z8 i 1 < P.ve.length
def betw (lo hi x : Int) : Prop := lo ≤ x ∧ x ≤ hi
def tabOk (P : Pg) : Nat → Prop
  | 0 => MayP P
  | 1 => ∀ i, i < P.n2 → EntOk P i
  | 2 => ∀ i, i < P.n3 → CellOk P i
  | 3 => betw 0 16 P.rg
  | 4 => ∀ x ∈ P.se, betw 0 1000 x
  | 5 => ∀ x ∈ P.tt, betw 1 1000 x
  | 6 => ∀ v ∈ P.ve, ∀ x ∈ v, betw 0 1000 x
  | 7 => ∀ i, i < P.n8 → ForkOk P i
  | _ => 0 ≤ P.cl ∧ P.cl < P.ve.length
def TabOk (P : Pg) : Prop := ∀ j, j < 9 → tabOk P j
def TabBad (P : Pg) (k : Nat) : Prop := k < 9 ∧ ¬ tabOk P k ∧ ∀ j, j < k → tabOk P j
theorem TabBad.not {P : Pg} {k : Nat} (h : TabBad P k) : ¬ TabOk P := fun h2 => h.2.1 (h2 k h.1)
theorem TabBad.uniq {P : Pg} {k j : Nat} (h : TabBad P k) (h' : TabBad P j) : k = j := by
  rcases Nat.lt_trichotomy k j with e | e | e
  · exact absurd (h'.2.2 k e) h.2.1
  · exact e
  · exact absurd (h.2.2 j e) h'.2.1
/-- A procedure's own instructions: from .. on, up to ahead of to. -/
def fromP (P : Pg) (k : Nat) : Nat := (P.z2 k 0).toNat
def toP (P : Pg) (k : Nat) : Nat := if k + 1 < P.n2 then fromP P (k + 1) else P.n1
theorem from_lt {P : Pg} (h : TabOk P) {k : Nat} (hk : k < P.n2) : fromP P k < toP P k ∧ toP P k ≤ P.n1 ∧ ((fromP P k : Nat) : Int) = P.z2 k 0 := by
  have he : ∀ i, i < P.n2 → EntOk P i := h 1 (by omega)
  have e0 := he k hk
  have e1 := e0.a0
  have e2 := e0.a1
  unfold toP
  split
  · rename_i h1
    have e3 := (he (k + 1) h1).rise (by omega)
    have e4 := (he (k + 1) h1).a1
    simp only [Nat.add_sub_cancel] at e3
    unfold fromP
    omega
  · unfold fromP
    omega
/-- Of how many things an instruction's operand names one; below 0: of none. -/
def limN (P : Pg) (k : Nat) (op : Int) : Int :=
  if op = 3 ∨ op = 4 ∨ op = 5 ∨ op = 6 then P.n3
  else if op = 7 ∨ op = 8 then P.z2 k 2
  else if op = 26 then P.n2
  else if op = 28 then P.n8
  else if op = 30 ∨ op = 31 then P.se.length
  else if op = 32 ∨ op = 33 ∨ op = 34 then P.rg
  else if op = 35 ∨ op = 36 then P.ve.length
  else -1
structure FitOk (P : Pg) (k i : Nat) : Prop where
  is_ : isZ (P.op i) = true
  b0 : opZ (P.op i) < 2 → P.b i = 0
  a0 : opZ (P.op i) < 1 → P.a i = 0
  lim : 0 ≤ limN P k (P.op i) → 0 ≤ P.a i ∧ P.a i < limN P k (P.op i)
  call : P.op i = 26 → P.a i ≠ 0
structure GoOk (P : Pg) (k i : Nat) : Prop where
  jump : P.op i = 24 ∨ P.op i = 25 → (fromP P k : Int) ≤ P.a i ∧ P.a i < (toP P k : Int)
  await : P.op i = 33 → (fromP P k : Int) ≤ P.b i ∧ P.b i < (toP P k : Int)
  on : P.op i ≠ 24 → P.op i ≠ 27 → i + 1 < toP P k
open Classical in
noncomputable def insC (P : Pg) (k i : Nat) : Int := if FitOk P k i then (if GoOk P k i then 0 else 28) else 27
theorem insC_fit {P : Pg} {k i : Nat} (h : ¬ FitOk P k i) : insC P k i = 27 := if_neg h
theorem insC_go {P : Pg} {k i : Nat} (h : FitOk P k i) (h2 : ¬ GoOk P k i) : insC P k i = 28 := by unfold insC; rw [if_pos h, if_neg h2]
theorem insC_ok {P : Pg} {k i : Nat} (h : FitOk P k i) (h2 : GoOk P k i) : insC P k i = 0 := by unfold insC; rw [if_pos h, if_pos h2]
theorem insC_zero {P : Pg} {k i : Nat} (h : insC P k i = 0) : FitOk P k i ∧ GoOk P k i := by
  unfold insC at h
  split at h
  · rename_i h1
    split at h
    · rename_i h2; exact ⟨h1, h2⟩
    · cases h
  · cases h
def InsAll (P : Pg) (k : Nat) : Prop := ∀ i, fromP P k ≤ i → i < toP P k → insC P k i = 0
def InsOk (P : Pg) : Prop := ∀ k, k < P.n2 → InsAll P k
def InsBad (P : Pg) (i : Nat) (c : Int) : Prop := ∃ k, k < P.n2 ∧ fromP P k ≤ i ∧ i < toP P k ∧ insC P k i = c ∧ c ≠ 0 ∧ (∀ j, j < k → InsAll P j) ∧ ∀ j, fromP P k ≤ j → j < i → insC P k j = 0
theorem InsBad.not {P : Pg} {i : Nat} {c : Int} (h : InsBad P i c) : ¬ InsOk P := fun h2 => by
  obtain ⟨k, hk, h3, h4, h5, h6, _⟩ := h
  exact h6 (h5.symm.trans (h2 k hk i h3 h4))
theorem InsBad.uniq {P : Pg} {i j : Nat} {c d : Int} (h : InsBad P i c) (h' : InsBad P j d) : i = j ∧ c = d := by
  obtain ⟨k, hk, h1, h2, h3, h4, h5, h6⟩ := h
  obtain ⟨l, hl, g1, g2, g3, g4, g5, g6⟩ := h'
  rcases Nat.lt_trichotomy k l with e | e | e
  · exact absurd (h3.symm.trans (g5 k e i h1 h2)) h4
  · subst e
    rcases Nat.lt_trichotomy i j with e | e | e
    · exact absurd (h3.symm.trans (g6 i h1 e)) h4
    · subst e
      exact ⟨rfl, h3.symm.trans g3⟩
    · exact absurd (g3.symm.trans (h6 j g1 e)) g4
  · exact absurd (g3.symm.trans (h5 l e j g1 g2)) g4
/-- What an instruction takes, and where one goes on behind it (by places from the procedure's beginning on). -/
def tkP (P : Pg) (i : Nat) : Int := if P.op i = 26 then P.z2 (P.a i).toNat 1 else if P.op i = 28 then P.z2 (P.z8 (P.a i).toNat 0).toNat 1 else popZ (P.op i)
def nxP (P : Pg) (k j : Nat) : List Nat :=
  if P.op (fromP P k + j) = 27 then [] else if P.op (fromP P k + j) = 24 then [(P.a (fromP P k + j)).toNat - fromP P k]
  else if P.op (fromP P k + j) = 25 then [j + 1, (P.a (fromP P k + j)).toNat - fromP P k] else if P.op (fromP P k + j) = 33 then [j + 1, (P.b (fromP P k + j)).toNat - fromP P k] else [j + 1]
def flow (P : Pg) (k : Nat) : Flow := ⟨toP P k - fromP P k, fun j => tkP P (fromP P k + j), fun j => pusZ (P.op (fromP P k + j)), fun j => decide (P.op (fromP P k + j) = 27), nxP P k⟩
theorem pusT_fin : ∀ k : Fin 39, 0 ≤ pusT k.val ∧ pusT k.val ≤ 1 := by decide +kernel
theorem popT_fin : ∀ k : Fin 39, 0 ≤ popT k.val ∧ popT k.val ≤ 2 := by decide +kernel
theorem pusZ_01 (op : Int) : 0 ≤ pusZ op ∧ pusZ op ≤ 1 := by
  unfold pusZ
  by_cases h : op.toNat < 39
  · exact pusT_fin ⟨_, h⟩
  · rw [pusT_big (by omega)]; omega
theorem popZ_02 (op : Int) : 0 ≤ popZ op ∧ popZ op ≤ 2 := by
  unfold popZ
  by_cases h : op.toNat < 39
  · exact popT_fin ⟨_, h⟩
  · rw [popT_big (by omega)]; omega
theorem flow_may {P : Pg} (ht : TabOk P) {k : Nat} (hk : k < P.n2) (hi : InsAll P k) : (flow P k).May := by
  obtain ⟨h1, h2, h3⟩ := from_lt ht hk
  refine ⟨by show 0 < toP P k - fromP P k; omega, fun j _ => (pusZ_01 _).1, fun j hj x hx => ?_⟩
  have hj' : j < toP P k - fromP P k := hj
  obtain ⟨hf, hg⟩ := insC_zero (hi (fromP P k + j) (by omega) (by omega))
  have hx' : x ∈ nxP P k j := hx
  show x < toP P k - fromP P k
  unfold nxP at hx'
  split at hx'
  · cases hx'
  rename_i n27
  split at hx'
  · rename_i e
    have := hg.jump (.inl e)
    rw [List.mem_singleton] at hx'
    omega
  rename_i n24
  have hon := hg.on n24 n27
  split at hx'
  · rename_i e
    have := hg.jump (.inr e)
    rcases List.mem_cons.1 hx' with e2 | e2
    · omega
    · rw [List.mem_singleton] at e2; omega
  split at hx'
  · rename_i e
    have := hg.await e
    rcases List.mem_cons.1 hx' with e2 | e2
    · omega
    · rw [List.mem_singleton] at e2; omega
  · rw [List.mem_singleton] at hx'; omega
def DepBad (P : Pg) (k : Nat) : Prop := k < P.n2 ∧ ¬ (flow P k).Good ∧ ∀ j, j < k → (flow P j).Good
def DepOk (P : Pg) : Prop := ∀ j, j < P.n2 → (flow P j).Good
theorem DepBad.uniq {P : Pg} {k j : Nat} (h : DepBad P k) (h' : DepBad P j) : k = j := by
  rcases Nat.lt_trichotomy k j with e | e | e
  · exact absurd (h'.2.2 k e) h.2.1
  · exact e
  · exact absurd (h.2.2 j e) h'.2.1
/-- What is told of a program: where, and what. -/
def CheckR (P : Pg) (t c : Int) : Prop :=
  (∃ k : Nat, TabBad P k ∧ t = k ∧ c = 26) ∨ (TabOk P ∧ ∃ i : Nat, InsBad P i c ∧ t = i) ∨ (TabOk P ∧ InsOk P ∧ ∃ k : Nat, DepBad P k ∧ t = k ∧ c = 29) ∨ (TabOk P ∧ InsOk P ∧ DepOk P ∧ t = 0 ∧ c = 0)
theorem CheckR.uniq {P : Pg} {t c t' c' : Int} (h : CheckR P t c) (h' : CheckR P t' c') : t = t' ∧ c = c' := by
  rcases h with ⟨k, h1, rfl, rfl⟩ | ⟨h0, i, h1, rfl⟩ | ⟨h0, h1, k, h2, rfl, rfl⟩ | ⟨h0, h1, h2, rfl, rfl⟩ <;>
  rcases h' with ⟨l, g1, rfl, rfl⟩ | ⟨g0, j, g1, rfl⟩ | ⟨g0, g1, l, g2, rfl, rfl⟩ | ⟨g0, g1, g2, rfl, rfl⟩
  · obtain rfl := h1.uniq g1; exact ⟨rfl, rfl⟩
  · exact absurd g0 h1.not
  · exact absurd g0 h1.not
  · exact absurd g0 h1.not
  · exact absurd h0 g1.not
  · obtain ⟨rfl, rfl⟩ := h1.uniq g1; exact ⟨rfl, rfl⟩
  · exact absurd g1 h1.not
  · exact absurd g1 h1.not
  · exact absurd h0 g1.not
  · exact absurd h1 g1.not
  · obtain rfl := h2.uniq g2; exact ⟨rfl, rfl⟩
  · exact absurd (g2 k h2.1) h2.2.1
  · exact absurd h0 g1.not
  · exact absurd h1 g1.not
  · exact absurd (h2 l g2.1) g2.2.1
  · exact ⟨rfl, rfl⟩
theorem CheckR.zero {P : Pg} {t c : Int} (h : CheckR P t c) (hc : c = 0) : TabOk P ∧ InsOk P ∧ DepOk P ∧ t = 0 := by
  subst hc
  rcases h with ⟨_, _, _, e⟩ | ⟨_, i, ⟨_, _, _, _, _, e, _⟩, _⟩ | ⟨_, _, _, _, _, e⟩ | ⟨h0, h1, h2, h3, _⟩
  · cases e
  · exact absurd rfl e
  · cases e
  · exact ⟨h0, h1, h2, h3⟩
theorem CheckR.nonzero {P : Pg} {t c : Int} (h : CheckR P t c) (hc : c ≠ 0) : ¬ (TabOk P ∧ InsOk P ∧ DepOk P) := fun ⟨a, b, d⟩ => hc (h.uniq (.inr (.inr (.inr ⟨a, b, d, rfl, rfl⟩)))).2
end Go.Proofs.YtckppinobkkegaaDoor
