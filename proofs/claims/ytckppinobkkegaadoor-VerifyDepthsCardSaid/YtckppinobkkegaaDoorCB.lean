/-
  Programs as bytes, plainly: what is written, what is read, and that both are each other's.
-/
import Derived.Test.YtckppinobkkegaaDoorCA
set_option linter.unusedVariables false
namespace Go.Proofs.YtckppinobkkegaaDoor
open Go

/-- A program, plainly. -/
structure Pg where
  n1 : Nat
  z1 : Nat → Nat → Int
  n2 : Nat
  z2 : Nat → Nat → Int
  n3 : Nat
  z3 : Nat → Nat → Int
  rg : Int
  se : List Int
  tt : List Int
  ve : List (List Int)
  n8 : Nat
  z8 : Nat → Nat → Int
  cl : Int
/-- Numbers of rows, one behind the other. -/
def flatI (k n : Nat) (z : Nat → Nat → Int) : List Int := (List.range (n * k)).map fun q => z (q / k) (q % k)
theorem flatI_length (k n : Nat) (z : Nat → Nat → Int) : (flatI k n z).length = n * k := by simp [flatI]
theorem flatI_zero (k : Nat) (z : Nat → Nat → Int) : flatI k 0 z = [] := by simp [flatI]
theorem flatI_succ (k n : Nat) (z : Nat → Nat → Int) : flatI k (n + 1) z = flatI k n z ++ (List.range k).map (z n) := by
  unfold flatI
  rw [Nat.succ_mul, List.range_add, List.map_append, List.map_map]
  congr 1
  apply List.map_congr_left
  intro j hj
  have hj := List.mem_range.1 hj
  have h1 : (n * k + j) / k = n := by rw [Nat.mul_comm, Nat.mul_add_div (by omega), Nat.div_eq_of_lt hj, Nat.add_zero]
  have h2 : (n * k + j) % k = j := by rw [Nat.mul_comm, Nat.mul_add_mod, Nat.mod_eq_of_lt hj]
  show z ((n * k + j) / k) ((n * k + j) % k) = z n j
  rw [h1, h2]
theorem flatI_congr {k n : Nat} {z y : Nat → Nat → Int} (h : ∀ i, i < n → ∀ j, j < k → z i j = y i j) : flatI k n z = flatI k n y := by
  unfold flatI
  apply List.map_congr_left
  intro q hq
  have hq := List.mem_range.1 hq
  have hk : 0 < k := by
    rcases Nat.eq_zero_or_pos k with rfl | hk
    · simp at hq
    · exact hk
  exact h _ (Nat.div_lt_of_lt_mul (by rw [Nat.mul_comm]; exact hq)) _ (Nat.mod_lt _ hk)
theorem flatI_inj {k n : Nat} {z y : Nat → Nat → Int} (h : flatI k n z = flatI k n y) : ∀ i, i < n → ∀ j, j < k → z i j = y i j := by
  intro i hi j hj
  have hq : i * k + j < n * k := by
    have : (i + 1) * k ≤ n * k := Nat.mul_le_mul_right _ hi
    rw [Nat.succ_mul] at this
    omega
  have h1 : (i * k + j) / k = i := by rw [Nat.mul_comm, Nat.mul_add_div (by omega), Nat.div_eq_of_lt hj, Nat.add_zero]
  have h2 : (i * k + j) % k = j := by rw [Nat.mul_comm, Nat.mul_add_mod, Nat.mod_eq_of_lt hj]
  have := congrArg (fun l => l[i * k + j]?) h
  simp only [flatI, List.getElem?_map, List.getElem?_range hq, Option.map_some, Option.some.injEq, h1, h2] at this
  exact this
theorem flatI_mem {k n : Nat} {z : Nat → Nat → Int} (h : ∀ i, i < n → ∀ j, j < k → InI (z i j)) : ∀ x ∈ flatI k n z, InI x := by
  intro x hx
  unfold flatI at hx
  obtain ⟨q, hq, rfl⟩ := List.mem_map.1 hx
  have hq := List.mem_range.1 hq
  have hk : 0 < k := by
    rcases Nat.eq_zero_or_pos k with rfl | hk
    · simp at hq
    · exact hk
  exact h _ (Nat.div_lt_of_lt_mul (by rw [Nat.mul_comm]; exact hq)) _ (Nat.mod_lt _ hk)
/-- A list's bytes. -/
def secB (n : Nat) (l : List Int) : List Nat := leN 2 n ++ l.flatMap num8
theorem flat8_length : ∀ (l : List Int), (l.flatMap num8).length = 8 * l.length
  | [] => rfl
  | x :: l => by rw [List.flatMap_cons, List.length_append, num8_length, flat8_length l, List.length_cons]; omega
theorem flat8_byte (l : List Int) : ∀ b ∈ l.flatMap num8, b < 256 := fun b h => by
  obtain ⟨x, _, hx⟩ := List.mem_flatMap.1 h
  exact num8_byte x b hx
theorem secB_length (n : Nat) (l : List Int) : (secB n l).length = 2 + 8 * l.length := by unfold secB; rw [List.length_append, leN_length, flat8_length]
theorem secB_byte (n : Nat) (l : List Int) : ∀ b ∈ secB n l, b < 256 := fun b h => by
  rcases List.mem_append.1 h with h | h
  · exact leN_byte _ _ b h
  · exact flat8_byte l b h
/-- A program's bytes. -/
def encL (P : Pg) : List Nat :=
  [83, 66] ++ (secB P.n1 (flatI 3 P.n1 P.z1) ++ (secB P.n2 (flatI 3 P.n2 P.z2) ++ (secB P.n3 (flatI 2 P.n3 P.z3) ++ (num8 P.rg ++ (secB P.se.length P.se ++ (secB P.tt.length P.tt ++ (secB P.ve.length P.ve.flatten ++ (secB P.n8 (flatI 2 P.n8 P.z8) ++ num8 P.cl))))))))
/-- May a program be? -/
def MayP (P : Pg) : Prop := P.n1 ≤ 5000 ∧ 1 ≤ P.n2 ∧ P.n2 ≤ 13 ∧ P.n3 ≤ 16 ∧ P.se.length ≤ 8 ∧ P.tt.length ≤ 6 ∧ P.ve.length ≤ 1000 ∧ P.n8 ≤ 1000 ∧ ∀ v ∈ P.ve, v.length = P.tt.length
instance (P : Pg) : Decidable (MayP P) := by unfold MayP; exact inferInstance
/-- Are two alike? -/
structure SameP (P Q : Pg) : Prop where
  n1 : P.n1 = Q.n1
  z1 : ∀ i, i < P.n1 → ∀ j, j < 3 → P.z1 i j = Q.z1 i j
  n2 : P.n2 = Q.n2
  z2 : ∀ i, i < P.n2 → ∀ j, j < 3 → P.z2 i j = Q.z2 i j
  n3 : P.n3 = Q.n3
  z3 : ∀ i, i < P.n3 → ∀ j, j < 2 → P.z3 i j = Q.z3 i j
  rg : P.rg = Q.rg
  se : P.se = Q.se
  tt : P.tt = Q.tt
  ve : P.ve = Q.ve
  n8 : P.n8 = Q.n8
  z8 : ∀ i, i < P.n8 → ∀ j, j < 2 → P.z8 i j = Q.z8 i j
  cl : P.cl = Q.cl
theorem SameP.refl (P : Pg) : SameP P P := ⟨rfl, fun _ _ _ _ => rfl, rfl, fun _ _ _ _ => rfl, rfl, fun _ _ _ _ => rfl, rfl, rfl, rfl, rfl, rfl, fun _ _ _ _ => rfl, rfl⟩
theorem SameP.symm {P Q : Pg} (h : SameP P Q) : SameP Q P :=
  ⟨h.n1.symm, fun i hi j hj => (h.z1 i (by rw [h.n1]; exact hi) j hj).symm, h.n2.symm, fun i hi j hj => (h.z2 i (by rw [h.n2]; exact hi) j hj).symm, h.n3.symm, fun i hi j hj => (h.z3 i (by rw [h.n3]; exact hi) j hj).symm, h.rg.symm, h.se.symm, h.tt.symm, h.ve.symm, h.n8.symm, fun i hi j hj => (h.z8 i (by rw [h.n8]; exact hi) j hj).symm, h.cl.symm⟩
theorem SameP.trans {P Q R : Pg} (h : SameP P Q) (k : SameP Q R) : SameP P R :=
  ⟨h.n1.trans k.n1, fun i hi j hj => (h.z1 i hi j hj).trans (k.z1 i (by rw [← h.n1]; exact hi) j hj), h.n2.trans k.n2, fun i hi j hj => (h.z2 i hi j hj).trans (k.z2 i (by rw [← h.n2]; exact hi) j hj), h.n3.trans k.n3, fun i hi j hj => (h.z3 i hi j hj).trans (k.z3 i (by rw [← h.n3]; exact hi) j hj), h.rg.trans k.rg, h.se.trans k.se, h.tt.trans k.tt, h.ve.trans k.ve, h.n8.trans k.n8, fun i hi j hj => (h.z8 i hi j hj).trans (k.z8 i (by rw [← h.n8]; exact hi) j hj), h.cl.trans k.cl⟩
theorem SameP.enc {P Q : Pg} (h : SameP P Q) : encL P = encL Q := by
  unfold encL
  rw [flatI_congr h.z1, flatI_congr h.z2, flatI_congr h.z3, flatI_congr h.z8, h.n1, h.n2, h.n3, h.n8, h.rg, h.se, h.tt, h.ve, h.cl]
theorem SameP.may {P Q : Pg} (h : SameP P Q) (hm : MayP P) : MayP Q := by
  unfold MayP at *
  rw [← h.n1, ← h.n2, ← h.n3, ← h.n8, ← h.se, ← h.tt, ← h.ve]; exact hm
/-- All numbers are of 64 bits. -/
structure InP (P : Pg) : Prop where
  z1 : ∀ i, i < P.n1 → ∀ j, j < 3 → InI (P.z1 i j)
  z2 : ∀ i, i < P.n2 → ∀ j, j < 3 → InI (P.z2 i j)
  z3 : ∀ i, i < P.n3 → ∀ j, j < 2 → InI (P.z3 i j)
  rg : InI P.rg
  se : ∀ x ∈ P.se, InI x
  tt : ∀ x ∈ P.tt, InI x
  ve : ∀ l ∈ P.ve, ∀ x ∈ l, InI x
  z8 : ∀ i, i < P.n8 → ∀ j, j < 2 → InI (P.z8 i j)
  cl : InI P.cl

/-! ### What is read -/
def cntA (D : List Nat) (o : Nat) : Nat := valN ((D.drop o).take 2)
def numA (D : List Nat) (o : Nat) : Int := of8 (D.drop o)
def numsA (D : List Nat) (o m : Nat) : List Int := (List.range m).map fun q => numA D (o + 8 * q)
theorem numsA_length (D : List Nat) (o m : Nat) : (numsA D o m).length = m := by simp [numsA]
theorem numsA_flat (D : List Nat) (o : Nat) : ∀ (m : Nat), (∀ b ∈ D, b < 256) → o + 8 * m ≤ D.length → (numsA D o m).flatMap num8 = (D.drop o).take (8 * m)
  | 0, _, _ => by simp [numsA]
  | m + 1, hb, h => by
    have ih := numsA_flat D o m hb (by omega)
    have e : numsA D o (m + 1) = numsA D o m ++ [numA D (o + 8 * m)] := by unfold numsA; rw [List.range_succ, List.map_append]; rfl
    rw [e, List.flatMap_append, ih]
    have hb' : ∀ b ∈ D.drop (o + 8 * m), b < 256 := fun b h => hb b (List.mem_of_mem_drop h)
    have e2 : [numA D (o + 8 * m)].flatMap num8 = (D.drop (o + 8 * m)).take 8 := by
      rw [List.flatMap_singleton]
      exact num8_of8 (by rw [List.length_drop]; omega) hb'
    rw [e2, show 8 * (m + 1) = 8 * m + 8 by omega, List.take_add, List.drop_drop]
theorem numsA_of (D : List Nat) : ∀ (l : List Int) (o : Nat) (r : List Nat), (∀ x ∈ l, InI x) → D.drop o = l.flatMap num8 ++ r → numsA D o l.length = l ∧ D.drop (o + 8 * l.length) = r
  | [], o, r, _, h => by simpa [numsA] using h
  | x :: l, o, r, hx, h => by
    rw [List.flatMap_cons, List.append_assoc] at h
    have h0 : numA D o = x := by unfold numA; rw [h]; exact of8_num8 (hx x (List.mem_cons_self ..)) _
    have h1 : D.drop (o + 8) = l.flatMap num8 ++ r := by
      rw [← List.drop_drop, h, List.drop_append_of_le_length (by rw [num8_length]; omega), List.drop_eq_nil_of_le (by rw [num8_length]; omega), List.nil_append]
    obtain ⟨q1, q2⟩ := numsA_of D l (o + 8) r (fun y hy => hx y (List.mem_cons_of_mem _ hy)) h1
    refine ⟨?_, ?_⟩
    · unfold numsA at q1 ⊢
      rw [List.length_cons, List.range_succ_eq_map, List.map_cons, List.map_map]
      congr 1
      rw [← q1]
      simp only [List.length_map, List.length_range]
      apply List.map_congr_left
      intro i _
      show numA D (o + 8 * (i + 1)) = numA D (o + 8 + 8 * i)
      rw [show o + 8 * (i + 1) = o + 8 + 8 * i by omega]
    · rw [List.length_cons, show o + 8 * (l.length + 1) = o + 8 + 8 * l.length by omega]; exact q2
theorem cntA_of {D : List Nat} {o n : Nat} {r : List Nat} (hn : n < 65536) (h : D.drop o = leN 2 n ++ r) : cntA D o = n ∧ D.drop (o + 2) = r := by
  refine ⟨?_, ?_⟩
  · unfold cntA
    rw [h, List.take_append_of_le_length (by rw [leN_length]; omega), List.take_of_length_le (by rw [leN_length]; omega)]
    exact valN_leN 2 n (by omega)
  · rw [← List.drop_drop, h, List.drop_append_of_le_length (by rw [leN_length]; omega), List.drop_eq_nil_of_le (by rw [leN_length]; omega), List.nil_append]
theorem cntA_lt (D : List Nat) (o : Nat) (hb : ∀ b ∈ D, b < 256) : cntA D o < 65536 := by
  have hb' : ∀ b ∈ (D.drop o).take 2, b < 256 := fun b h => hb b (List.mem_of_mem_drop (List.mem_of_mem_take h))
  have := valN_lt _ hb'
  have h2 : 256 ^ ((D.drop o).take 2).length ≤ 256 ^ 2 := Nat.pow_le_pow_right (by omega) (by rw [List.length_take]; omega)
  unfold cntA
  omega
theorem cntA_back {D : List Nat} {o : Nat} (hb : ∀ b ∈ D, b < 256) (h : o + 2 ≤ D.length) : leN 2 (cntA D o) = (D.drop o).take 2 := by
  have hb' : ∀ b ∈ (D.drop o).take 2, b < 256 := fun b h => hb b (List.mem_of_mem_drop (List.mem_of_mem_take h))
  have := leN_valN _ hb'
  rw [show ((D.drop o).take 2).length = 2 by rw [List.length_take, List.length_drop]; omega] at this
  exact this
/-- Where the parts end. -/
def o1 (D : List Nat) : Nat := 4 + 24 * cntA D 2
def o2 (D : List Nat) : Nat := o1 D + 2 + 24 * cntA D (o1 D)
def o3 (D : List Nat) : Nat := o2 D + 2 + 16 * cntA D (o2 D)
def o4 (D : List Nat) : Nat := o3 D + 8
def o5 (D : List Nat) : Nat := o4 D + 2 + 8 * cntA D (o4 D)
def o6 (D : List Nat) : Nat := o5 D + 2 + 8 * cntA D (o5 D)
def o7 (D : List Nat) : Nat := o6 D + 2 + 8 * (cntA D (o6 D) * cntA D (o5 D))
def o8 (D : List Nat) : Nat := o7 D + 2 + 16 * cntA D (o7 D)
def o9 (D : List Nat) : Nat := o8 D + 8
theorem eo1 (D : List Nat) : o1 D = 4 + 24 * cntA D 2 := rfl
theorem eo2 (D : List Nat) : o2 D = o1 D + 2 + 24 * cntA D (o1 D) := rfl
theorem eo3 (D : List Nat) : o3 D = o2 D + 2 + 16 * cntA D (o2 D) := rfl
theorem eo4 (D : List Nat) : o4 D = o3 D + 8 := rfl
theorem eo5 (D : List Nat) : o5 D = o4 D + 2 + 8 * cntA D (o4 D) := rfl
theorem eo6 (D : List Nat) : o6 D = o5 D + 2 + 8 * cntA D (o5 D) := rfl
theorem eo7 (D : List Nat) : o7 D = o6 D + 2 + 8 * (cntA D (o6 D) * cntA D (o5 D)) := rfl
theorem eo8 (D : List Nat) : o8 D = o7 D + 2 + 16 * cntA D (o7 D) := rfl
theorem eo9 (D : List Nat) : o9 D = o8 D + 8 := rfl
attribute [irreducible] o1 o2 o3 o4 o5 o6 o7 o8 o9
theorem drop_eq {D : List Nat} {a b : Nat} (h : a = b) : D.drop a = D.drop b := by rw [h]
def rowsA (D : List Nat) (o k : Nat) : Nat → Nat → Int := fun i j => numA D (o + 8 * (i * k + j))
theorem flatI_rows (D : List Nat) (o k n : Nat) : flatI k n (rowsA D o k) = numsA D o (n * k) := by
  unfold flatI numsA rowsA
  apply List.map_congr_left
  intro q _
  rw [Nat.div_add_mod']
def vecsA (D : List Nat) (o k n : Nat) : List (List Int) := (List.range n).map fun i => (List.range k).map fun j => numA D (o + 8 * (i * k + j))
theorem vecsA_flat (D : List Nat) (o k : Nat) : ∀ n, (vecsA D o k n).flatten = numsA D o (n * k)
  | 0 => by simp [vecsA, numsA]
  | n + 1 => by
    have ih := vecsA_flat D o k n
    have e : vecsA D o k (n + 1) = vecsA D o k n ++ [(List.range k).map fun j => numA D (o + 8 * (n * k + j))] := by unfold vecsA; rw [List.range_succ, List.map_append]; rfl
    rw [e, List.flatten_append, ih]
    unfold numsA
    rw [Nat.succ_mul, List.range_add, List.map_append, List.map_map]
    simp
/-- The program that the bytes are, if they are one. -/
def decP (D : List Nat) : Pg where
  n1 := cntA D 2
  z1 := rowsA D 4 3
  n2 := cntA D (o1 D)
  z2 := rowsA D (o1 D + 2) 3
  n3 := cntA D (o2 D)
  z3 := rowsA D (o2 D + 2) 2
  rg := numA D (o3 D)
  se := numsA D (o4 D + 2) (cntA D (o4 D))
  tt := numsA D (o5 D + 2) (cntA D (o5 D))
  ve := vecsA D (o6 D + 2) (cntA D (o5 D)) (cntA D (o6 D))
  n8 := cntA D (o7 D)
  z8 := rowsA D (o7 D + 2) 2
  cl := numA D (o8 D)
/-- Are the bytes a program's? -/
def DecOk (D : List Nat) : Prop := D.take 2 = [83, 66] ∧ o9 D = D.length ∧ MayP (decP D)
instance (D : List Nat) : Decidable (DecOk D) := by unfold DecOk; exact inferInstance
theorem sec_back {D : List Nat} {o m n : Nat} {l : List Int} {r : List Nat} (hb : ∀ b ∈ D, b < 256) (hn : n = cntA D o) (hl : l = numsA D (o + 2) m) (ho : o + 2 + 8 * m ≤ D.length) (hr : r = D.drop (o + 2 + 8 * m)) : secB n l ++ r = D.drop o := by
  subst hn hl hr
  unfold secB
  have e1 : D.drop (o + 2 + 8 * m) = (D.drop (o + 2)).drop (8 * m) := by rw [List.drop_drop]
  have e2 : D.drop (o + 2) = (D.drop o).drop 2 := by rw [List.drop_drop]
  rw [cntA_back hb (by omega), numsA_flat D (o + 2) m hb (by omega), List.append_assoc, e1, List.take_append_drop, e2, List.take_append_drop]
theorem num_back {D : List Nat} {o : Nat} {x : Int} {r : List Nat} (hb : ∀ b ∈ D, b < 256) (hx : x = numA D o) (ho : o + 8 ≤ D.length) (hr : r = D.drop (o + 8)) : num8 x ++ r = D.drop o := by
  subst hx hr
  unfold numA
  rw [num8_of8 (by rw [List.length_drop]; omega) (fun b h => hb b (List.mem_of_mem_drop h)), ← List.drop_drop, List.take_append_drop]
/-! What is read is written so again. -/
set_option maxHeartbeats 4000000 in
theorem enc_dec {D : List Nat} (hb : ∀ b ∈ D, b < 256) (h2 : D.take 2 = [83, 66]) (h9 : o9 D = D.length) : encL (decP D) = D := by
  have e1 := eo1 D
  have e2 := eo2 D
  have e3 := eo3 D
  have e4 := eo4 D
  have e5 := eo5 D
  have e6 := eo6 D
  have e7 := eo7 D
  have e8 := eo8 D
  have e9 := eo9 D
  have s9 : num8 (decP D).cl = D.drop (o8 D) := by
    have := num_back (r := []) hb (x := (decP D).cl) (o := o8 D) rfl (by omega) (by rw [List.drop_eq_nil_of_le (by omega)])
    rw [List.append_nil] at this; exact this
  have s8 : secB (decP D).n8 (flatI 2 (decP D).n8 (decP D).z8) ++ num8 (decP D).cl = D.drop (o7 D) :=
    sec_back (m := cntA D (o7 D) * 2) hb rfl (flatI_rows _ _ _ _) (by omega) (s9.trans (drop_eq (by omega)))
  have s7 : secB (decP D).ve.length (decP D).ve.flatten ++ (secB (decP D).n8 (flatI 2 (decP D).n8 (decP D).z8) ++ num8 (decP D).cl) = D.drop (o6 D) :=
    sec_back (m := cntA D (o6 D) * cntA D (o5 D)) hb (by simp [decP, vecsA]) (vecsA_flat _ _ _ _) (by omega) (s8.trans (drop_eq (by omega)))
  have s6 : secB (decP D).tt.length (decP D).tt ++ (secB (decP D).ve.length (decP D).ve.flatten ++ (secB (decP D).n8 (flatI 2 (decP D).n8 (decP D).z8) ++ num8 (decP D).cl)) = D.drop (o5 D) :=
    sec_back (m := cntA D (o5 D)) hb (numsA_length D (o5 D + 2) (cntA D (o5 D))) rfl (by omega) (s7.trans (drop_eq (by omega)))
  have s5 : secB (decP D).se.length (decP D).se ++ (secB (decP D).tt.length (decP D).tt ++ (secB (decP D).ve.length (decP D).ve.flatten ++ (secB (decP D).n8 (flatI 2 (decP D).n8 (decP D).z8) ++ num8 (decP D).cl))) = D.drop (o4 D) :=
    sec_back (m := cntA D (o4 D)) hb (numsA_length D (o4 D + 2) (cntA D (o4 D))) rfl (by omega) (s6.trans (drop_eq (by omega)))
  have s4 := num_back (x := (decP D).rg) (o := o3 D) hb rfl (by omega) (s5.trans (drop_eq (by omega)))
  have s3 := sec_back (n := (decP D).n3) (l := flatI 2 (decP D).n3 (decP D).z3) (o := o2 D) (m := cntA D (o2 D) * 2) hb rfl (flatI_rows _ _ _ _) (by omega) (s4.trans (drop_eq (by omega)))
  have s2 := sec_back (n := (decP D).n2) (l := flatI 3 (decP D).n2 (decP D).z2) (o := o1 D) (m := cntA D (o1 D) * 3) hb rfl (flatI_rows _ _ _ _) (by omega) (s3.trans (drop_eq (by omega)))
  have s1 := sec_back (n := (decP D).n1) (l := flatI 3 (decP D).n1 (decP D).z1) (o := 2) (m := cntA D 2 * 3) hb rfl (flatI_rows _ _ _ _) (by omega) (s2.trans (drop_eq (by omega)))
  unfold encL
  rw [s1, ← h2, List.take_append_drop]
/-- What is written is read. -/
theorem sec_of {D : List Nat} {o n : Nat} {l : List Int} {r : List Nat} (hn : n < 65536) (hl : ∀ x ∈ l, InI x) (h : D.drop o = secB n l ++ r) : cntA D o = n ∧ numsA D (o + 2) l.length = l ∧ D.drop (o + 2 + 8 * l.length) = r := by
  unfold secB at h
  rw [List.append_assoc] at h
  obtain ⟨h1, h2⟩ := cntA_of hn h
  exact ⟨h1, numsA_of D l _ r hl h2⟩
theorem num_of {D : List Nat} {o : Nat} {x : Int} {r : List Nat} (hx : InI x) (h : D.drop o = num8 x ++ r) : numA D o = x ∧ D.drop (o + 8) = r := by
  refine ⟨by unfold numA; rw [h]; exact of8_num8 hx r, ?_⟩
  rw [← List.drop_drop, h, List.drop_append_of_le_length (by rw [num8_length]; omega), List.drop_eq_nil_of_le (by rw [num8_length]; omega), List.nil_append]
theorem flatten_len (c : Nat) : ∀ (l : List (List Int)), (∀ v ∈ l, v.length = c) → l.flatten.length = l.length * c
  | [], _ => by simp
  | v :: l, h => by
    rw [List.flatten_cons, List.length_append, flatten_len c l (fun u hu => h u (List.mem_cons_of_mem _ hu)), h v (List.mem_cons_self ..), List.length_cons, Nat.succ_mul]; omega
theorem flatten_inj (c : Nat) : ∀ (l m : List (List Int)), l.length = m.length → (∀ v ∈ l, v.length = c) → (∀ v ∈ m, v.length = c) → l.flatten = m.flatten → l = m
  | [], [], _, _, _, _ => rfl
  | [], _ :: _, h, _, _, _ => by simp at h
  | _ :: _, [], h, _, _, _ => by simp at h
  | v :: l, u :: m, h, h1, h2, h3 => by
    rw [List.flatten_cons, List.flatten_cons] at h3
    obtain ⟨rfl, h4⟩ := List.append_inj h3 (by rw [h1 v (List.mem_cons_self ..), h2 u (List.mem_cons_self ..)])
    rw [flatten_inj c l m (by simpa using h) (fun x hx => h1 x (List.mem_cons_of_mem _ hx)) (fun x hx => h2 x (List.mem_cons_of_mem _ hx)) h4]
set_option maxHeartbeats 4000000 in
theorem dec_enc {P : Pg} (hm : MayP P) (hi : InP P) : DecOk (encL P) ∧ SameP P (decP (encL P)) := by
  obtain ⟨m1, m2, m2', m3, m5, m6, m7, m8, mv⟩ := id hm
  generalize hD : encL P = D
  have h0 : D.drop 2 = secB P.n1 (flatI 3 P.n1 P.z1) ++ (secB P.n2 (flatI 3 P.n2 P.z2) ++ (secB P.n3 (flatI 2 P.n3 P.z3) ++ (num8 P.rg ++ (secB P.se.length P.se ++ (secB P.tt.length P.tt ++ (secB P.ve.length P.ve.flatten ++ (secB P.n8 (flatI 2 P.n8 P.z8) ++ num8 P.cl))))))) := by rw [← hD]; rfl
  obtain ⟨c1, d1, r1⟩ := sec_of (by omega) (flatI_mem hi.z1) h0
  rw [flatI_length] at r1 d1
  have q1 : 2 + 2 + 8 * (P.n1 * 3) = o1 D := by rw [eo1, c1]; omega
  rw [q1] at r1
  obtain ⟨c2, d2, r2⟩ := sec_of (by omega) (flatI_mem hi.z2) r1
  rw [flatI_length] at r2 d2
  have q2 : o1 D + 2 + 8 * (P.n2 * 3) = o2 D := by rw [eo2, c2]; omega
  rw [q2] at r2
  obtain ⟨c3, d3, r3⟩ := sec_of (by omega) (flatI_mem hi.z3) r2
  rw [flatI_length] at r3 d3
  have q3 : o2 D + 2 + 8 * (P.n3 * 2) = o3 D := by rw [eo3, c3]; omega
  rw [q3] at r3
  obtain ⟨d4, r4⟩ := num_of hi.rg r3
  have q4 : o3 D + 8 = o4 D := (eo4 D).symm
  rw [q4] at r4
  obtain ⟨c5, d5, r5⟩ := sec_of (by omega) hi.se r4
  have q5 : o4 D + 2 + 8 * P.se.length = o5 D := by rw [eo5, c5]
  rw [q5] at r5
  obtain ⟨c6, d6, r6⟩ := sec_of (by omega) hi.tt r5
  have q6 : o5 D + 2 + 8 * P.tt.length = o6 D := by rw [eo6, c6]
  rw [q6] at r6
  obtain ⟨c7, d7, r7⟩ := sec_of (by omega) (fun x hx => by obtain ⟨l, hl, hx⟩ := List.mem_flatten.1 hx; exact hi.ve l hl x hx) r6
  rw [flatten_len _ _ mv] at r7 d7
  have q7 : o6 D + 2 + 8 * (P.ve.length * P.tt.length) = o7 D := by rw [eo7, c7, c6]
  rw [q7] at r7
  obtain ⟨c8, d8, r8⟩ := sec_of (by omega) (flatI_mem hi.z8) r7
  rw [flatI_length] at r8 d8
  have q8 : o7 D + 2 + 8 * (P.n8 * 2) = o8 D := by rw [eo8, c8]; omega
  rw [q8] at r8
  obtain ⟨d9, r9⟩ := num_of (r := []) hi.cl (by rw [r8, List.append_nil])
  have hlen : D.length = o8 D + 8 := by
    have h1 := congrArg List.length r8
    rw [List.length_drop, num8_length] at h1
    omega
  have hve : vecsA D (o6 D + 2) P.tt.length P.ve.length = P.ve := by
    refine flatten_inj P.tt.length _ _ (by simp [vecsA]) (fun v hv => ?_) mv (by rw [vecsA_flat]; exact d7)
    obtain ⟨i, _, rfl⟩ := List.mem_map.1 hv
    simp
  have hs : SameP P (decP D) := {
    n1 := c1.symm
    z1 := flatI_inj (by show _ = flatI 3 P.n1 (rowsA D 4 3); rw [flatI_rows]; exact d1.symm)
    n2 := c2.symm
    z2 := flatI_inj (by show _ = flatI 3 P.n2 (rowsA D (o1 D + 2) 3); rw [flatI_rows]; exact d2.symm)
    n3 := c3.symm
    z3 := flatI_inj (by show _ = flatI 2 P.n3 (rowsA D (o2 D + 2) 2); rw [flatI_rows]; exact d3.symm)
    rg := d4.symm
    se := by show _ = numsA D (o4 D + 2) (cntA D (o4 D)); rw [c5]; exact d5.symm
    tt := by show _ = numsA D (o5 D + 2) (cntA D (o5 D)); rw [c6]; exact d6.symm
    ve := by show _ = vecsA D (o6 D + 2) (cntA D (o5 D)) (cntA D (o6 D)); rw [c6, c7]; exact hve.symm
    n8 := c8.symm
    z8 := flatI_inj (by show _ = flatI 2 P.n8 (rowsA D (o7 D + 2) 2); rw [flatI_rows]; exact d8.symm)
    cl := d9.symm }
  exact ⟨⟨by rw [← hD]; rfl, (eo9 D).trans hlen.symm, hs.may hm⟩, hs⟩
theorem cntA_prefix {D E : List Nat} {o : Nat} (h : o + 2 ≤ D.length) : cntA (D ++ E) o = cntA D o := by
  unfold cntA
  rw [List.drop_append_of_le_length (by omega), List.take_append_of_le_length (by rw [List.length_drop]; omega)]
/-- Bytes of which a beginning is a program are none with more behind it. -/
theorem o9_prefix {D E : List Nat} (h : o9 D ≤ D.length) : o9 (D ++ E) = o9 D := by
  have e1 := eo1 D
  have e2 := eo2 D
  have e3 := eo3 D
  have e4 := eo4 D
  have e5 := eo5 D
  have e6 := eo6 D
  have e7 := eo7 D
  have e8 := eo8 D
  have e9 := eo9 D
  have q1 : o1 (D ++ E) = o1 D := by rw [eo1, eo1, cntA_prefix (by omega)]
  have q2 : o2 (D ++ E) = o2 D := by rw [eo2, eo2, q1, cntA_prefix (by omega)]
  have q3 : o3 (D ++ E) = o3 D := by rw [eo3, eo3, q2, cntA_prefix (by omega)]
  have q4 : o4 (D ++ E) = o4 D := by rw [eo4, eo4, q3]
  have q5 : o5 (D ++ E) = o5 D := by rw [eo5, eo5, q4, cntA_prefix (by omega)]
  have q6 : o6 (D ++ E) = o6 D := by rw [eo6, eo6, q5, cntA_prefix (by omega)]
  have q7 : o7 (D ++ E) = o7 D := by rw [eo7, eo7, q6, q5, cntA_prefix (by omega), cntA_prefix (by omega)]
  have q8 : o8 (D ++ E) = o8 D := by rw [eo8, eo8, q7, cntA_prefix (by omega)]
  rw [eo9, eo9, q8]
theorem dec_more {D E : List Nat} (h : DecOk D) (hE : E ≠ []) : ¬ DecOk (D ++ E) := fun hx => by
  have h1 := o9_prefix (E := E) (D := D) (by rw [h.2.1]; exact Nat.le_refl _)
  have h2 := hx.2.1
  rw [h1, h.2.1, List.length_append] at h2
  exact hE (List.eq_nil_of_length_eq_zero (by omega))
theorem dec_cut {D : List Nat} {k : Nat} (h : DecOk D) (hk : k < D.length) : ¬ DecOk (D.take k) := fun hx => by
  have := dec_more hx (E := D.drop k) (fun e => by have := congrArg List.length e; rw [List.length_drop] at this; simp at this; omega)
  rw [List.take_append_drop] at this
  exact this h
end Go.Proofs.YtckppinobkkegaaDoor
