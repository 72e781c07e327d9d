/-
  The banker, plainly: who can come next, orders, the greedy order; an order exists just if the greedy one does.
-/
import Derived.Test.YtjgdkaedfnihaaaRW
set_option linter.unusedVariables false
namespace Go.Proofs.Ytjgdkaedfnihaaa
open Go.RowKit

/-! Sums over lists. -/
def sumF (f : Int → Int) (l : List Int) : Int := l.foldr (fun i s => f i + s) 0
theorem sumF_nil (f : Int → Int) : sumF f [] = 0 := rfl
theorem sumF_cons (f : Int → Int) (a : Int) (l : List Int) : sumF f (a :: l) = f a + sumF f l := rfl
theorem sumF_snoc (f : Int → Int) (l : List Int) (a : Int) : sumF f (l ++ [a]) = sumF f l + f a := by
  induction l with
  | nil => simp [sumF]
  | cons b l ih => rw [List.cons_append, sumF_cons, sumF_cons, ih]; omega
theorem sumF_perm {f : Int → Int} {l l' : List Int} (h : l.Perm l') : sumF f l = sumF f l' := by
  induction h with
  | nil => rfl
  | cons a _ ih => rw [sumF_cons, sumF_cons, ih]
  | swap a b l => simp only [sumF_cons]; omega
  | trans _ _ h1 h2 => rw [h1, h2]
theorem sumF_nonneg {f : Int → Int} (hf : ∀ i, 0 ≤ f i) : ∀ l : List Int, 0 ≤ sumF f l
  | [] => by simp [sumF]
  | a :: l => by rw [sumF_cons]; have := hf a; have := sumF_nonneg hf l; omega
/-- Who has each of a list without twins has as much. -/
theorem sumF_sub {f : Int → Int} (hf : ∀ i, 0 ≤ f i) : ∀ (A B : List Int), A.Nodup → (∀ i, i ∈ A → i ∈ B) → sumF f A ≤ sumF f B
  | [], B, _, _ => by rw [sumF_nil]; exact sumF_nonneg hf B
  | a :: A, B, hn, hs => by
    rw [List.nodup_cons] at hn
    have ha : a ∈ B := hs a (by simp)
    rw [sumF_cons, sumF_perm (List.perm_cons_erase ha), sumF_cons]
    have := sumF_sub hf A (B.erase a) hn.2 (fun i hi => by
      have hne : i ≠ a := fun e => hn.1 (e ▸ hi)
      exact (List.mem_erase_of_ne hne).2 (hs i (by simp [hi])))
    omega
theorem sumF_one (l : List Int) : sumF (fun _ => 1) l = l.length := by
  induction l with
  | nil => rfl
  | cons a l ih => rw [sumF_cons, ih, List.length_cons]; omega
theorem len_sub {A B : List Int} (hn : A.Nodup) (hs : ∀ i, i ∈ A → i ∈ B) : A.length ≤ B.length := by
  have := sumF_sub (f := fun _ => 1) (fun _ => by omega) A B hn hs
  rw [sumF_one, sumF_one] at this
  omega
theorem sumF_congr {f g : Int → Int} {l : List Int} (h : ∀ i, i ∈ l → f i = g i) : sumF f l = sumF g l := by
  induction l with
  | nil => rfl
  | cons a l ih => rw [sumF_cons, sumF_cons, h a (by simp), ih (fun i hi => h i (by simp [hi]))]

/-! What there is, when some have completed. -/
def addW (W h : List Int) : List Int := (List.range W.length).map fun c => W.getD c 0 + h.getD c 0
theorem addW_length (W h : List Int) : (addW W h).length = W.length := by simp [addW]
theorem addW_get (W h : List Int) (k : Nat) (hk : k < W.length) : (addW W h).getD k 0 = W.getD k 0 + h.getD k 0 := by simp [addW, hk]
def canB (W c h : List Int) : Bool := (List.range W.length).all fun k => decide (c.getD k 0 - h.getD k 0 ≤ W.getD k 0)
theorem canB_iff {W c h : List Int} : canB W c h = true ↔ ∀ k, k < W.length → c.getD k 0 - h.getD k 0 ≤ W.getD k 0 := by
  simp [canB, List.all_eq_true]
def workL (xs : List Int) (hs : List (List Int)) (out : List Int) : List Int := out.foldl (fun W i => addW W (rw_ hs i.toNat)) xs
theorem workL_snoc (xs : List Int) (hs : List (List Int)) (out : List Int) (i : Int) : workL xs hs (out ++ [i]) = addW (workL xs hs out) (rw_ hs i.toNat) := by simp [workL]
theorem workL_length (xs : List Int) (hs : List (List Int)) (out : List Int) : (workL xs hs out).length = xs.length := by
  unfold workL
  induction out generalizing xs with
  | nil => rfl
  | cons a l ih => rw [List.foldl_cons, ih, addW_length]
theorem workL_get (xs : List Int) (hs : List (List Int)) (out : List Int) (k : Nat) (hk : k < xs.length) : (workL xs hs out).getD k 0 = xs.getD k 0 + sumF (fun i => (rw_ hs i.toNat).getD k 0) out := by
  unfold workL
  induction out generalizing xs with
  | nil => simp [sumF]
  | cons a l ih =>
    rw [List.foldl_cons, ih _ (by rw [addW_length]; exact hk), addW_get _ _ _ hk, sumF_cons]
    omega
/-- The least and the most that there can be. -/
theorem workL_bd {xs : List Int} {hs : List (List Int)} {out : List Int} {n : Nat} (hx : ∀ k, k < xs.length → 0 ≤ xs.getD k 0 ∧ xs.getD k 0 ≤ 1000) (hh : ∀ i, i ∈ out → ∀ k, k < xs.length → 0 ≤ (rw_ hs i.toNat).getD k 0 ∧ (rw_ hs i.toNat).getD k 0 ≤ 1000) (k : Nat) (hk : k < xs.length) :
    0 ≤ (workL xs hs out).getD k 0 ∧ (workL xs hs out).getD k 0 ≤ 1000 + 1000 * out.length := by
  rw [workL_get _ _ _ _ hk]
  have : ∀ l : List Int, (∀ i, i ∈ l → i ∈ out) → 0 ≤ sumF (fun i => (rw_ hs i.toNat).getD k 0) l ∧ sumF (fun i => (rw_ hs i.toNat).getD k 0) l ≤ 1000 * l.length := by
    intro l
    induction l with
    | nil => intro _; simp [sumF]
    | cons a l ih =>
      intro hl
      have h1 := ih (fun i hi => hl i (by simp [hi]))
      have h2 := hh a (hl a (by simp)) k hk
      rw [sumF_cons, List.length_cons]
      push_cast
      omega
  have h1 := this out (fun _ h => h)
  have h2 := hx k hk
  omega

/-! Orders. -/
def freeB (n : Nat) (out : List Int) (i : Int) : Bool := decide (0 ≤ i ∧ i < n ∧ i ∉ out)
section
variable (xs : List Int) (hs cs : List (List Int))
def stepB (out : List Int) (i : Int) : Bool := freeB hs.length out i && canB (workL xs hs out) (rw_ cs i.toNat) (rw_ hs i.toNat)
def comG (order : List Int) (k : Nat) : Bool := stepB xs hs cs (order.take k) (order.getD k 0)
def comA (order : List Int) (m : Nat) : Bool := (List.range m).all (comG xs hs cs order)
def comB (order : List Int) : Bool := decide (order.length = hs.length) && comA xs hs cs order order.length
def nextN (out : List Int) : Option Nat := (List.range hs.length).find? fun i => stepB xs hs cs out (i : Int)
def gro : Nat → Option (List Int)
  | 0 => some []
  | k + 1 => (gro k).bind fun out => (nextN xs hs cs out).map fun (i : Nat) => out ++ [(i : Int)]
end
section
variable {xs : List Int} {hs cs : List (List Int)}
theorem comA_iff {order : List Int} {m : Nat} : comA xs hs cs order m = true ↔ ∀ k, k < m → comG xs hs cs order k = true := by simp [comA, List.all_eq_true]
theorem comA_succ {order : List Int} {m : Nat} : comA xs hs cs order (m + 1) = (comA xs hs cs order m && comG xs hs cs order m) := by
  simp [comA, List.range_succ]
theorem comA_no {order : List Int} {m k : Nat} (hk : k < m) (h : comG xs hs cs order k = false) : comA xs hs cs order m = false := by
  cases hc : comA xs hs cs order m with
  | false => rfl
  | true => rw [comA_iff.1 hc k hk] at h; cases h
theorem gro_succ (k : Nat) : gro xs hs cs (k + 1) = (gro xs hs cs k).bind fun out => (nextN xs hs cs out).map fun (i : Nat) => out ++ [(i : Int)] := rfl
theorem gro_none {k m : Nat} (hm : k ≤ m) (h : gro xs hs cs k = none) : gro xs hs cs m = none := by
  induction m with
  | zero => have : k = 0 := by omega
            subst this; exact h
  | succ m ih =>
    by_cases e : k = m + 1
    · subst e; exact h
    · rw [gro_succ, ih (by omega)]; rfl
theorem gro_next {k : Nat} {out : List Int} (h : gro xs hs cs k = some out) : gro xs hs cs (k + 1) = (nextN xs hs cs out).map fun (i : Nat) => out ++ [(i : Int)] := by rw [gro_succ, h]; rfl
theorem nextN_some {out : List Int} {i : Nat} (hi : i < hs.length) (h : stepB xs hs cs out (i : Int) = true) (hno : ∀ j, j < i → stepB xs hs cs out (j : Int) = false) : nextN xs hs cs out = some i := by
  unfold nextN
  rw [List.find?_range_eq_some]
  exact ⟨h, by simpa using hi, fun j hj => by simp [hno j hj]⟩
theorem nextN_is {out : List Int} {i : Nat} (h : nextN xs hs cs out = some i) : i < hs.length ∧ stepB xs hs cs out (i : Int) = true := by
  unfold nextN at h
  rw [List.find?_range_eq_some] at h
  exact ⟨by simpa using h.2.1, h.1⟩
theorem nextN_none {out : List Int} (hno : ∀ j, j < hs.length → stepB xs hs cs out (j : Int) = false) : nextN xs hs cs out = none := by
  unfold nextN
  rw [List.find?_eq_none]
  intro j hj
  simp [hno j (by simpa using hj)]
theorem gro_len : ∀ {k : Nat} {out : List Int}, gro xs hs cs k = some out → out.length = k
  | 0, out, h => by cases h; rfl
  | k + 1, out, h => by
    rw [gro_succ] at h
    cases hk : gro xs hs cs k with
    | none => rw [hk] at h; cases h
    | some o =>
      rw [hk] at h
      cases hn : nextN xs hs cs o with
      | none => simp [hn] at h
      | some i => simp [hn] at h; rw [← h]; simp [gro_len hk]
theorem comG_pre {a b : List Int} {k : Nat} (hk : k < a.length) : comG xs hs cs (a ++ b) k = comG xs hs cs a k := by
  unfold comG
  rw [List.take_append_of_le_length (by omega), List.getD_eq_getElem?_getD, List.getD_eq_getElem?_getD, List.getElem?_append_left hk]
theorem gro_com : ∀ {k : Nat} {out : List Int}, gro xs hs cs k = some out → ∀ j, j < k → comG xs hs cs out j = true
  | 0, out, h, j, hj => by omega
  | k + 1, out, h, j, hj => by
    rw [gro_succ] at h
    cases hk : gro xs hs cs k with
    | none => rw [hk] at h; cases h
    | some o =>
      rw [hk] at h
      cases hn : nextN xs hs cs o with
      | none => simp [hn] at h
      | some i =>
        simp [hn] at h
        rw [← h]
        have hl := gro_len hk
        by_cases e : j = k
        · subst e
          unfold comG
          rw [List.take_append_of_le_length (by omega), List.take_of_length_le (by omega), List.getD_eq_getElem?_getD, List.getElem?_append_right (by omega)]
          simpa [hl] using (nextN_is hn).2
        · rw [comG_pre (by omega)]
          exact gro_com hk j (by omega)
theorem gro_comB {out : List Int} (h : gro xs hs cs hs.length = some out) : comB xs hs cs out = true := by
  unfold comB
  have hl := gro_len h
  rw [dT hl, Bool.true_and, hl]
  exact comA_iff.2 (gro_com h)
theorem stepB_free {out : List Int} {i : Int} (h : stepB xs hs cs out i = true) : (0 ≤ i ∧ i < hs.length ∧ i ∉ out) ∧ canB (workL xs hs out) (rw_ cs i.toNat) (rw_ hs i.toNat) = true := by
  unfold stepB at h
  rw [Bool.and_eq_true] at h
  exact ⟨of_decide_eq_true h.1, h.2⟩
theorem stepB_of {out : List Int} {i : Int} (h : 0 ≤ i ∧ i < hs.length ∧ i ∉ out) (h2 : canB (workL xs hs out) (rw_ cs i.toNat) (rw_ hs i.toNat) = true) : stepB xs hs cs out i = true := by
  unfold stepB
  rw [h2, Bool.and_true]
  exact dT h
/-- An order has nobody twice, and all within. -/
theorem com_nodup {order : List Int} (h : ∀ k, k < order.length → comG xs hs cs order k = true) : order.Nodup := by
  rw [List.nodup_iff_pairwise_ne, List.pairwise_iff_getElem]
  intro i j hi hj hij e
  have := (stepB_free (h j hj)).1.2.2
  apply this
  rw [List.getD_eq_getElem?_getD, List.getElem?_eq_getElem hj]
  show order[j] ∈ _
  rw [← e, List.mem_take_iff_getElem]
  exact ⟨i, by omega, rfl⟩
theorem com_in {order : List Int} (h : ∀ k, k < order.length → comG xs hs cs order k = true) : ∀ i, i ∈ order → 0 ≤ i ∧ i < hs.length := by
  intro i hi
  obtain ⟨k, hk, e⟩ := List.getElem_of_mem hi
  have := (stepB_free (h k hk)).1
  rw [List.getD_eq_getElem?_getD, List.getElem?_eq_getElem hk] at this
  have e2 : (some order[k]).getD 0 = i := e
  rw [e2] at this
  exact ⟨this.1, this.2.1⟩
/-- WHERE SOME ORDER COMPLETES, THE GREEDY ONE DOES. -/
theorem gro_of_com (hh : ∀ (i k : Nat), 0 ≤ (rw_ hs i).getD k 0) {σ : List Int} (h : comB xs hs cs σ = true) : ∀ k, k ≤ hs.length → ∃ out, gro xs hs cs k = some out := by
  unfold comB at h
  rw [Bool.and_eq_true] at h
  have hl : σ.length = hs.length := of_decide_eq_true h.1
  have hc := comA_iff.1 h.2
  have hnd := com_nodup hc
  intro k
  induction k with
  | zero => exact fun _ => ⟨[], rfl⟩
  | succ k ih =>
    intro hk
    obtain ⟨out, ho⟩ := ih (by omega)
    have hlo := gro_len ho
    rw [gro_next ho]
    cases hn : nextN xs hs cs out with
    | some i => exact ⟨_, rfl⟩
    | none =>
      exfalso
      -- the first of the order that is not there yet
      have hex : ∃ j, j < σ.length ∧ σ.getD j 0 ∉ out := by
        by_cases hall : ∀ i, i ∈ σ → i ∈ out
        · have := len_sub hnd hall
          omega
        · simp only [Classical.not_forall] at hall
          obtain ⟨i, hi, hni⟩ := hall
          obtain ⟨j, hj, e⟩ := List.getElem_of_mem hi
          refine ⟨j, hj, ?_⟩
          rw [List.getD_eq_getElem?_getD, List.getElem?_eq_getElem hj]
          show σ[j] ∉ out
          rw [e]; exact hni
      obtain ⟨j, hj, hjo, hmin⟩ : ∃ j, j < σ.length ∧ σ.getD j 0 ∉ out ∧ ∀ j', j' < j → σ.getD j' 0 ∈ out := by
        obtain ⟨j, hj, hjo⟩ := hex
        induction j using Nat.strongRecOn with
        | _ j ihj =>
          by_cases hm : ∀ j', j' < j → σ.getD j' 0 ∈ out
          · exact ⟨j, hj, hjo, hm⟩
          · simp only [Classical.not_forall] at hm
            obtain ⟨j', hj', hno⟩ := hm
            exact ihj j' hj' (by omega) hno
      obtain ⟨⟨f1, f2, f3⟩, hcan⟩ := stepB_free (hc j hj)
      obtain ⟨i, hi⟩ : ∃ i : Nat, σ.getD j 0 = (i : Int) := ⟨(σ.getD j 0).toNat, by omega⟩
      rw [hi] at hjo f1 f2 f3 hcan
      have hst : stepB xs hs cs out (i : Int) = true := by
        refine stepB_of ⟨f1, f2, hjo⟩ (canB_iff.2 fun q hq => ?_)
        rw [workL_length] at hq
        have h1 := canB_iff.1 hcan q (by rw [workL_length]; exact hq)
        rw [workL_get _ _ _ _ hq] at h1 ⊢
        have h2 := sumF_sub (f := fun i => (rw_ hs i.toNat).getD q 0) (fun i => hh _ _) (σ.take j) out (hnd.sublist (List.take_sublist _ _)) (fun a ha => by
          obtain ⟨j', hj', e⟩ := List.mem_take_iff_getElem.1 ha
          have := hmin j' (by omega)
          rw [List.getD_eq_getElem?_getD, List.getElem?_eq_getElem (by omega)] at this
          have e2 : (some σ[j']).getD 0 = a := e
          rwa [e2] at this)
        omega
      unfold nextN at hn
      rw [List.find?_eq_none] at hn
      exact hn i (by simp; omega) hst
theorem safe_iff (hh : ∀ (i k : Nat), 0 ≤ (rw_ hs i).getD k 0) : (gro xs hs cs hs.length).isSome = true ↔ ∃ σ, comB xs hs cs σ = true := by
  constructor
  · intro h
    obtain ⟨out, ho⟩ := Option.isSome_iff_exists.1 h
    exact ⟨out, gro_comB ho⟩
  · rintro ⟨σ, h⟩
    obtain ⟨out, ho⟩ := gro_of_com hh h hs.length (Nat.le_refl _)
    rw [ho]; rfl
end
end Go.Proofs.Ytjgdkaedfnihaaa
