/-
  The banker, plainly: who can come next, orders, the greedy order; an order exists just if the greedy one does.
  Regions that draw their order, whose operations read what was there and whose callees make memory but touch nothing old: walked once, in the order of the text.
  Is it a state? The program's answer, and the reference's.
  slices.Clone, slices.Grow of nil, slices.Concat of two.
  Is it a state? The reference's answer; what it asks and adds.
  A map of the call's own: what is read of it, put into it, taken out of it. Its keys are told by an encoding, its elements are any values.
  What is left, when some processes have completed: the program's object.
  What is left, when some processes have completed: one completes.
  What is left, ahead of the first process.
-/
import Derived.Deep.QuietTactic
import Derived.BigQuiet
import Derived.MapKept
import Derived.Carry
import Derived.Deep.RegionHeld3
import Derived.Test.YticglfmmjgnicaaGreatYEB
set_option linter.unusedVariables false
set_option linter.unusedSimpArgs false
namespace Go.Proofs.YticglfmmjgnicaaGreat
open Go.RowKit

/-! Sums over lists. -/
def sumF (f : Int → Int) (l : List Int) : Int := l.foldr (fun i s => f i + s) 0
theorem sumF_nil (f : Int → Int) : sumF f [] = 0 := rfl
theorem sumF_cons (f : Int → Int) (a : Int) (l : List Int) : sumF f (a :: l) = f a + sumF f l := rfl
theorem sumF_snoc (f : Int → Int) (l : List Int) (a : Int) : sumF f (l ++ [a]) = sumF f l + f a := by
  induction l with
  | nil => simp [sumF]
  | cons b l ih => rw [List.cons_append, sumF_cons, sumF_cons, ih]; omega
theorem sumF_perm {f : Int → Int} {l l' : List Int} (h : l.Perm l') : sumF f l = sumF f l' := by
  induction h with
  | nil => rfl
  | cons a _ ih => rw [sumF_cons, sumF_cons, ih]
  | swap a b l => simp only [sumF_cons]; omega
  | trans _ _ h1 h2 => rw [h1, h2]
theorem sumF_nonneg {f : Int → Int} (hf : ∀ i, 0 ≤ f i) : ∀ l : List Int, 0 ≤ sumF f l
  | [] => by simp [sumF]
  | a :: l => by rw [sumF_cons]; have := hf a; have := sumF_nonneg hf l; omega
/-- Who has each of a list without twins has as much. -/
theorem sumF_sub {f : Int → Int} (hf : ∀ i, 0 ≤ f i) : ∀ (A B : List Int), A.Nodup → (∀ i, i ∈ A → i ∈ B) → sumF f A ≤ sumF f B
  | [], B, _, _ => by rw [sumF_nil]; exact sumF_nonneg hf B
  | a :: A, B, hn, hs => by
    rw [List.nodup_cons] at hn
    have ha : a ∈ B := hs a (by simp)
    rw [sumF_cons, sumF_perm (List.perm_cons_erase ha), sumF_cons]
    have := sumF_sub hf A (B.erase a) hn.2 (fun i hi => by
      have hne : i ≠ a := fun e => hn.1 (e ▸ hi)
      exact (List.mem_erase_of_ne hne).2 (hs i (by simp [hi])))
    omega
theorem sumF_one (l : List Int) : sumF (fun _ => 1) l = l.length := by
  induction l with
  | nil => rfl
  | cons a l ih => rw [sumF_cons, ih, List.length_cons]; omega
theorem len_sub {A B : List Int} (hn : A.Nodup) (hs : ∀ i, i ∈ A → i ∈ B) : A.length ≤ B.length := by
  have := sumF_sub (f := fun _ => 1) (fun _ => by omega) A B hn hs
  rw [sumF_one, sumF_one] at this
  omega
theorem sumF_congr {f g : Int → Int} {l : List Int} (h : ∀ i, i ∈ l → f i = g i) : sumF f l = sumF g l := by
  induction l with
  | nil => rfl
  | cons a l ih => rw [sumF_cons, sumF_cons, h a (by simp), ih (fun i hi => h i (by simp [hi]))]

/-! What there is, when some have completed. -/
def addW (W h : List Int) : List Int := (List.range W.length).map fun c => W.getD c 0 + h.getD c 0
theorem addW_length (W h : List Int) : (addW W h).length = W.length := by simp [addW]
theorem addW_get (W h : List Int) (k : Nat) (hk : k < W.length) : (addW W h).getD k 0 = W.getD k 0 + h.getD k 0 := by simp [addW, hk]
def canB (W c h : List Int) : Bool := (List.range W.length).all fun k => decide (c.getD k 0 - h.getD k 0 ≤ W.getD k 0)
theorem canB_iff {W c h : List Int} : canB W c h = true ↔ ∀ k, k < W.length → c.getD k 0 - h.getD k 0 ≤ W.getD k 0 := by
  simp [canB, List.all_eq_true]
def workL (xs : List Int) (hs : List (List Int)) (out : List Int) : List Int := out.foldl (fun W i => addW W (rw_ hs i.toNat)) xs
theorem workL_snoc (xs : List Int) (hs : List (List Int)) (out : List Int) (i : Int) : workL xs hs (out ++ [i]) = addW (workL xs hs out) (rw_ hs i.toNat) := by simp [workL]
theorem workL_length (xs : List Int) (hs : List (List Int)) (out : List Int) : (workL xs hs out).length = xs.length := by
  unfold workL
  induction out generalizing xs with
  | nil => rfl
  | cons a l ih => rw [List.foldl_cons, ih, addW_length]
theorem workL_get (xs : List Int) (hs : List (List Int)) (out : List Int) (k : Nat) (hk : k < xs.length) : (workL xs hs out).getD k 0 = xs.getD k 0 + sumF (fun i => (rw_ hs i.toNat).getD k 0) out := by
  unfold workL
  induction out generalizing xs with
  | nil => simp [sumF]
  | cons a l ih =>
    rw [List.foldl_cons, ih _ (by rw [addW_length]; exact hk), addW_get _ _ _ hk, sumF_cons]
    omega
/-- The least and the most that there can be. -/
theorem workL_bd {xs : List Int} {hs : List (List Int)} {out : List Int} {n : Nat} (hx : ∀ k, k < xs.length → 0 ≤ xs.getD k 0 ∧ xs.getD k 0 ≤ 1000) (hh : ∀ i, i ∈ out → ∀ k, k < xs.length → 0 ≤ (rw_ hs i.toNat).getD k 0 ∧ (rw_ hs i.toNat).getD k 0 ≤ 1000) (k : Nat) (hk : k < xs.length) :
    0 ≤ (workL xs hs out).getD k 0 ∧ (workL xs hs out).getD k 0 ≤ 1000 + 1000 * out.length := by
  rw [workL_get _ _ _ _ hk]
  have : ∀ l : List Int, (∀ i, i ∈ l → i ∈ out) → 0 ≤ sumF (fun i => (rw_ hs i.toNat).getD k 0) l ∧ sumF (fun i => (rw_ hs i.toNat).getD k 0) l ≤ 1000 * l.length := by
    intro l
    induction l with
    | nil => intro _; simp [sumF]
    | cons a l ih =>
      intro hl
      have h1 := ih (fun i hi => hl i (by simp [hi]))
      have h2 := hh a (hl a (by simp)) k hk
      rw [sumF_cons, List.length_cons]
      push_cast
      omega
  have h1 := this out (fun _ h => h)
  have h2 := hx k hk
  omega

/-! Orders. -/
def freeB (n : Nat) (out : List Int) (i : Int) : Bool := decide (0 ≤ i ∧ i < n ∧ i ∉ out)
section
variable (xs : List Int) (hs cs : List (List Int))
def stepB (out : List Int) (i : Int) : Bool := freeB hs.length out i && canB (workL xs hs out) (rw_ cs i.toNat) (rw_ hs i.toNat)
def comG (order : List Int) (k : Nat) : Bool := stepB xs hs cs (order.take k) (order.getD k 0)
def comA (order : List Int) (m : Nat) : Bool := (List.range m).all (comG xs hs cs order)
def comB (order : List Int) : Bool := decide (order.length = hs.length) && comA xs hs cs order order.length
def nextN (out : List Int) : Option Nat := (List.range hs.length).find? fun i => stepB xs hs cs out (i : Int)
def gro : Nat → Option (List Int)
  | 0 => some []
  | k + 1 => (gro k).bind fun out => (nextN xs hs cs out).map fun (i : Nat) => out ++ [(i : Int)]
end
section
variable {xs : List Int} {hs cs : List (List Int)}
theorem comA_iff {order : List Int} {m : Nat} : comA xs hs cs order m = true ↔ ∀ k, k < m → comG xs hs cs order k = true := by simp [comA, List.all_eq_true]
theorem gro_succ (k : Nat) : gro xs hs cs (k + 1) = (gro xs hs cs k).bind fun out => (nextN xs hs cs out).map fun (i : Nat) => out ++ [(i : Int)] := rfl
theorem gro_none {k m : Nat} (hm : k ≤ m) (h : gro xs hs cs k = none) : gro xs hs cs m = none := by
  induction m with
  | zero => have : k = 0 := by omega
            subst this; exact h
  | succ m ih =>
    by_cases e : k = m + 1
    · subst e; exact h
    · rw [gro_succ, ih (by omega)]; rfl
theorem gro_next {k : Nat} {out : List Int} (h : gro xs hs cs k = some out) : gro xs hs cs (k + 1) = (nextN xs hs cs out).map fun (i : Nat) => out ++ [(i : Int)] := by rw [gro_succ, h]; rfl
theorem nextN_some {out : List Int} {i : Nat} (hi : i < hs.length) (h : stepB xs hs cs out (i : Int) = true) (hno : ∀ j, j < i → stepB xs hs cs out (j : Int) = false) : nextN xs hs cs out = some i := by
  unfold nextN
  rw [List.find?_range_eq_some]
  exact ⟨h, by simpa using hi, fun j hj => by simp [hno j hj]⟩
theorem nextN_is {out : List Int} {i : Nat} (h : nextN xs hs cs out = some i) : i < hs.length ∧ stepB xs hs cs out (i : Int) = true := by
  unfold nextN at h
  rw [List.find?_range_eq_some] at h
  exact ⟨by simpa using h.2.1, h.1⟩
theorem nextN_none {out : List Int} (hno : ∀ j, j < hs.length → stepB xs hs cs out (j : Int) = false) : nextN xs hs cs out = none := by
  unfold nextN
  rw [List.find?_eq_none]
  intro j hj
  simp [hno j (by simpa using hj)]
theorem gro_len : ∀ {k : Nat} {out : List Int}, gro xs hs cs k = some out → out.length = k
  | 0, out, h => by cases h; rfl
  | k + 1, out, h => by
    rw [gro_succ] at h
    cases hk : gro xs hs cs k with
    | none => rw [hk] at h; cases h
    | some o =>
      rw [hk] at h
      cases hn : nextN xs hs cs o with
      | none => simp [hn] at h
      | some i => simp [hn] at h; rw [← h]; simp [gro_len hk]
theorem comG_pre {a b : List Int} {k : Nat} (hk : k < a.length) : comG xs hs cs (a ++ b) k = comG xs hs cs a k := by
  unfold comG
  rw [List.take_append_of_le_length (by omega), List.getD_eq_getElem?_getD, List.getD_eq_getElem?_getD, List.getElem?_append_left hk]
theorem gro_com : ∀ {k : Nat} {out : List Int}, gro xs hs cs k = some out → ∀ j, j < k → comG xs hs cs out j = true
  | 0, out, h, j, hj => by omega
  | k + 1, out, h, j, hj => by
    rw [gro_succ] at h
    cases hk : gro xs hs cs k with
    | none => rw [hk] at h; cases h
    | some o =>
      rw [hk] at h
      cases hn : nextN xs hs cs o with
      | none => simp [hn] at h
      | some i =>
        simp [hn] at h
        rw [← h]
        have hl := gro_len hk
        by_cases e : j = k
        · subst e
          unfold comG
          rw [List.take_append_of_le_length (by omega), List.take_of_length_le (by omega), List.getD_eq_getElem?_getD, List.getElem?_append_right (by omega)]
          simpa [hl] using (nextN_is hn).2
        · rw [comG_pre (by omega)]
          exact gro_com hk j (by omega)
theorem gro_comB {out : List Int} (h : gro xs hs cs hs.length = some out) : comB xs hs cs out = true := by
  unfold comB
  have hl := gro_len h
  rw [dT hl, Bool.true_and, hl]
  exact comA_iff.2 (gro_com h)
theorem stepB_free {out : List Int} {i : Int} (h : stepB xs hs cs out i = true) : (0 ≤ i ∧ i < hs.length ∧ i ∉ out) ∧ canB (workL xs hs out) (rw_ cs i.toNat) (rw_ hs i.toNat) = true := by
  unfold stepB at h
  rw [Bool.and_eq_true] at h
  exact ⟨of_decide_eq_true h.1, h.2⟩
theorem stepB_of {out : List Int} {i : Int} (h : 0 ≤ i ∧ i < hs.length ∧ i ∉ out) (h2 : canB (workL xs hs out) (rw_ cs i.toNat) (rw_ hs i.toNat) = true) : stepB xs hs cs out i = true := by
  unfold stepB
  rw [h2, Bool.and_true]
  exact dT h
/-- An order has nobody twice, and all within. -/
theorem com_nodup {order : List Int} (h : ∀ k, k < order.length → comG xs hs cs order k = true) : order.Nodup := by
  rw [List.nodup_iff_pairwise_ne, List.pairwise_iff_getElem]
  intro i j hi hj hij e
  have := (stepB_free (h j hj)).1.2.2
  apply this
  rw [List.getD_eq_getElem?_getD, List.getElem?_eq_getElem hj]
  show order[j] ∈ _
  rw [← e, List.mem_take_iff_getElem]
  exact ⟨i, by omega, rfl⟩
theorem com_in {order : List Int} (h : ∀ k, k < order.length → comG xs hs cs order k = true) : ∀ i, i ∈ order → 0 ≤ i ∧ i < hs.length := by
  intro i hi
  obtain ⟨k, hk, e⟩ := List.getElem_of_mem hi
  have := (stepB_free (h k hk)).1
  rw [List.getD_eq_getElem?_getD, List.getElem?_eq_getElem hk] at this
  have e2 : (some order[k]).getD 0 = i := e
  rw [e2] at this
  exact ⟨this.1, this.2.1⟩
/-- WHERE SOME ORDER COMPLETES, THE GREEDY ONE DOES. -/
theorem gro_of_com (hh : ∀ (i k : Nat), 0 ≤ (rw_ hs i).getD k 0) {σ : List Int} (h : comB xs hs cs σ = true) : ∀ k, k ≤ hs.length → ∃ out, gro xs hs cs k = some out := by
  unfold comB at h
  rw [Bool.and_eq_true] at h
  have hl : σ.length = hs.length := of_decide_eq_true h.1
  have hc := comA_iff.1 h.2
  have hnd := com_nodup hc
  intro k
  induction k with
  | zero => exact fun _ => ⟨[], rfl⟩
  | succ k ih =>
    intro hk
    obtain ⟨out, ho⟩ := ih (by omega)
    have hlo := gro_len ho
    rw [gro_next ho]
    cases hn : nextN xs hs cs out with
    | some i => exact ⟨_, rfl⟩
    | none =>
      exfalso
      -- the first of the order that is not there yet
      have hex : ∃ j, j < σ.length ∧ σ.getD j 0 ∉ out := by
        by_cases hall : ∀ i, i ∈ σ → i ∈ out
        · have := len_sub hnd hall
          omega
        · simp only [Classical.not_forall] at hall
          obtain ⟨i, hi, hni⟩ := hall
          obtain ⟨j, hj, e⟩ := List.getElem_of_mem hi
          refine ⟨j, hj, ?_⟩
          rw [List.getD_eq_getElem?_getD, List.getElem?_eq_getElem hj]
          show σ[j] ∉ out
          rw [e]; exact hni
      obtain ⟨j, hj, hjo, hmin⟩ : ∃ j, j < σ.length ∧ σ.getD j 0 ∉ out ∧ ∀ j', j' < j → σ.getD j' 0 ∈ out := by
        obtain ⟨j, hj, hjo⟩ := hex
        induction j using Nat.strongRecOn with
        | _ j ihj =>
          by_cases hm : ∀ j', j' < j → σ.getD j' 0 ∈ out
          · exact ⟨j, hj, hjo, hm⟩
          · simp only [Classical.not_forall] at hm
            obtain ⟨j', hj', hno⟩ := hm
            exact ihj j' hj' (by omega) hno
      obtain ⟨⟨f1, f2, f3⟩, hcan⟩ := stepB_free (hc j hj)
      obtain ⟨i, hi⟩ : ∃ i : Nat, σ.getD j 0 = (i : Int) := ⟨(σ.getD j 0).toNat, by omega⟩
      rw [hi] at hjo f1 f2 f3 hcan
      have hst : stepB xs hs cs out (i : Int) = true := by
        refine stepB_of ⟨f1, f2, hjo⟩ (canB_iff.2 fun q hq => ?_)
        rw [workL_length] at hq
        have h1 := canB_iff.1 hcan q (by rw [workL_length]; exact hq)
        rw [workL_get _ _ _ _ hq] at h1 ⊢
        have h2 := sumF_sub (f := fun i => (rw_ hs i.toNat).getD q 0) (fun i => hh _ _) (σ.take j) out (hnd.sublist (List.take_sublist _ _)) (fun a ha => by
          obtain ⟨j', hj', e⟩ := List.mem_take_iff_getElem.1 ha
          have := hmin j' (by omega)
          rw [List.getD_eq_getElem?_getD, List.getElem?_eq_getElem (by omega)] at this
          have e2 : (some σ[j']).getD 0 = a := e
          rwa [e2] at this)
        omega
      unfold nextN at hn
      rw [List.find?_eq_none] at hn
      exact hn i (by simp; omega) hst
theorem safe_iff (hh : ∀ (i k : Nat), 0 ≤ (rw_ hs i).getD k 0) : (gro xs hs cs hs.length).isSome = true ↔ ∃ σ, comB xs hs cs σ = true := by
  constructor
  · intro h
    obtain ⟨out, ho⟩ := Option.isSome_iff_exists.1 h
    exact ⟨out, gro_comB ho⟩
  · rintro ⟨σ, h⟩
    obtain ⟨out, ho⟩ := gro_of_com hh h hs.length (Nat.le_refl _)
    rw [ho]; rfl
end
end Go.Proofs.YticglfmmjgnicaaGreat

set_option linter.unusedVariables false
namespace Go.Proofs.YticglfmmjgnicaaGreat
open Go.RowKit

/-- A world that comes later: of what was there nothing has turned. (A structure of its own, so that the walk's simp keeps it in one piece.) -/
structure Later (w : World) where
  world : World
  ok : Touch [] w world
def Later.of {w w' : World} (h : Touch [] w w') : Later w := ⟨w', h⟩

theorem wp_region_later {P : Program} {id : Nat} {Q : Exit → Act → World → Prop} {a : Act} {w : World} {l : List Oper} (hm : P.follows .mixedOrders = true) (hB : Region.lexB .any l.toArray = true)
    (h : wpQuiet P l.toArray (fun w' => ∃ p : Later w, w' = p.world) (fun a' => ∀ w', (∃ p : Later w, w' = p.world) → Q .normal a' w') l a) : (Code.region id l.toArray true).wp P Q a w :=
  wp_region_quiet (C := fun w' => ∃ p : Later w, w' = p.world) hm hB ⟨⟨w.drew, (Touch.refl [] w).drew⟩, rfl⟩ (by simpa using h)

theorem Later.cell {w : World} {a : Addr} {v : Value} (p : Later w) (h : w.cell? a = some v) : p.world.cell? a = some v := by
  rw [World.cell?_of_block (p.ok.block a.block (block_lt_of_cell h) (by simp))]; exact h
theorem Later.blk {w : World} {b : Nat} {c : Array Value} {t : TypeId} (p : Later w) (h : Blk w b c t) : Blk p.world b c t := h.touch p.ok (by simp)

/-- A callee's contract, met in a later world. -/
theorem Later.met {P : Program} {f : FuncId} {args : Array Value} {w : World} {p : Later w} {v : Value}
    (h : Calls P f args p.world fun e w' => e = .returned v ∧ Touch [] p.world w') : Calls P f args p.world fun e w'' => e = .returned v ∧ ∃ q : Later w, w'' = q.world :=
  h.mono fun _ w' ⟨he, ht⟩ => ⟨he, ⟨w', p.ok.trans ht⟩, rfl⟩
theorem Later.same {P : Program} {f : FuncId} {args : Array Value} {w : World} {p : Later w} {v : Value}
    (h : Calls P f args p.world fun e w' => e = .returned v ∧ p.world = w') : Calls P f args p.world fun e w'' => e = .returned v ∧ ∃ q : Later w, w'' = q.world :=
  h.mono fun _ w' ⟨he, ht⟩ => ⟨he, p, ht.symm⟩
theorem Later.below {P : Program} {f : FuncId} {args : Array Value} {w : World} {p : Later w} {v : Value}
    (h : Calls P f args p.world fun e w' => e = .returned v ∧ Below p.world.heap.size p.world w') : Calls P f args p.world fun e w'' => e = .returned v ∧ ∃ q : Later w, w'' = q.world :=
  h.mono fun _ w' ⟨he, ht⟩ => ⟨he, ⟨w', p.ok.trans (Touch.of_below ht)⟩, rfl⟩
end Go.Proofs.YticglfmmjgnicaaGreat

set_option linter.unusedVariables false
namespace Go.Proofs.YticglfmmjgnicaaGreat
open Go.RowKit Go.BigFrame

theorem Sl.later {w : World} {v : Value} {xs : List Int} (h : Sl w v xs) (p : Later w) : Sl p.world v xs := h.touch p.ok (by simp)
theorem Rws.later {w : World} {v : Value} {l : List (List Int)} (h : Rws w v l) (p : Later w) : Rws p.world v l := h.touch p.ok
theorem Touch.later {w : World} (p : Later w) : Touch [] w p.world := p.ok

set_option maxHeartbeats 1000000 in
theorem is_ne (v : Value) (xs : List Int) (n : Int) (w : World) (h : Sl w v xs) (hne : ¬ (xs.length : Int) = n) :
    Calls Tryz.prog 38 #[v, .int .i64 n] w fun e w' => e = .returned (.bool false) ∧ w = w' := by
  obtain ⟨a, c, rfl⟩ := h.form
  clear h
  have q1 : ((xs.length : Int) != n) = true := bneT hne
  clear hne
  go_enter Tryz.func38, Tryz.ntmps38
  go_wp2
  go_ret
  exact ⟨rfl, rfl⟩
/-- .. of any length. -/
theorem is_w (v : Value) (xs : List Int) (n : Int) (b : Bool) (w : World) (h : Sl w v xs) (hl : n ≤ 1000000) (hb : isB xs n = b) :
    Calls Tryz.prog 38 #[v, .int .i64 n] w fun e w' => e = .returned (.bool b) ∧ w = w' := by
  by_cases hne : (xs.length : Int) = n
  · exact is_q v xs n b w h (by omega) hb
  · obtain rfl : b = false := by rw [← hb]; unfold isB; rw [dF hne]; rfl
    exact is_ne v xs n w h hne

set_option maxHeartbeats 1000000 in
theorem ris_ne (v : Value) (xs : List Int) (n : Int) (w : World) (h : Sl w v xs) (hne : ¬ (xs.length : Int) = n) :
    Calls Tryz.prog 41 #[v, .int .i64 n] w fun e w' => e = .returned (.bool false) ∧ w = w' := by
  obtain ⟨a, c, rfl⟩ := h.form
  clear h
  have q1 : ((xs.length : Int) != n) = true := bneT hne
  clear hne
  go_enter Tryz.func41, Tryz.ntmps41
  go_wp2
  go_ret
  exact ⟨rfl, rfl⟩
/-- .. of any length. -/
theorem ris_w (v : Value) (xs : List Int) (n : Int) (b : Bool) (w : World) (h : Sl w v xs) (hl : n ≤ 1000000) (hb : isB xs n = b) :
    Calls Tryz.prog 41 #[v, .int .i64 n] w fun e w' => e = .returned (.bool b) ∧ w = w' := by
  by_cases hne : (xs.length : Int) = n
  · exact ris_q v xs n b w h (by omega) hb
  · obtain rfl : b = false := by rw [← hb]; unfold isB; rw [dF hne]; rfl
    exact ris_ne v xs n w h hne

/-- What of row i. -/
def okRow (n : Nat) (hs cs : List (List Int)) (i : Nat) : Bool := isB (rw_ hs i) n && (isB (rw_ cs i) n && fitsB (rw_ hs i) (rw_ cs i))
def bmayB (xs : List Int) (hs cs : List (List Int)) : Bool := !decide (6 < xs.length) && (isB xs xs.length && (decide (hs.length = cs.length) && (!decide (32 < hs.length) && (List.range hs.length).all (okRow xs.length hs cs))))
theorem isB_len {xs : List Int} {n : Nat} (h : isB xs n = true) : xs.length = n := by
  unfold isB at h
  rw [Bool.and_eq_true] at h
  have := of_decide_eq_true h.1
  omega
theorem okRow_len {n : Nat} {hs cs : List (List Int)} {i : Nat} (h : okRow n hs cs i = true) : (rw_ hs i).length = n ∧ (rw_ cs i).length = n := by
  unfold okRow at h
  rw [Bool.and_eq_true, Bool.and_eq_true] at h
  exact ⟨isB_len h.1, isB_len h.2.1⟩
structure BMay (xs : List Int) (hs cs : List (List Int)) : Prop where
  l : xs.length ≤ 6
  a : xs.all mayB = true
  e : hs.length = cs.length
  m : hs.length ≤ 32
  r : ∀ i, i < hs.length → okRow xs.length hs cs i = true
theorem bmay_iff {xs : List Int} {hs cs : List (List Int)} : bmayB xs hs cs = true ↔ BMay xs hs cs := by
  unfold bmayB
  simp only [Bool.and_eq_true, Bool.not_eq_true', decide_eq_false_iff_not, decide_eq_true_eq, List.all_eq_true, List.mem_range, isB]
  constructor
  · rintro ⟨h1, ⟨_, h2⟩, h3, h4, h5⟩
    exact ⟨by omega, by simpa [List.all_eq_true] using h2, h3, by omega, h5⟩
  · rintro ⟨h1, h2, h3, h4, h5⟩
    exact ⟨by omega, ⟨trivial, by simpa [List.all_eq_true] using h2⟩, h3, by omega, h5⟩

set_option maxRecDepth 100000 in
set_option maxHeartbeats 8000000 in
theorem may_any (va vh vc : Value) (xs : List Int) (hs cs : List (List Int)) (b : Bool) (w : World) (ha : Sl w va xs) (hh : Rws w vh hs) (hc : Rws w vc cs) (hb : bmayB xs hs cs = b) :
    Calls Tryz.prog 83 #[va, vh, vc] w fun e w' => e = .returned (.bool b) ∧ Touch [] w w' := by
  have HB : Hid (bmayB xs hs cs = b) := Lib.hid hb
  have HD : Hid (bmayB xs hs cs = (!decide (6 < xs.length) && (isB xs xs.length && (decide (hs.length = cs.length) && (!decide (32 < hs.length) && (List.range hs.length).all (okRow xs.length hs cs)))))) := Lib.hid rfl
  clear hb
  have HA := Lib.hid ha
  have HH := Lib.hid hh
  have HC := Lib.hid hc
  obtain ⟨aa, ca, rfl⟩ := ha.form
  obtain ⟨ah, ch, rfl⟩ := hh.form
  obtain ⟨ac, cc, rfl⟩ := hc.form
  obtain ⟨L, hL⟩ : ∃ L, xs.length = L := ⟨_, rfl⟩
  obtain ⟨H, hH⟩ : ∃ L, hs.length = L := ⟨_, rfl⟩
  obtain ⟨C, hC⟩ : ∃ L, cs.length = L := ⟨_, rfl⟩
  have HL := Lib.hid hL
  have HHl := Lib.hid hH
  have HCl := Lib.hid hC
  rw [hL] at HA HD ⊢
  rw [hH] at HH HD ⊢
  rw [hC] at HC HD ⊢
  clear ha hh hc hL hH hC
  by_cases h1 : 6 < L
  · have q1 : decide (6 < (L : Int)) = true := dT (by omega)
    rw [dT h1] at HD
    have HE : Hid (b = false) := Lib.hid (by rw [← HB.out, HD.out]; rfl)
    clear h1
    go_enter Tryz.func83, Tryz.ntmps83
    go_wp2
    go_ret
    exact ⟨by rw [HE.out]; rfl, Touch.refl _ _⟩
  have q1 : decide (6 < (L : Int)) = false := dF (by omega)
  have HL6 : Hid (L ≤ 6) := Lib.hid (by omega)
  rw [dF h1, Bool.not_false, Bool.true_and] at HD
  clear h1
  obtain ⟨bi, hbi⟩ : ∃ bi, isB xs L = bi := ⟨_, rfl⟩
  have HI : Hid (isB xs (L : Int) = bi) := Lib.hid hbi
  rw [hbi] at HD
  clear hbi
  cases bi with
  | false =>
    have HE : Hid (b = false) := Lib.hid (by rw [← HB.out, HD.out]; rfl)
    go_enter Tryz.func83, Tryz.ntmps83
    go_wp2_with fail
    refine (is_w _ xs _ false _ HA.out (by have := HL6.out; omega) HI.out).mono ?_
    rintro e w' ⟨rfl, rfl⟩
    go_wp2
    go_ret
    exact ⟨by rw [HE.out]; rfl, Touch.refl _ _⟩
  | true =>
  rw [Bool.true_and] at HD
  by_cases h2 : H = C
  case neg =>
    have q2 : ((H : Int) != (C : Int)) = true := bneT (by omega)
    rw [dF h2] at HD
    have HE : Hid (b = false) := Lib.hid (by rw [← HB.out, HD.out]; rfl)
    clear h2
    go_enter Tryz.func83, Tryz.ntmps83
    go_wp2_with fail
    refine (is_w _ xs _ true _ HA.out (by have := HL6.out; omega) HI.out).mono ?_
    rintro e w' ⟨rfl, rfl⟩
    go_wp2
    go_ret
    exact ⟨by rw [HE.out]; rfl, Touch.refl _ _⟩
  subst h2
  have q2 : ((H : Int) != (H : Int)) = false := bneF rfl
  rw [dT rfl, Bool.true_and] at HD
  by_cases h3 : 32 < H
  · have q3 : decide (32 < (H : Int)) = true := dT (by omega)
    rw [dT h3] at HD
    have HE : Hid (b = false) := Lib.hid (by rw [← HB.out, HD.out]; rfl)
    clear h3
    go_enter Tryz.func83, Tryz.ntmps83
    go_wp2_with fail
    refine (is_w _ xs _ true _ HA.out (by have := HL6.out; omega) HI.out).mono ?_
    rintro e w' ⟨rfl, rfl⟩
    go_wp2
    go_ret
    exact ⟨by rw [HE.out]; rfl, Touch.refl _ _⟩
  have q3 : decide (32 < (H : Int)) = false := dF (by omega)
  have h32 : (H : Int) ≤ 32 := by omega
  rw [dF h3, Bool.not_false, Bool.true_and] at HD
  clear h3
  go_enter Tryz.func83, Tryz.ntmps83
  go_wp2_with fail
  refine (is_w _ xs _ true _ HA.out (by have := HL6.out; omega) HI.out).mono ?_
  rintro e w' ⟨rfl, rfl⟩
  go_wp2_with fail
  go_loopw [33] (fun i wr => ∃ j : Nat, j ≤ H ∧ i = .int .i64 j ∧ (∀ k, k < j → okRow L hs cs k = true) ∧ Touch [] w wr) (fun i _ => H + 1 - (intOf i).toNat)
  case atStart => exact ⟨0, by omega, rfl, fun k hk => by omega, Touch.refl _ _⟩
  case round =>
    obtain ⟨j, hj, rfl, hno, ht⟩ := hrel
    have HNo := Lib.hid hno
    have HT := Lib.hid ht
    clear hno
    by_cases hjn : j < H
    · have hlt : (j : Int) < (H : Int) := by omega
      obtain ⟨gh, oh, rfl, rah, rch, sh, xh⟩ := HH.out.at (i := j) (by rw [HHl.out]; exact hjn)
      obtain ⟨gc, oc, rfl, rac, rcc, sc, xc⟩ := HC.out.at (i := j) (by rw [HCl.out]; exact hjn)
      have x1 : ∀ q : Later wr, q.world.cell? ⟨gh, oh + j, none⟩ = some (.slice rah (rw_ hs j).length rch) := fun q => xh _ (ht.trans q.ok)
      have x2 : ∀ q : Later wr, q.world.cell? ⟨gc, oc + j, none⟩ = some (.slice rac (rw_ cs j).length rcc) := fun q => xc _ (ht.trans q.ok)
      have SH := Lib.hid (sh.touch ht (by simp))
      have SC := Lib.hid (sc.touch ht (by simp))
      have HR : Hid (okRow L hs cs j = (isB (rw_ hs j) L && (isB (rw_ cs j) L && fitsB (rw_ hs j) (rw_ cs j)))) := Lib.hid rfl
      clear sh sc xh xc ht
      obtain ⟨b1, hb1⟩ : ∃ b, isB (rw_ hs j) L = b := ⟨_, rfl⟩
      have H1 : Hid (isB (rw_ hs j) (L : Int) = b1) := Lib.hid hb1
      obtain ⟨b2, hb2⟩ : ∃ b, isB (rw_ cs j) L = b := ⟨_, rfl⟩
      have H2 : Hid (isB (rw_ cs j) (L : Int) = b2) := Lib.hid hb2
      obtain ⟨b3, hb3⟩ : ∃ b, fitsB (rw_ hs j) (rw_ cs j) = b := ⟨_, rfl⟩
      have H3 : Hid (fitsB (rw_ hs j) (rw_ cs j) = b3) := Lib.hid hb3
      rw [hb1, hb2, hb3] at HR
      clear hb1 hb2 hb3
      cases b1 with
      | false =>
        have HE : Hid (b = false) := Lib.hid (by rw [← HB.out, HD.out, List.all_eq_false]; exact ⟨j, by simpa using hjn, by rw [HR.out]; simp⟩)
        go_wp2_with fail
        refine wp_region_later (by kernel_rfl) (by kernel_rfl) ?_
        repeat (first
          | (go_big_quiet_step ((first | (with_reducible rfl) | exact Later.same (is_w _ (rw_ hs j) _ false _ (SH.out.later _) (by have := HL6.out; omega) H1.out))))
          | (quiet_step (fail)))
        refine wpQuiet_nil ?_
        intro wq hw'
        obtain ⟨⟨wq', hwq⟩, hwe⟩ := hw'
        have hwe : wq = wq' := hwe
        subst hwe
        have HT := Lib.hid (HT.out.trans hwq)
        clear hwe hwq x1 x2
        go_wp2
        go_ret
        exact ⟨by rw [HE.out]; rfl, HT.out⟩
      | true =>
      cases b2 with
      | false =>
        have HE : Hid (b = false) := Lib.hid (by rw [← HB.out, HD.out, List.all_eq_false]; exact ⟨j, by simpa using hjn, by rw [HR.out]; simp⟩)
        go_wp2_with fail
        refine wp_region_later (by kernel_rfl) (by kernel_rfl) ?_
        repeat (first
          | (go_big_quiet_step ((first | (with_reducible rfl) | exact Later.same (is_w _ (rw_ hs j) _ true _ (SH.out.later _) (by have := HL6.out; omega) H1.out) | exact Later.same (is_w _ (rw_ cs j) _ false _ (SC.out.later _) (by have := HL6.out; omega) H2.out))))
          | (quiet_step (fail)))
        refine wpQuiet_nil ?_
        intro wq hw'
        obtain ⟨⟨wq', hwq⟩, hwe⟩ := hw'
        have hwe : wq = wq' := hwe
        subst hwe
        have HT := Lib.hid (HT.out.trans hwq)
        clear hwe hwq x1 x2
        go_wp2
        go_ret
        exact ⟨by rw [HE.out]; rfl, HT.out⟩
      | true =>
      cases b3 with
      | false =>
        have HE : Hid (b = false) := Lib.hid (by rw [← HB.out, HD.out, List.all_eq_false]; exact ⟨j, by simpa using hjn, by rw [HR.out]; simp⟩)
        go_wp2_with fail
        refine wp_region_later (by kernel_rfl) (by kernel_rfl) ?_
        repeat (first
          | (go_big_quiet_step ((first | (with_reducible rfl) | exact Later.same (is_w _ (rw_ hs j) _ true _ (SH.out.later _) (by have := HL6.out; omega) H1.out) | exact Later.same (is_w _ (rw_ cs j) _ true _ (SC.out.later _) (by have := HL6.out; omega) H2.out) | exact Later.met (fits_q _ _ (rw_ hs j) (rw_ cs j) false _ (SH.out.later _) (SC.out.later _) (by have := isB_len H1.out; have := HL6.out; omega) (by have := isB_len H2.out; have := HL6.out; omega) H3.out))))
          | (quiet_step (fail)))
        refine wpQuiet_nil ?_
        intro wq hw'
        obtain ⟨⟨wq', hwq⟩, hwe⟩ := hw'
        have hwe : wq = wq' := hwe
        subst hwe
        have HT := Lib.hid (HT.out.trans hwq)
        clear hwe hwq x1 x2
        go_wp2
        go_ret
        exact ⟨by rw [HE.out]; rfl, HT.out⟩
      | true =>
        go_wp2_with fail
        refine wp_region_later (by kernel_rfl) (by kernel_rfl) ?_
        repeat (first
          | (go_big_quiet_step ((first | (with_reducible rfl) | exact Later.same (is_w _ (rw_ hs j) _ true _ (SH.out.later _) (by have := HL6.out; omega) H1.out) | exact Later.same (is_w _ (rw_ cs j) _ true _ (SC.out.later _) (by have := HL6.out; omega) H2.out) | exact Later.met (fits_q _ _ (rw_ hs j) (rw_ cs j) true _ (SH.out.later _) (SC.out.later _) (by have := isB_len H1.out; have := HL6.out; omega) (by have := isB_len H2.out; have := HL6.out; omega) H3.out))))
          | (quiet_step (fail)))
        refine wpQuiet_nil ?_
        intro wq hw'
        obtain ⟨⟨wq', hwq⟩, hwe⟩ := hw'
        have hwe : wq = wq' := hwe
        subst hwe
        have HT := Lib.hid (HT.out.trans hwq)
        clear hwe hwq x1 x2
        go_wp2
        go_roundw
        case rel =>
          refine ⟨j + 1, by omega, by go_num, fun k hk => ?_, HT.out⟩
          by_cases e : k = j
          · subst e; rw [HR.out]; rfl
          · exact HNo.out k (by omega)
        case measure => simp [intOf]; omega
    · have hlt : ¬ (j : Int) < (H : Int) := by omega
      have HE : Hid (b = true) := Lib.hid (by rw [← HB.out, HD.out, List.all_eq_true]; exact fun k hk => HNo.out k (by have := List.mem_range.1 hk; omega))
      clear ht
      go_wp2
      go_ret
      exact ⟨by rw [HE.out]; rfl, HT.out⟩
end Go.Proofs.YticglfmmjgnicaaGreat

set_option linter.unusedVariables false
namespace Go.Proofs.YticglfmmjgnicaaGreat
open Go.RowKit

set_option maxHeartbeats 1000000 in
theorem clone_any (v : Value) (xs : List Int) (w : World) (h : Sl w v xs) (hl : xs.length ≤ 1000000) :
    Calls Tryz.prog 40 #[v] w (Own xs w) := by
  have HS := Lib.hid h
  have HQ := Lib.hid (Qu.made (w := w) (base := w.heap.size) (e := 3) (b := w.heap.size) (n := 0) (c := #[]) rfl (Nat.le_refl _) rfl (Nat.zero_le _))
  have hq : ∀ (w : World) (a : Option Addr) (n c n' c' : Nat), (binOp .eql 22 (.slice a n c) (.slice none n' c')).run Tryz.prog w = .ok (.bool a.isNone) w := fun w a n c n' c' => Lib.run_eql_slice_nil w _ _ a n c n' c' Tryz.underlying22
  obtain ⟨a, cap, rfl, h⟩ := h
  cases a with
  | none =>
    have hx : xs = [] := by
      rcases h with h | ⟨g, off, h, _⟩
      · exact h
      · cases h
    subst hx
    clear h HQ
    go_enter Tryz.func40, Tryz.ntmps40
    go_wp2
    go_ret
    exact ⟨_, rfl, Qu.nil _ _ _, Touch.refl _ _⟩
  | some a =>
    clear h
    obtain ⟨v', w', hr, hq', hg, hn⟩ := Qu.appendI (xs := []) HQ.out (by simp) (HS.out.alloc (.cells #[] 3)) (by simp; omega)
    have HQ' := Lib.hid hq'
    have HG : Hid (Touch [] w w') := Lib.hid (((Touch.refl _ w).alloc _).grown hg (fun k hk hlt => by simp [Value.ownBlock] at hk; omega))
    obtain ⟨va, vc, rfl⟩ := Qu.form hq'
    clear hq' hg hn HQ
    go_enter Tryz.func40, Tryz.ntmps40
    go_wp2_with (at_builtin; refine Lib.wpList_append_run _ rfl _ _ _ _ rfl _ _ rfl rfl _ _ (hr _) ?_)
    go_ret
    exact ⟨_, rfl, HQ'.out, HG.out⟩

set_option maxHeartbeats 1000000 in
theorem copy_any (v : Value) (xs : List Int) (w : World) (h : Sl w v xs) (hl : xs.length ≤ 1000000) :
    Calls Tryz.prog 43 #[v] w (Own xs w) := by
  have HS := Lib.hid h
  have HQ := Lib.hid (Qu.made (w := w) (base := w.heap.size) (e := 3) (b := w.heap.size) (n := 0) (c := #[]) rfl (Nat.le_refl _) rfl (Nat.zero_le _))
  obtain ⟨v', w', hr, hq', hg, hn⟩ := Qu.appendI (xs := []) HQ.out (by simp) (HS.out.alloc (.cells #[] 3)) (by simp; omega)
  have HQ' := Lib.hid hq'
  have HG : Hid (Touch [] w w') := Lib.hid (((Touch.refl _ w).alloc _).grown hg (fun k hk hlt => by simp [Value.ownBlock] at hk; omega))
  obtain ⟨va, vc, rfl⟩ := Qu.form hq'
  clear hq' hg hn HQ h
  go_enter Tryz.func43, Tryz.ntmps43
  go_wp2_with (at_builtin; refine Lib.wpList_append_run _ rfl _ _ _ _ rfl _ _ rfl rfl _ _ (hr _) ?_)
  go_ret
  exact ⟨_, rfl, HQ'.out, HG.out⟩

end Go.Proofs.YticglfmmjgnicaaGreat

set_option linter.unusedVariables false
namespace Go.Proofs.YticglfmmjgnicaaGreat
open Go.RowKit Go.BigFrame

def rrow (n : Nat) (hs cs : List (List Int)) (i : Nat) : Bool := isB (rw_ hs i) n && isB (rw_ cs i) n
def rowsB (xs : List Int) (hs cs : List (List Int)) : Bool := !decide (6 < xs.length) && (isB xs xs.length && (decide (hs.length = cs.length) && (!decide (32 < hs.length) && (List.range hs.length).all (rrow xs.length hs cs))))
theorem rows_iff {xs : List Int} {hs cs : List (List Int)} : rowsB xs hs cs = true ↔ xs.length ≤ 6 ∧ xs.all mayB = true ∧ hs.length = cs.length ∧ hs.length ≤ 32 ∧ ∀ i, i < hs.length → rrow xs.length hs cs i = true := by
  unfold rowsB
  simp only [Bool.and_eq_true, Bool.not_eq_true', decide_eq_false_iff_not, decide_eq_true_eq, List.all_eq_true, List.mem_range, isB]
  constructor
  · rintro ⟨h1, ⟨_, h2⟩, h3, h4, h5⟩
    exact ⟨by omega, by simpa [List.all_eq_true] using h2, h3, by omega, h5⟩
  · rintro ⟨h1, h2, h3, h4, h5⟩
    exact ⟨by omega, ⟨trivial, by simpa [List.all_eq_true] using h2⟩, h3, by omega, h5⟩
theorem rrow_len {n : Nat} {hs cs : List (List Int)} {i : Nat} (h : rrow n hs cs i = true) : (rw_ hs i).length = n ∧ (rw_ cs i).length = n := by
  unfold rrow at h
  rw [Bool.and_eq_true] at h
  exact ⟨isB_len h.1, isB_len h.2⟩
theorem bmay_rows {xs : List Int} {hs cs : List (List Int)} : bmayB xs hs cs = (rowsB xs hs cs && (List.range hs.length).all fun i => fitsB (rw_ hs i) (rw_ cs i)) := by
  have hall : ((List.range hs.length).all fun i => fitsB (rw_ hs i) (rw_ cs i)) = true ↔ ∀ i, i < hs.length → fitsB (rw_ hs i) (rw_ cs i) = true := by simp [List.all_eq_true]
  rw [Bool.eq_iff_iff, bmay_iff, Bool.and_eq_true, rows_iff, hall]
  constructor
  · intro h
    refine ⟨⟨h.l, h.a, h.e, h.m, fun i hi => ?_⟩, fun i hi => ?_⟩
    · have := h.r i hi
      unfold okRow at this
      unfold rrow
      rw [Bool.and_eq_true, Bool.and_eq_true] at this
      rw [this.1, this.2.1]; rfl
    · have := h.r i hi
      unfold okRow at this
      rw [Bool.and_eq_true, Bool.and_eq_true] at this
      exact this.2.2
  · rintro ⟨⟨h1, h2, h3, h4, h5⟩, h6⟩
    refine ⟨h1, h2, h3, h4, fun i hi => ?_⟩
    have a := h5 i hi
    have b := h6 i hi
    unfold rrow at a
    unfold okRow
    rw [Bool.and_eq_true] at a
    rw [a.1, a.2, b]; rfl

set_option maxRecDepth 100000 in
set_option maxHeartbeats 8000000 in
theorem rows_any (va vh vc : Value) (xs : List Int) (hs cs : List (List Int)) (b : Bool) (w : World) (ha : Sl w va xs) (hh : Rws w vh hs) (hc : Rws w vc cs) (hb : rowsB xs hs cs = b) :
    Calls Tryz.prog 98 #[va, vh, vc] w fun e w' => e = .returned (.bool b) ∧ w = w' := by
  have HB : Hid (rowsB xs hs cs = b) := Lib.hid hb
  have HD : Hid (rowsB xs hs cs = (!decide (6 < xs.length) && (isB xs xs.length && (decide (hs.length = cs.length) && (!decide (32 < hs.length) && (List.range hs.length).all (rrow xs.length hs cs)))))) := Lib.hid rfl
  clear hb
  have HA := Lib.hid ha
  have HH := Lib.hid hh
  have HC := Lib.hid hc
  obtain ⟨aa, ca, rfl⟩ := ha.form
  obtain ⟨ah, ch, rfl⟩ := hh.form
  obtain ⟨ac, cc, rfl⟩ := hc.form
  obtain ⟨L, hL⟩ : ∃ L, xs.length = L := ⟨_, rfl⟩
  obtain ⟨H, hH⟩ : ∃ L, hs.length = L := ⟨_, rfl⟩
  obtain ⟨C, hC⟩ : ∃ L, cs.length = L := ⟨_, rfl⟩
  have HL := Lib.hid hL
  have HHl := Lib.hid hH
  have HCl := Lib.hid hC
  rw [hL] at HA HD ⊢
  rw [hH] at HH HD ⊢
  rw [hC] at HC HD ⊢
  clear ha hh hc hL hH hC
  by_cases h1 : 6 < L
  · have q1 : decide (6 < (L : Int)) = true := dT (by omega)
    rw [dT h1] at HD
    have HE : Hid (b = false) := Lib.hid (by rw [← HB.out, HD.out]; rfl)
    clear h1
    go_enter Tryz.func98, Tryz.ntmps98
    go_wp2
    go_ret
    exact ⟨by rw [HE.out]; rfl, rfl⟩
  have q1 : decide (6 < (L : Int)) = false := dF (by omega)
  have HL6 : Hid (L ≤ 6) := Lib.hid (by omega)
  rw [dF h1, Bool.not_false, Bool.true_and] at HD
  clear h1
  obtain ⟨bi, hbi⟩ : ∃ bi, isB xs L = bi := ⟨_, rfl⟩
  have HI : Hid (isB xs (L : Int) = bi) := Lib.hid hbi
  rw [hbi] at HD
  clear hbi
  cases bi with
  | false =>
    have HE : Hid (b = false) := Lib.hid (by rw [← HB.out, HD.out]; rfl)
    go_enter Tryz.func98, Tryz.ntmps98
    go_wp2_with fail
    refine (ris_w _ xs _ false _ HA.out (by have := HL6.out; omega) HI.out).mono ?_
    rintro e w' ⟨rfl, rfl⟩
    go_wp2
    go_ret
    exact ⟨by rw [HE.out]; rfl, rfl⟩
  | true =>
  rw [Bool.true_and] at HD
  by_cases h2 : H = C
  case neg =>
    have q2 : ((H : Int) != (C : Int)) = true := bneT (by omega)
    rw [dF h2] at HD
    have HE : Hid (b = false) := Lib.hid (by rw [← HB.out, HD.out]; rfl)
    clear h2
    go_enter Tryz.func98, Tryz.ntmps98
    go_wp2_with fail
    refine (ris_w _ xs _ true _ HA.out (by have := HL6.out; omega) HI.out).mono ?_
    rintro e w' ⟨rfl, rfl⟩
    go_wp2
    go_ret
    exact ⟨by rw [HE.out]; rfl, rfl⟩
  subst h2
  have q2 : ((H : Int) != (H : Int)) = false := bneF rfl
  rw [dT rfl, Bool.true_and] at HD
  by_cases h3 : 32 < H
  · have q3 : decide (32 < (H : Int)) = true := dT (by omega)
    rw [dT h3] at HD
    have HE : Hid (b = false) := Lib.hid (by rw [← HB.out, HD.out]; rfl)
    clear h3
    go_enter Tryz.func98, Tryz.ntmps98
    go_wp2_with fail
    refine (ris_w _ xs _ true _ HA.out (by have := HL6.out; omega) HI.out).mono ?_
    rintro e w' ⟨rfl, rfl⟩
    go_wp2
    go_ret
    exact ⟨by rw [HE.out]; rfl, rfl⟩
  have q3 : decide (32 < (H : Int)) = false := dF (by omega)
  have h32 : (H : Int) ≤ 32 := by omega
  rw [dF h3, Bool.not_false, Bool.true_and] at HD
  clear h3
  go_enter Tryz.func98, Tryz.ntmps98
  go_wp2_with fail
  refine (ris_w _ xs _ true _ HA.out (by have := HL6.out; omega) HI.out).mono ?_
  rintro e w' ⟨rfl, rfl⟩
  go_wp2_with fail
  go_loopw [7] (fun i wr => ∃ j : Nat, j ≤ H ∧ i = .int .i64 j ∧ (∀ k, k < j → rrow L hs cs k = true) ∧ w = wr) (fun i _ => H + 1 - (intOf i).toNat)
  case atStart => exact ⟨0, by omega, rfl, fun k hk => by omega, rfl⟩
  case round =>
    obtain ⟨j, hj, rfl, hno, rfl⟩ := hrel
    have HNo := Lib.hid hno
    clear hno
    by_cases hjn : j < H
    · have hlt : (j : Int) < (H : Int) := by omega
      obtain ⟨gh, oh, rfl, rah, rch, sh, xh⟩ := HH.out.at (i := j) (by rw [HHl.out]; exact hjn)
      obtain ⟨gc, oc, rfl, rac, rcc, sc, xc⟩ := HC.out.at (i := j) (by rw [HCl.out]; exact hjn)
      have x1 := xh _ (Touch.refl _ _)
      have x2 := xc _ (Touch.refl _ _)
      have SH := Lib.hid sh
      have SC := Lib.hid sc
      have HR : Hid (rrow L hs cs j = (isB (rw_ hs j) L && isB (rw_ cs j) L)) := Lib.hid rfl
      clear sh sc xh xc
      obtain ⟨b1, hb1⟩ : ∃ b, isB (rw_ hs j) L = b := ⟨_, rfl⟩
      have H1 : Hid (isB (rw_ hs j) (L : Int) = b1) := Lib.hid hb1
      obtain ⟨b2, hb2⟩ : ∃ b, isB (rw_ cs j) L = b := ⟨_, rfl⟩
      have H2 : Hid (isB (rw_ cs j) (L : Int) = b2) := Lib.hid hb2
      rw [hb1, hb2] at HR
      clear hb1 hb2
      cases b1 with
      | false =>
        have HE : Hid (b = false) := Lib.hid (by rw [← HB.out, HD.out, List.all_eq_false]; exact ⟨j, by simpa using hjn, by rw [HR.out]; simp⟩)
        go_wp2_with fail
        refine (ris_w _ (rw_ hs j) _ false _ SH.out (by have := HL6.out; omega) H1.out).mono ?_
        rintro e w' ⟨rfl, rfl⟩
        go_wp2
        go_ret
        exact ⟨by rw [HE.out]; rfl, rfl⟩
      | true =>
      cases b2 with
      | false =>
        have HE : Hid (b = false) := Lib.hid (by rw [← HB.out, HD.out, List.all_eq_false]; exact ⟨j, by simpa using hjn, by rw [HR.out]; simp⟩)
        go_wp2_with fail
        refine (ris_w _ (rw_ hs j) _ true _ SH.out (by have := HL6.out; omega) H1.out).mono ?_
        rintro e w' ⟨rfl, rfl⟩
        go_wp2_with fail
        refine (ris_w _ (rw_ cs j) _ false _ SC.out (by have := HL6.out; omega) H2.out).mono ?_
        rintro e w' ⟨rfl, rfl⟩
        go_wp2
        go_ret
        exact ⟨by rw [HE.out]; rfl, rfl⟩
      | true =>
        go_wp2_with fail
        refine (ris_w _ (rw_ hs j) _ true _ SH.out (by have := HL6.out; omega) H1.out).mono ?_
        rintro e w' ⟨rfl, rfl⟩
        go_wp2_with fail
        refine (ris_w _ (rw_ cs j) _ true _ SC.out (by have := HL6.out; omega) H2.out).mono ?_
        rintro e w' ⟨rfl, rfl⟩
        go_wp2
        go_roundw
        case rel =>
          refine ⟨j + 1, by omega, by go_num, fun k hk => ?_, trivial⟩
          by_cases e : k = j
          · subst e; rw [HR.out]; rfl
          · exact HNo.out k (by omega)
        case measure => simp [intOf]; omega
    · have hlt : ¬ (j : Int) < (H : Int) := by omega
      have HE : Hid (b = true) := Lib.hid (by rw [← HB.out, HD.out, List.all_eq_true]; exact fun k hk => HNo.out k (by have := List.mem_range.1 hk; omega))
      go_wp2
      go_ret
      exact ⟨by rw [HE.out]; rfl, rfl⟩

set_option maxRecDepth 100000 in
set_option maxHeartbeats 8000000 in
theorem rmay_any (va vh vc : Value) (xs : List Int) (hs cs : List (List Int)) (b : Bool) (w : World) (ha : Sl w va xs) (hh : Rws w vh hs) (hc : Rws w vc cs) (hb : bmayB xs hs cs = b) :
    Calls Tryz.prog 81 #[va, vh, vc] w fun e w' => e = .returned (.bool b) ∧ Touch [] w w' := by
  have HB : Hid (bmayB xs hs cs = b) := Lib.hid hb
  have HD : Hid (bmayB xs hs cs = (rowsB xs hs cs && (List.range hs.length).all fun i => fitsB (rw_ hs i) (rw_ cs i))) := Lib.hid bmay_rows
  clear hb
  have HA := Lib.hid ha
  have HH := Lib.hid hh
  have HC := Lib.hid hc
  obtain ⟨aa, ca, rfl⟩ := ha.form
  obtain ⟨ah, ch, rfl⟩ := hh.form
  obtain ⟨ac, cc, rfl⟩ := hc.form
  obtain ⟨L, hL⟩ : ∃ L, xs.length = L := ⟨_, rfl⟩
  obtain ⟨H, hH⟩ : ∃ L, hs.length = L := ⟨_, rfl⟩
  obtain ⟨C, hC⟩ : ∃ L, cs.length = L := ⟨_, rfl⟩
  have HL := Lib.hid hL
  have HHl := Lib.hid hH
  have HCl := Lib.hid hC
  rw [hL] at HA ⊢
  rw [hH] at HH HD ⊢
  rw [hC] at HC ⊢
  clear ha hh hc hL hH hC
  obtain ⟨br, hbr⟩ : ∃ br, rowsB xs hs cs = br := ⟨_, rfl⟩
  have HR := Lib.hid hbr
  rw [hbr] at HD
  cases br with
  | false =>
    have HE : Hid (b = false) := Lib.hid (by rw [← HB.out, HD.out]; rfl)
    clear hbr
    go_enter Tryz.func81, Tryz.ntmps81
    go_wp2_with fail
    refine (rows_any _ _ _ xs hs cs false _ HA.out HH.out HC.out HR.out).mono ?_
    rintro e w' ⟨rfl, rfl⟩
    go_wp2
    go_ret
    exact ⟨by rw [HE.out]; rfl, Touch.refl _ _⟩
  | true =>
  rw [Bool.true_and] at HD
  have HRI := Lib.hid (rows_iff.1 hbr)
  have hec : C = H := by have := HRI.out.2.2.1; rw [HHl.out, HCl.out] at this; exact this.symm
  subst hec
  have h32 : (C : Int) ≤ 32 := by have := HRI.out.2.2.2.1; rw [HHl.out] at this; omega
  clear hbr
  go_enter Tryz.func81, Tryz.ntmps81
  go_wp2_with fail
  refine (rows_any _ _ _ xs hs cs true _ HA.out HH.out HC.out HR.out).mono ?_
  rintro e w' ⟨rfl, rfl⟩
  go_wp2_with fail
  go_loopw [7] (fun i wr => ∃ j : Nat, j ≤ C ∧ i = .int .i64 j ∧ (∀ k, k < j → fitsB (rw_ hs k) (rw_ cs k) = true) ∧ Touch [] w wr) (fun i _ => C + 1 - (intOf i).toNat)
  case atStart => exact ⟨0, by omega, rfl, fun k hk => by omega, Touch.refl _ _⟩
  case round =>
    obtain ⟨j, hj, rfl, hno, ht⟩ := hrel
    have HNo := Lib.hid hno
    have HT := Lib.hid ht
    clear hno
    by_cases hjn : j < C
    · have hlt : (j : Int) < (C : Int) := by omega
      obtain ⟨gh, oh, rfl, rah, rch, sh, xh⟩ := HH.out.at (i := j) (by rw [HHl.out]; exact hjn)
      obtain ⟨gc, oc, rfl, rac, rcc, sc, xc⟩ := HC.out.at (i := j) (by rw [HCl.out]; exact hjn)
      have x1 : ∀ q : Later wr, q.world.cell? ⟨gh, oh + j, none⟩ = some (.slice rah (rw_ hs j).length rch) := fun q => xh _ (ht.trans q.ok)
      have x2 : ∀ q : Later wr, q.world.cell? ⟨gc, oc + j, none⟩ = some (.slice rac (rw_ cs j).length rcc) := fun q => xc _ (ht.trans q.ok)
      have SH := Lib.hid (sh.touch ht (by simp))
      have SC := Lib.hid (sc.touch ht (by simp))
      have HLN : Hid ((rw_ hs j).length ≤ 1000000 ∧ (rw_ cs j).length ≤ 1000000) := Lib.hid (by
        obtain ⟨h6, _, _, _, hr⟩ := HRI.out
        have := rrow_len (hr j (by rw [HHl.out]; exact hjn))
        omega)
      clear sh sc xh xc ht
      obtain ⟨b3, hb3⟩ : ∃ b, fitsB (rw_ hs j) (rw_ cs j) = b := ⟨_, rfl⟩
      have H3 := Lib.hid hb3
      cases b3 with
      | false =>
        have HE : Hid (b = false) := Lib.hid (by rw [← HB.out, HD.out, List.all_eq_false]; exact ⟨j, by simpa using hjn, by rw [hb3]; simp⟩)
        clear hb3
        go_wp2_with fail
        refine wp_region_later (by kernel_rfl) (by kernel_rfl) ?_
        repeat (first
          | (go_big_quiet_step ((first | (with_reducible rfl) | exact Later.met (rfits_q _ _ (rw_ hs j) (rw_ cs j) false _ (SH.out.later _) (SC.out.later _) HLN.out.1 HLN.out.2 H3.out))))
          | (quiet_step (fail)))
        refine wpQuiet_nil ?_
        intro wq hw'
        obtain ⟨⟨wq', hwq⟩, hwe⟩ := hw'
        have hwe : wq = wq' := hwe
        subst hwe
        have HT := Lib.hid (HT.out.trans hwq)
        clear hwe hwq x1 x2
        go_wp2
        go_ret
        exact ⟨by rw [HE.out]; rfl, HT.out⟩
      | true =>
        clear hb3
        go_wp2_with fail
        refine wp_region_later (by kernel_rfl) (by kernel_rfl) ?_
        repeat (first
          | (go_big_quiet_step ((first | (with_reducible rfl) | exact Later.met (rfits_q _ _ (rw_ hs j) (rw_ cs j) true _ (SH.out.later _) (SC.out.later _) HLN.out.1 HLN.out.2 H3.out))))
          | (quiet_step (fail)))
        refine wpQuiet_nil ?_
        intro wq hw'
        obtain ⟨⟨wq', hwq⟩, hwe⟩ := hw'
        have hwe : wq = wq' := hwe
        subst hwe
        have HT := Lib.hid (HT.out.trans hwq)
        clear hwe hwq x1 x2
        go_wp2
        go_roundw
        case rel =>
          refine ⟨j + 1, by omega, by go_num, fun k hk => ?_, HT.out⟩
          by_cases e : k = j
          · subst e; exact H3.out
          · exact HNo.out k (by omega)
        case measure => simp [intOf]; omega
    · have hlt : ¬ (j : Int) < (C : Int) := by omega
      have HE : Hid (b = true) := Lib.hid (by rw [← HB.out, HD.out, List.all_eq_true]; exact fun k hk => HNo.out k (by have := List.mem_range.1 hk; omega))
      clear ht
      go_wp2
      go_ret
      exact ⟨by rw [HE.out]; rfl, HT.out⟩

set_option maxHeartbeats 4000000 in
/-- What is wanted less what is had, within what there is? -/
theorem rcan_q (vw vc vh : Value) (W c h : List Int) (b : Bool) (w : World) (hW : Sl w vw W) (hc : Sl w vc c) (hh : Sl w vh h) (l : W.length ≤ 1000) (l1 : c.length = W.length) (l2 : h.length = W.length)
    (m1 : ∀ k, k < W.length → 0 ≤ c.getD k 0 ∧ c.getD k 0 ≤ 1000) (m2 : ∀ k, k < W.length → 0 ≤ h.getD k 0 ∧ h.getD k 0 ≤ 1000) (hb : canB W c h = b) :
    Calls Tryz.prog 82 #[vw, vc, vh] w fun e w' => e = .returned (.bool b) ∧ Touch [] w w' := by
  subst hb
  have HD : Hid (canB W c h = (List.range W.length).all fun k => decide (c.getD k 0 - h.getD k 0 ≤ W.getD k 0)) := Lib.hid rfl
  obtain ⟨aw, cw, rfl⟩ := hW.form
  obtain ⟨ac, cc, rfl⟩ := hc.form
  obtain ⟨ah, ch, rfl⟩ := hh.form
  obtain ⟨L, hL⟩ : ∃ L, W.length = L := ⟨_, rfl⟩
  have HL := Lib.hid hL
  have HL1 := Lib.hid l1
  have HL2 := Lib.hid l2
  have M1 := Lib.hid m1
  have M2 := Lib.hid m2
  have HW := Lib.hid hW
  have HC := Lib.hid hc
  have HH := Lib.hid hh
  rw [l1] at HC ⊢
  rw [l2] at HH ⊢
  rw [hL] at l HW HC HH HD M1 M2 ⊢
  clear hW hc hh l1 l2 m1 m2 hL
  go_enter Tryz.func82, Tryz.ntmps82
  go_wp2_with fail
  go_loopw [7] (fun i wr => ∃ j : Nat, j ≤ L ∧ i = .int .i64 j ∧ (∀ k, k < j → c.getD k 0 - h.getD k 0 ≤ W.getD k 0) ∧ Touch [] w wr) (fun i _ => L + 1 - (intOf i).toNat)
  case atStart => exact ⟨0, by omega, rfl, fun k hk => by omega, Touch.refl _ _⟩
  case round =>
    obtain ⟨j, hj, rfl, hno, ht⟩ := hrel
    have HNo := Lib.hid hno
    have HT := Lib.hid ht
    clear hno
    by_cases hjn : j < L
    · have hlt : (j : Int) < (L : Int) := by omega
      obtain ⟨gw, ow, rfl, xw⟩ := HW.out.ix (q := j) (by rw [HL.out]; exact hjn)
      obtain ⟨gc, oc, rfl, xc⟩ := HC.out.ix (q := j) (by rw [HL1.out, HL.out]; exact hjn)
      obtain ⟨gh, oh, rfl, xh⟩ := HH.out.ix (q := j) (by rw [HL2.out, HL.out]; exact hjn)
      obtain ⟨y1, y2⟩ := M1.out j hjn
      obtain ⟨z1, z2⟩ := M2.out j hjn
      obtain ⟨x, hx⟩ : ∃ x, W.getD j 0 = x := ⟨_, rfl⟩
      obtain ⟨y, hy⟩ : ∃ x, c.getD j 0 = x := ⟨_, rfl⟩
      obtain ⟨z, hz⟩ : ∃ x, h.getD j 0 = x := ⟨_, rfl⟩
      rw [hx] at xw
      rw [hy] at xc y1 y2
      rw [hz] at xh z1 z2
      have x1 : ∀ q : Later wr, q.world.cell? ⟨gw, ow + j, none⟩ = some (.int .i64 x) := fun q => xw _ (ht.trans q.ok)
      have x2 : ∀ q : Later wr, q.world.cell? ⟨gc, oc + j, none⟩ = some (.int .i64 y) := fun q => xc _ (ht.trans q.ok)
      have x3 : ∀ q : Later wr, q.world.cell? ⟨gh, oh + j, none⟩ = some (.int .i64 z) := fun q => xh _ (ht.trans q.ok)
      have v1 : IntKind.i64.wrap (y - z) = y - z := IntWalk.i64_in _ (by omega)
      have HX := Lib.hid hx
      have HY := Lib.hid hy
      have HZ := Lib.hid hz
      clear xw xc xh ht hx hy hz
      by_cases hle : y - z ≤ x
      · have q1 : decide (x < y - z) = false := dF (by omega)
        have HLE := Lib.hid hle
        clear hle
        go_wp2_with fail
        refine wp_region_later (by kernel_rfl) (by kernel_rfl) ?_
        repeat (first
          | (go_big_quiet_step ((first | (with_reducible rfl))))
          | (quiet_step (fail)))
        refine wpQuiet_nil ?_
        intro wq hw'
        obtain ⟨⟨wq', hwq⟩, hwe⟩ := hw'
        have hwe : wq = wq' := hwe
        subst hwe
        have HT := Lib.hid (HT.out.trans hwq)
        clear hwe hwq x1 x2 x3 v1
        go_wp2
        go_roundw
        case rel =>
          refine ⟨j + 1, by omega, by go_num, fun k hk => ?_, HT.out⟩
          by_cases e : k = j
          · subst e; rw [HX.out, HY.out, HZ.out]; exact HLE.out
          · exact HNo.out k (by omega)
        case measure => simp [intOf]; omega
      · have q1 : decide (x < y - z) = true := dT (by omega)
        have HLE := Lib.hid hle
        clear hle
        go_wp2_with fail
        refine wp_region_later (by kernel_rfl) (by kernel_rfl) ?_
        repeat (first
          | (go_big_quiet_step ((first | (with_reducible rfl))))
          | (quiet_step (fail)))
        refine wpQuiet_nil ?_
        intro wq hw'
        obtain ⟨⟨wq', hwq⟩, hwe⟩ := hw'
        have hwe : wq = wq' := hwe
        subst hwe
        have HT := Lib.hid (HT.out.trans hwq)
        clear hwe hwq x1 x2 x3 v1
        go_wp2
        go_ret
        refine ⟨?_, HT.out⟩
        have HE : canB W c h = false := by rw [HD.out, List.all_eq_false]; exact ⟨j, by simpa using hjn, by rw [HX.out, HY.out, HZ.out]; simpa using HLE.out⟩
        rw [HE]; rfl
    · have hlt : ¬ (j : Int) < (L : Int) := by omega
      have HE : Hid (canB W c h = true) := Lib.hid (by rw [HD.out, List.all_eq_true]; exact fun k hk => dT (HNo.out k (by have := List.mem_range.1 hk; omega)))
      clear ht
      go_wp2
      go_ret
      exact ⟨by rw [HE.out]; rfl, HT.out⟩

/-- The first j places are summed up already. -/
def partW (W h : List Int) (j : Nat) : List Int := (List.range W.length).map fun c => if c < j then W.getD c 0 + h.getD c 0 else W.getD c 0
theorem partW_length (W h : List Int) (j : Nat) : (partW W h j).length = W.length := by simp [partW]
theorem partW_zero (W h : List Int) : partW W h 0 = W := by
  apply list_ext_getD
  · rw [partW_length]
  · intro k hk
    rw [partW_length] at hk
    simp [partW, hk]
theorem partW_all (W h : List Int) : partW W h W.length = addW W h := by
  unfold partW addW
  apply List.map_congr_left
  intro k hk
  rw [if_pos (List.mem_range.1 hk)]
theorem partW_get (W h : List Int) (j : Nat) (hj : j < W.length) : (partW W h j).getD j 0 = W.getD j 0 := by simp [partW, hj]
theorem partW_set (W h : List Int) (j : Nat) : (partW W h j).set j (W.getD j 0 + h.getD j 0) = partW W h (j + 1) := by
  apply List.ext_getElem?
  intro k
  by_cases hk : k < W.length
  · by_cases e : j = k
    · subst e
      simp [partW, hk]
    · rw [List.getElem?_set_ne e]
      simp only [partW, List.getElem?_map, List.getElem?_range hk, Option.map_some]
      by_cases h2 : k < j
      · rw [if_pos h2, if_pos (by omega)]
      · rw [if_neg h2, if_neg (by omega)]
  · rw [List.getElem?_eq_none (by simp [partW]; omega), List.getElem?_eq_none (by simp [partW]; omega)]
set_option maxHeartbeats 4000000 in
/-- The reference's sum: a list of its own. -/
theorem more_any (vw vh : Value) (W h : List Int) (w : World) (hW : Sl w vw W) (hh : Sl w vh h) (l : W.length ≤ 1000) (l2 : h.length = W.length)
    (m1 : ∀ k, k < W.length → 0 ≤ W.getD k 0 ∧ W.getD k 0 ≤ 1000000) (m2 : ∀ k, k < W.length → 0 ≤ h.getD k 0 ∧ h.getD k 0 ≤ 1000) :
    Calls Tryz.prog 75 #[vw, vh] w (Own (addW W h) w) := by
  obtain ⟨aw, cw, rfl⟩ := hW.form
  obtain ⟨ah, ch, rfl⟩ := hh.form
  obtain ⟨L, hL⟩ : ∃ L, W.length = L := ⟨_, rfl⟩
  have HL := Lib.hid hL
  have HL2 := Lib.hid l2
  have M1 := Lib.hid m1
  have M2 := Lib.hid m2
  have HW := Lib.hid hW
  have HH := Lib.hid hh
  rw [l2] at HH ⊢
  rw [hL] at l HW HH M1 M2 ⊢
  clear hW hh l2 m1 m2 hL
  go_enter Tryz.func75, Tryz.ntmps75
  go_wp2_with fail
  refine (copy_any _ W _ HW.out (by rw [HL.out]; omega)).mono ?_
  rintro e w1 ⟨v, rfl, hq, ht⟩
  obtain ⟨a, cap, hv⟩ := hq.form
  rw [HL.out] at hv
  subst hv
  have HQ0 := Lib.hid hq
  have HT0 := Lib.hid ht
  clear hq ht
  go_wp2_with fail
  go_loopw [6] (fun i wr => ∃ j : Nat, j ≤ L ∧ i = .int .i64 j ∧ Qu wr w.heap.size 3 (.slice a L cap) ((partW W h j).map (Value.int .i64)) ∧ Touch [] w wr) (fun i _ => L + 1 - (intOf i).toNat)
  case atStart => exact ⟨0, by omega, rfl, by rw [partW_zero]; exact HQ0.out, HT0.out⟩
  case round =>
    clear HQ0 HT0
    obtain ⟨j, hj, rfl, hq, ht⟩ := hrel
    have HT := Lib.hid ht
    by_cases hjn : j < L
    · have hlt : (j : Int) < (L : Int) := by omega
      obtain ⟨g, off, c, he, hg, hgl, hfz, hc, hset⟩ := hq.setI j (by rw [partW_length, HL.out]; exact hjn)
      rw [partW_length, HL.out] at he
      cases he
      obtain ⟨gh, oh, rfl, xh⟩ := HH.out.ix (q := j) (by rw [HL2.out, HL.out]; exact hjn)
      have x2 := xh _ ht
      rw [partW_get _ _ _ (by rw [HL.out]; exact hjn)] at hc
      obtain ⟨y1, y2⟩ := M1.out j hjn
      obtain ⟨z1, z2⟩ := M2.out j hjn
      have HS : Hid (Qu (wr.setCell ⟨g, off + j, none⟩ (.int .i64 (W.getD j 0 + h.getD j 0))) w.heap.size 3 (.slice (some ⟨g, off, none⟩) L cap) ((partW W h (j + 1)).map (Value.int .i64))) := Lib.hid (by rw [← partW_set]; exact hset _)
      have HT2 : Hid (Touch [] w (wr.setCell ⟨g, off + j, none⟩ (.int .i64 (W.getD j 0 + h.getD j 0)))) := Lib.hid (HT.out.setNew hg _)
      obtain ⟨y, hy⟩ : ∃ x, W.getD j 0 = x := ⟨_, rfl⟩
      obtain ⟨z, hz⟩ : ∃ x, h.getD j 0 = x := ⟨_, rfl⟩
      rw [hy] at hc y1 y2 HS HT2
      rw [hz] at x2 z1 z2 HS HT2
      have hf := hfz (off + j)
      have v1 : IntKind.i64.wrap (y + z) = y + z := IntWalk.i64_in _ (by omega)
      clear xh ht hy hz hq hset hfz
      go_wp2_with fail
      go_region
      go_wp2
      go_roundw
      case rel => exact ⟨j + 1, by omega, by go_num, HS.out, HT2.out.drew⟩
      case measure => simp [intOf]; omega
    · have hlt : ¬ (j : Int) < (L : Int) := by omega
      obtain rfl : j = L := by omega
      have HQ : Hid (Qu wr w.heap.size 3 (.slice a j cap) ((addW W h).map (Value.int .i64))) := Lib.hid (by rw [← partW_all, HL.out]; exact hq)
      clear ht hq
      go_wp2
      go_ret
      exact ⟨_, rfl, HQ.out, HT.out⟩
end Go.Proofs.YticglfmmjgnicaaGreat

set_option linter.unusedVariables false
namespace Go.Proofs.YticglfmmjgnicaaGreat
open Go.RowKit Go.MapKept

/-- Keys of one kind. -/
structure KeyOk {κ : Type} (d : TypeDesc) (enc : κ → Value) : Prop where
  key : ∀ k, IsKey d (enc k)
  inj : ∀ k k', enc k = enc k' → k = k'
theorem intKey : KeyOk (.int .i64) (Value.int .i64) := ⟨fun _ => rfl, fun _ _ h => by cases h; rfl⟩
/-- Block b is a map of n entries: at key k it holds m k. -/
def Mp {κ : Type} (enc : κ → Value) (w : World) (b : Nat) (m : κ → Option Value) (n : Nat) : Prop :=
  ∃ es clock, w.heap[b]? = some (.map es clock) ∧ Stamped es clock ∧ es.size = n ∧ (∀ x ∈ es.toList, ∃ k, x.key = enc k) ∧ ∀ k v, m k = some v ↔ ∃ (i : Nat) (e : MapEntry), es[i]? = some e ∧ e.key = enc k ∧ e.val = v
def putM {κ : Type} [DecidableEq κ] (m : κ → Option Value) (k : κ) (v : Value) : κ → Option Value := fun k' => if k' = k then some v else m k'
def dropM {κ : Type} [DecidableEq κ] (m : κ → Option Value) (k : κ) : κ → Option Value := fun k' => if k' = k then none else m k'
section
variable {κ : Type} {enc : κ → Value} {w w' : World} {b n : Nat} {m : κ → Option Value}
theorem Mp.lt (h : Mp enc w b m n) : b < w.heap.size := by
  obtain ⟨es, clock, hb, _⟩ := h
  by_cases hl : b < w.heap.size
  · exact hl
  · rw [Array.getElem?_eq_none (by omega)] at hb; cases hb
theorem Mp.touch {L : List Nat} (h : Mp enc w b m n) (ht : Touch L w w') (hb : b ∉ L) : Mp enc w' b m n := by
  have hlt := h.lt
  obtain ⟨es, clock, h1, r⟩ := h
  exact ⟨es, clock, (ht.block b hlt hb).trans h1, r⟩
theorem Mp.new : Mp enc (w.alloc (.map #[] 0)) w.heap.size (fun _ => none) 0 :=
  ⟨#[], 0, heap_alloc_new w _, stamped_empty 0, rfl, by simp, fun k v => by simp⟩
theorem Mp.congr {m' : κ → Option Value} (h : Mp enc w b m n) (hm : ∀ k, m' k = m k) : Mp enc w b m' n := by
  have : m' = m := funext hm
  subst this; exact h
theorem keys_apart {es : Array MapEntry} {clock : Nat} (hs : Stamped es clock) {i j : Nat} {e e' : MapEntry} (hi : es[i]? = some e) (hj : es[j]? = some e') (hk : e.key = e'.key) : i = j := by
  have hn := hs.2.2
  have hi' : (es.toList.map (·.key))[i]? = some e.key := by simp [hi]
  have hj' : (es.toList.map (·.key))[j]? = some e.key := by simp [hj, hk]
  have h1 : i < (es.toList.map (·.key)).length := by
    by_cases h : i < (es.toList.map (·.key)).length
    · exact h
    · rw [List.getElem?_eq_none (by omega)] at hi'; cases hi'
  exact (List.getElem?_inj h1 hn).1 (hi'.trans hj'.symm)
variable {P : Program} {T kt et : TypeId} {d : TypeDesc}
theorem Mp.find (K : KeyOk d enc) (h : Mp enc w b m n) (k : κ) : ∃ es clock, w.heap[b]? = some (.map es clock) ∧ Stamped es clock ∧ es.size = n ∧ (∀ x ∈ es.toList, ∃ k, x.key = enc k) ∧ (∀ k v, m k = some v ↔ ∃ (i : Nat) (e : MapEntry), es[i]? = some e ∧ e.key = enc k ∧ e.val = v) ∧
    ((Instr.findNow d (enc k) es.toList 0 = some none ∧ m k = none ∧ ∀ x ∈ es.toList, x.key ≠ enc k) ∨ ∃ j e, Instr.findNow d (enc k) es.toList 0 = some (some (j, e.val)) ∧ es[j]? = some e ∧ e.key = enc k ∧ m k = some e.val) := by
  obtain ⟨es, clock, h1, h2, h3, h4, h5⟩ := h
  refine ⟨es, clock, h1, h2, h3, h4, h5, ?_⟩
  rcases findNow_spec (K.key k) es.toList 0 (fun x hx => by obtain ⟨k', e⟩ := h4 x hx; rw [e]; exact K.key k') with ⟨q1, q2⟩ | ⟨j, e, q1, q2, q3⟩
  · refine .inl ⟨q1, ?_, q2⟩
    cases hm : m k with
    | none => rfl
    | some v =>
      obtain ⟨i, e, e1, e2, _⟩ := (h5 k v).1 hm
      exact absurd e2 (q2 e (by rw [← Array.getElem?_toList] at e1; exact List.mem_of_getElem? e1))
  · rw [Nat.zero_add] at q1
    rw [Array.getElem?_toList] at q2
    exact .inr ⟨j, e, q1, q2, q3, (h5 k e.val).2 ⟨j, e, q2, q3, rfl⟩⟩
/-- What is read. -/
theorem Mp.look (K : KeyOk d enc) (ht : P.underlying T = some (.map kt et)) (hd : P.underlying kt = some d) {z : Value} (hz : (zeroValue et).run P w = .ok z w) (h : Mp enc w b m n) (k : κ) : (Instr.lookup T (.map (some b)) (enc k) false).run P w = .ok ((m k).getD z) w := by
  obtain ⟨es, clock, h1, h2, h3, h4, h5, ⟨q1, q2, _⟩ | ⟨j, e, q1, q2, q3, q4⟩⟩ := h.find K k
  · rw [q2]
    simp [Instr.lookup, run_underlying ht, MapKept.run_getObj_map h1, run_checkKey hd (K.key k), run_findKey hd q1, hz, Result.andThen]
  · rw [q4]
    simp [Instr.lookup, run_underlying ht, MapKept.run_getObj_map h1, run_checkKey hd (K.key k), run_findKey hd q1, Result.andThen]
theorem Mp.lookOk (K : KeyOk d enc) (ht : P.underlying T = some (.map kt et)) (hd : P.underlying kt = some d) {z : Value} (hz : (zeroValue et).run P w = .ok z w) (h : Mp enc w b m n) (k : κ) : (Instr.lookup T (.map (some b)) (enc k) true).run P w = .ok (.tuple #[(m k).getD z, .bool (m k).isSome]) w := by
  obtain ⟨es, clock, h1, h2, h3, h4, h5, ⟨q1, q2, _⟩ | ⟨j, e, q1, q2, q3, q4⟩⟩ := h.find K k
  · rw [q2]
    simp [Instr.lookup, run_underlying ht, MapKept.run_getObj_map h1, run_checkKey hd (K.key k), run_findKey hd q1, hz, Result.andThen]
  · rw [q4]
    simp [Instr.lookup, run_underlying ht, MapKept.run_getObj_map h1, run_checkKey hd (K.key k), run_findKey hd q1, Result.andThen]
theorem touch_set {o : Obj} {b : Nat} : Touch [b] w { w with heap := w.heap.setIfInBounds b o } :=
  ⟨rfl, rfl, rfl, by simp, fun k hk hn => by
    have : b ≠ k := fun e => hn (by simp [e])
    simp [this]⟩
variable [DecidableEq κ]
/-- What is put in. -/
theorem Mp.put (K : KeyOk d enc) (ht : P.underlying T = some (.map kt et)) (hd : P.underlying kt = some d) (h : Mp enc w b m n) (k : κ) (v : Value) :
    ∃ w', (Instr.mapUpdate T (.map (some b)) (enc k) v).run P w = .ok () w' ∧ Mp enc w' b (putM m k v) (if (m k).isSome then n else n + 1) ∧ Touch [b] w w' ∧ w'.heap.size = w.heap.size := by
  obtain ⟨es, clock, h1, h2, h3, h4, h5, ⟨q1, q2, q5⟩ | ⟨j, e, q1, q2, q3, q4⟩⟩ := h.find K k
  · refine ⟨_, by simp [Instr.mapUpdate, run_underlying ht, MapKept.run_getObj_map h1, run_checkKey hd (K.key k), run_findKey hd q1, MapKept.run_setObj_map _ h1, Result.andThen]; rfl, ⟨_, _, (MapKept.heap_set h1).1, stamped_push h2 q5, ?_, ?_, fun k' v' => ?_⟩, touch_set, by simp⟩
    · rw [q2]; simp [h3]
    · intro x hx
      simp only [Array.toList_push, List.mem_append, List.mem_singleton] at hx
      rcases hx with hx | rfl
      · exact h4 x hx
      · exact ⟨k, rfl⟩
    · have hpush : ∀ i e, (es.push { key := enc k, val := v, born := clock })[i]? = some e ↔ es[i]? = some e ∨ (i = es.size ∧ e = { key := enc k, val := v, born := clock }) := fun i e => by
        rw [Array.getElem?_push]
        by_cases hi : i = es.size
        · subst hi
          simp
          exact eq_comm
        · simp [hi]
      unfold putM
      by_cases hk : k' = k
      · subst hk
        rw [if_pos rfl]
        constructor
        · intro hv
          cases hv
          exact ⟨es.size, _, (hpush _ _).2 (.inr ⟨rfl, rfl⟩), rfl, rfl⟩
        · rintro ⟨i, e, e1, e2, e3⟩
          rcases (hpush _ _).1 e1 with e1 | ⟨_, rfl⟩
          · exact absurd e2 (q5 e (by rw [← Array.getElem?_toList] at e1; exact List.mem_of_getElem? e1))
          · rw [← e3]
      · rw [if_neg hk, h5]
        constructor
        · rintro ⟨i, e, e1, e2, e3⟩
          exact ⟨i, e, (hpush _ _).2 (.inl e1), e2, e3⟩
        · rintro ⟨i, e, e1, e2, e3⟩
          rcases (hpush _ _).1 e1 with e1 | ⟨_, rfl⟩
          · exact ⟨i, e, e1, e2, e3⟩
          · exact absurd (K.inj _ _ e2).symm hk
  · have hkey : ∀ e', es[j]? = some e' → ({ e' with key := enc k, val := v } : MapEntry).key = e'.key := fun e' he' => by rw [q2] at he'; cases he'; exact q3.symm
    have hks : ∀ x ∈ es.toList, IsKey d x.key := fun x hx => by obtain ⟨k', e⟩ := h4 x hx; rw [e]; exact K.key k'
    have hrun : (Instr.mapUpdate T (.map (some b)) (enc k) v).run P w = .ok () { w with heap := w.heap.setIfInBounds b (.map (es.modify j fun e => { e with key := enc k, val := v }) clock) } := by
      simp [Instr.mapUpdate, run_underlying ht, MapKept.run_getObj_map h1, run_checkKey hd (K.key k), run_findKey hd q1, q2, q3, run_keyThatStays (K.key k), MapKept.run_setObj_map _ h1, Result.andThen]
    refine ⟨_, hrun, ⟨_, _, (MapKept.heap_set h1).1, stamped_modify h2 _ (fun e => { e with key := enc k, val := v }) (fun _ _ => rfl) (fun e' _ he' => hkey e' he'), ?_, ?_, fun k' v' => ?_⟩, touch_set, by simp⟩
    · rw [q4]; simp [h3]
    · intro x hx
      rw [← Array.mem_toList_iff.symm, Array.mem_iff_getElem?] at hx
      obtain ⟨i, hi⟩ := hx
      rw [Array.getElem?_modify] at hi
      by_cases hij : j = i
      · subst hij
        rw [if_pos rfl, q2] at hi
        cases hi
        exact ⟨k, rfl⟩
      · rw [if_neg hij] at hi
        exact h4 x (by rw [← Array.getElem?_toList] at hi; exact List.mem_of_getElem? hi)
    · have hmod : ∀ i e', (es.modify j fun e => { e with key := enc k, val := v })[i]? = some e' ↔ (i = j ∧ e' = { e with key := enc k, val := v }) ∨ (i ≠ j ∧ es[i]? = some e') := fun i e' => by
        rw [Array.getElem?_modify]
        by_cases hij : j = i
        · subst hij
          rw [if_pos rfl, q2]
          simp
          exact eq_comm
        · rw [if_neg hij]
          simp [Ne.symm hij]
      unfold putM
      by_cases hk : k' = k
      · subst hk
        rw [if_pos rfl]
        constructor
        · intro hv
          cases hv
          exact ⟨j, _, (hmod _ _).2 (.inl ⟨rfl, rfl⟩), rfl, rfl⟩
        · rintro ⟨i, e', e1, e2, e3⟩
          rcases (hmod _ _).1 e1 with ⟨_, rfl⟩ | ⟨hne, e1⟩
          · rw [← e3]
          · exact absurd (keys_apart h2 e1 q2 (e2.trans q3.symm)) hne
      · rw [if_neg hk, h5]
        constructor
        · rintro ⟨i, e', e1, e2, e3⟩
          refine ⟨i, e', (hmod _ _).2 (.inr ⟨fun hij => ?_, e1⟩), e2, e3⟩
          subst hij
          rw [q2] at e1
          cases e1
          exact hk (K.inj _ _ (e2.symm.trans q3))
        · rintro ⟨i, e', e1, e2, e3⟩
          rcases (hmod _ _).1 e1 with ⟨_, rfl⟩ | ⟨hne, e1⟩
          · exact absurd (K.inj _ _ e2).symm hk
          · exact ⟨i, e', e1, e2, e3⟩
/-- What is taken out. -/
theorem Mp.drop (K : KeyOk d enc) (ht : P.underlying T = some (.map kt et)) (hd : P.underlying kt = some d) (h : Mp enc w b m n) (k : κ) :
    ∃ w', (∀ ty, (Builtin.delete_ #[T, kt] ty #[.map (some b), enc k]).run P w = .ok (.tuple #[]) w') ∧ Mp enc w' b (dropM m k) (if (m k).isSome then n - 1 else n) ∧ Touch [b] w w' ∧ w'.heap.size = w.heap.size := by
  obtain ⟨es, clock, h1, h2, h3, h4, h5, ⟨q1, q2, q5⟩ | ⟨j, e, q1, q2, q3, q4⟩⟩ := h.find K k
  · refine ⟨_, fun ty => by simp [Builtin.delete_, run_underlying ht, MapKept.run_getObj_map h1, run_checkKey hd (K.key k), run_findKey hd q1, MapKept.run_setObj_map _ h1, Result.andThen], ⟨_, _, (MapKept.heap_set h1).1, h2, ?_, h4, fun k' v' => ?_⟩, touch_set, by simp⟩
    · rw [q2]; simpa using h3
    · unfold dropM
      by_cases hk : k' = k
      · subst hk
        rw [if_pos rfl, ← h5, q2]
      · rw [if_neg hk, h5]
  · have hlt : j < es.size := by
      by_cases hl : j < es.size
      · exact hl
      · rw [Array.getElem?_eq_none (by omega)] at q2; cases q2
    have her : es.eraseIdxIfInBounds j = es.eraseIdx j hlt := by unfold Array.eraseIdxIfInBounds; rw [dif_pos hlt]
    refine ⟨_, fun ty => by simp [Builtin.delete_, run_underlying ht, MapKept.run_getObj_map h1, run_checkKey hd (K.key k), run_findKey hd q1, MapKept.run_setObj_map _ h1, Result.andThen]; rfl, ⟨_, _, (MapKept.heap_set h1).1, stamped_erase h2 _, ?_, ?_, fun k' v' => ?_⟩, touch_set, by simp⟩
    · rw [q4, her]; simp [h3]
    · intro x hx
      rw [her, Array.toList_eraseIdx] at hx
      exact h4 x ((List.eraseIdx_sublist _ _).subset hx)
    · have hmod : ∀ e', (∃ i, (es.eraseIdxIfInBounds j)[i]? = some e') ↔ ∃ i, i ≠ j ∧ es[i]? = some e' := fun e' => by
        rw [her]
        have hx : ∀ i, (es.eraseIdx j hlt)[i]? = if i < j then es[i]? else es[i + 1]? := fun i => by
          rw [← Array.getElem?_toList, Array.toList_eraseIdx, List.getElem?_eraseIdx]
          simp
        constructor
        · rintro ⟨i, hi⟩
          rw [hx] at hi
          by_cases hl : i < j
          · rw [if_pos hl] at hi; exact ⟨i, by omega, hi⟩
          · rw [if_neg hl] at hi; exact ⟨i + 1, by omega, hi⟩
        · rintro ⟨i, hne, hi⟩
          by_cases hl : i < j
          · exact ⟨i, by rw [hx, if_pos hl]; exact hi⟩
          · refine ⟨i - 1, ?_⟩
            rw [hx, if_neg (by omega), show i - 1 + 1 = i from by omega]
            exact hi
      unfold dropM
      by_cases hk : k' = k
      · subst hk
        rw [if_pos rfl]
        constructor
        · intro hv; cases hv
        · rintro ⟨i, e', e1, e2, e3⟩
          obtain ⟨i', hne, e1⟩ := (hmod e').1 ⟨i, e1⟩
          exact absurd (keys_apart h2 e1 q2 (e2.trans q3.symm)) hne
      · rw [if_neg hk, h5]
        constructor
        · rintro ⟨i, e', e1, e2, e3⟩
          obtain ⟨i', e1'⟩ := (hmod e').2 ⟨i, fun hij => by
            subst hij
            rw [q2] at e1
            cases e1
            exact hk (K.inj _ _ (e2.symm.trans q3)), e1⟩
          exact ⟨i', e', e1', e2, e3⟩
        · rintro ⟨i, e', e1, e2, e3⟩
          obtain ⟨i', hne, e1'⟩ := (hmod e').1 ⟨i, e1⟩
          exact ⟨i', e', e1', e2, e3⟩
end
end Go.Proofs.YticglfmmjgnicaaGreat

set_option linter.unusedVariables false
namespace Go.Proofs.YticglfmmjgnicaaGreat
open Go.RowKit Go.BigFrame

theorem Sl.touchL {w w' : World} {v : Value} {xs : List Int} {S : List Nat} (h : Sl w v xs) (ht : Touch S w w') (hs : 0 < xs.length → ∀ k, v.ownBlock = some k → k ∉ S) : Sl w' v xs := by
  obtain ⟨a, cap, rfl, h | ⟨g, off, rfl, hlt, hr⟩⟩ := h
  · exact ⟨a, cap, rfl, .inl h⟩
  · by_cases h0 : 0 < xs.length
    · exact ⟨_, cap, rfl, .inr ⟨g, off, rfl, Nat.lt_of_lt_of_le hlt ht.size, hr.touch ht hlt (hs h0 g rfl)⟩⟩
    · exact ⟨_, cap, rfl, .inl (List.eq_nil_of_length_eq_zero (by omega))⟩
/-- A list whose numbers lie in none of the blocks S, and below M. -/
def Keep (w : World) (M : Nat) (S : List Nat) (v : Value) (xs : List Int) : Prop := Sl w v xs ∧ (0 < xs.length → ∀ k, v.ownBlock = some k → k ∉ S ∧ k < M)
theorem Keep.touch {w w' : World} {M : Nat} {S T : List Nat} {v : Value} {xs : List Int} (h : Keep w M S v xs) (ht : Touch T w w') (hT : ∀ k, k ∈ T → k ∈ S ∨ M ≤ k) : Keep w' M S v xs :=
  ⟨h.1.touchL ht (fun h0 k hk hm => by obtain ⟨h1, h2⟩ := h.2 h0 k hk; rcases hT k hm with h | h; exact h1 h; omega), h.2⟩
theorem Keep.mono {w : World} {M M' : Nat} {S : List Nat} {v : Value} {xs : List Int} (h : Keep w M S v xs) (hM : M ≤ M') : Keep w M' S v xs :=
  ⟨h.1, fun h0 k hk => ⟨(h.2 h0 k hk).1, by have := (h.2 h0 k hk).2; omega⟩⟩
/-- A list that was there ahead of all blocks of S. -/
theorem Keep.old {w0 w : World} {S : List Nat} {v : Value} {xs : List Int} (h : Sl w0 v xs) (ht : Touch [] w0 w) (hS : ∀ k, k ∈ S → w0.heap.size ≤ k) : Keep w w.heap.size S v xs :=
  ⟨h.touch ht (by simp), fun h0 k hk => by have := h.lt k hk h0; have h2 := ht.size; exact ⟨fun hm => by have := hS k hm; omega, by omega⟩⟩
/-- The rows of those who are left of n, by a map. -/
def RowsM (w : World) (M : Nat) (S : List Nat) (n : Nat) (out : List Int) (rows : List (List Int)) (m : Int → Option Value) : Prop :=
  ∀ k : Int, (freeB n out k = true → ∃ v, m k = some v ∧ Keep w M S v (rw_ rows k.toNat)) ∧ (freeB n out k = false → m k = none)
theorem RowsM.mono {w : World} {M M' : Nat} {S : List Nat} {n : Nat} {out : List Int} {rows : List (List Int)} {m : Int → Option Value} (h : RowsM w M S n out rows m) (hM : M ≤ M') : RowsM w M' S n out rows m :=
  fun k => ⟨fun hf => by obtain ⟨v, e, hk⟩ := (h k).1 hf; exact ⟨v, e, hk.mono hM⟩, (h k).2⟩
theorem RowsM.touch {w w' : World} {M : Nat} {S T : List Nat} {n : Nat} {out : List Int} {rows : List (List Int)} {m : Int → Option Value} (h : RowsM w M S n out rows m) (ht : Touch T w w') (hT : ∀ k, k ∈ T → k ∈ S ∨ M ≤ k) : RowsM w' M S n out rows m :=
  fun k => ⟨fun hf => by obtain ⟨v, e, hk⟩ := (h k).1 hf; exact ⟨v, e, hk.touch ht hT⟩, (h k).2⟩
theorem freeB_iff {n : Nat} {out : List Int} {k : Int} : freeB n out k = true ↔ 0 ≤ k ∧ k < n ∧ k ∉ out := by simp [freeB]
theorem RowsM.zero (w : World) (M : Nat) (S : List Nat) (rows : List (List Int)) : RowsM w M S 0 [] rows (fun _ => none) := fun k => ⟨fun hf => by have := freeB_iff.1 hf; omega, fun _ => rfl⟩
theorem RowsM.add {w : World} {M : Nat} {S : List Nat} {j : Nat} {rows : List (List Int)} {m : Int → Option Value} (h : RowsM w M S j [] rows m) {v : Value} (hv : Keep w M S v (rw_ rows j)) : RowsM w M S (j + 1) [] rows (putM m (j : Int) v) := fun k => by
  unfold putM
  by_cases hk : k = (j : Int)
  · subst hk
    rw [if_pos rfl]
    exact ⟨fun _ => ⟨v, rfl, by simpa using hv⟩, fun hf => by
      have : freeB (j + 1) [] (j : Int) = true := freeB_iff.2 ⟨by omega, by omega, by simp⟩
      rw [this] at hf; cases hf⟩
  · rw [if_neg hk]
    have e : freeB (j + 1) [] k = freeB j [] k := by
      rw [Bool.eq_iff_iff, freeB_iff, freeB_iff]
      constructor
      · rintro ⟨a, b, c⟩; exact ⟨a, by omega, c⟩
      · rintro ⟨a, b, c⟩; exact ⟨a, by omega, c⟩
    rw [e]
    exact h k
theorem RowsM.del {w : World} {M : Nat} {S : List Nat} {n : Nat} {out : List Int} {rows : List (List Int)} {m : Int → Option Value} (h : RowsM w M S n out rows m) (i : Int) : RowsM w M S n (out ++ [i]) rows (dropM m i) := fun k => by
  unfold dropM
  by_cases hk : k = i
  · subst hk
    rw [if_pos rfl]
    exact ⟨fun hf => absurd (by simp) (freeB_iff.1 hf).2.2, fun _ => rfl⟩
  · rw [if_neg hk]
    have e : freeB n (out ++ [i]) k = freeB n out k := by
      rw [Bool.eq_iff_iff, freeB_iff, freeB_iff]
      simp [hk]
    rw [e]
    exact h k
/-- The blocks that are turned. -/
def Sx (va : Value) (bh ba : Nat) : List Nat := va.ownBlock.toList ++ [bh, ba]
theorem Sx_mem {va : Value} {bh ba k : Nat} : k ∈ Sx va bh ba ↔ va.ownBlock = some k ∨ k = bh ∨ k = ba := by
  unfold Sx
  rw [List.mem_append, Option.mem_toList]
  simp
/-- The object at b; all that it has lies from base on, below M. -/
structure Rst (w : World) (base M b bh ba : Nat) (va : Value) (n : Nat) (hs ds : List (List Int)) (W out : List Int) : Prop where
  obj : Blk w b #[va, .map (some bh), .map (some ba)] 126
  av : Qu w base 3 va (W.map (Value.int .i64))
  avb : ∀ k, va.ownBlock = some k → k ≠ b ∧ k ≠ bh ∧ k ≠ ba ∧ k < M
  held : ∃ m c, Mp (Value.int .i64) w bh m c ∧ RowsM w M (Sx va bh ba) n out hs m
  asks : ∃ m c, Mp (Value.int .i64) w ba m c ∧ RowsM w M (Sx va bh ba) n out ds m
  lo : base ≤ b ∧ base ≤ bh ∧ base ≤ ba
  hi : b < M ∧ bh < M ∧ ba < M
  ne : b ≠ bh ∧ b ≠ ba ∧ bh ≠ ba
/-- Where nothing of it is touched. -/
theorem Rst.touchHi {w w' : World} {base M b bh ba : Nat} {va : Value} {n : Nat} {hs ds : List (List Int)} {W out : List Int} {T : List Nat} (h : Rst w base M b bh ba va n hs ds W out) (ht : Touch T w w') (hT : ∀ k, k ∈ T → M ≤ k) : Rst w' base M b bh ba va n hs ds W out := by
  obtain ⟨m1, c1, h1, h2⟩ := h.held
  obtain ⟨m2, c2, h3, h4⟩ := h.asks
  obtain ⟨p1, p2, p3⟩ := h.hi
  exact ⟨h.obj.touch ht (fun hm => by have := hT _ hm; omega), h.av.touch ht (fun k hk hm => by have := hT _ hm; have := (h.avb k hk).2.2.2; omega), h.avb, ⟨m1, c1, h1.touch ht (fun hm => by have := hT _ hm; omega), h2.touch ht (fun k hk => .inr (hT k hk))⟩,
    ⟨m2, c2, h3.touch ht (fun hm => by have := hT _ hm; omega), h4.touch ht (fun k hk => .inr (hT k hk))⟩, h.lo, h.hi, h.ne⟩
theorem Rst.touch {w w' : World} {base M b bh ba : Nat} {va : Value} {n : Nat} {hs ds : List (List Int)} {W out : List Int} (h : Rst w base M b bh ba va n hs ds W out) (ht : Touch [] w w') : Rst w' base M b bh ba va n hs ds W out := h.touchHi ht (by simp)
theorem Rst.mono {w : World} {base M M' b bh ba : Nat} {va : Value} {n : Nat} {hs ds : List (List Int)} {W out : List Int} (h : Rst w base M b bh ba va n hs ds W out) (hM : M ≤ M') : Rst w base M' b bh ba va n hs ds W out := by
  obtain ⟨m1, c1, h1, h2⟩ := h.held
  obtain ⟨m2, c2, h3, h4⟩ := h.asks
  obtain ⟨p1, p2, p3⟩ := h.hi
  exact ⟨h.obj, h.av, fun k hk => by have := h.avb k hk; omega, ⟨m1, c1, h1, h2.mono hM⟩, ⟨m2, c2, h3, h4.mono hM⟩, h.lo, by omega, h.ne⟩
theorem zeroR (w : World) : (zeroValue 22).run Tryz.prog w = .ok (.slice none 0 0) w := by kernel_rfl
theorem Mp.lookR {w : World} {b n : Nat} {m : Int → Option Value} (h : Mp (Value.int .i64) w b m n) (k : Int) : (Instr.lookup 69 (.map (some b)) (.int .i64 k) false).run Tryz.prog w = .ok ((m k).getD (.slice none 0 0)) w :=
  h.look intKey Tryz.underlying69 Tryz.underlying3 (zeroR w) k
theorem Mp.lookRO {w : World} {b n : Nat} {m : Int → Option Value} (h : Mp (Value.int .i64) w b m n) (k : Int) : (Instr.lookup 69 (.map (some b)) (.int .i64 k) true).run Tryz.prog w = .ok (.tuple #[(m k).getD (.slice none 0 0), .bool (m k).isSome]) w :=
  h.lookOk intKey Tryz.underlying69 Tryz.underlying3 (zeroR w) k
theorem Mp.putR {w : World} {b n : Nat} {m : Int → Option Value} (h : Mp (Value.int .i64) w b m n) (k : Int) (v : Value) : ∃ w', (Instr.mapUpdate 69 (.map (some b)) (.int .i64 k) v).run Tryz.prog w = .ok () w' ∧ (∃ c, Mp (Value.int .i64) w' b (putM m k v) c) ∧ Touch [b] w w' ∧ w'.heap.size = w.heap.size := by
  obtain ⟨w', h1, h2, h3, h4⟩ := h.put intKey Tryz.underlying69 Tryz.underlying3 k v
  exact ⟨w', h1, ⟨_, h2⟩, h3, h4⟩

set_option maxHeartbeats 4000000 in
theorem canNext_q (base M b bh ba : Nat) (va : Value) (n : Nat) (hs ds : List (List Int)) (W out : List Int) (i : Int) (bb : Bool) (w : World) (h : Rst w base M b bh ba va n hs ds W out) (l1 : W.length ≤ 1000) (l2 : ∀ k, k < n → (rw_ ds k).length ≤ 1000)
    (hb : (freeB n out i && fitsB (rw_ ds i.toNat) W) = bb) :
    Calls Tryz.prog 85 #[.pointer (some ⟨b, 0, none⟩), .int .i64 i] w fun e w' => e = .returned (.bool bb) ∧ Touch [] w w' := by
  subst hb
  have HR := Lib.hid h
  obtain ⟨a, cap, hv⟩ := h.av.form
  subst hv
  have x0 := h.obj.cell (i := 0) rfl
  have x2 := h.obj.cell (i := 2) rfl
  obtain ⟨m, c, hm, hr⟩ := h.asks
  have hk := hm.lookRO i
  have SW := Lib.hid (Qu.sl h.av)
  cases hf : freeB n out i with
  | false =>
    rw [(hr i).2 hf] at hk
    have hk : (Instr.lookup 69 (.map (some ba)) (.int .i64 i) true).run Tryz.prog w = .ok (.tuple #[.slice none 0 0, .bool false]) w := hk
    rw [Bool.false_and]
    clear h hm hr hf
    go_enter Tryz.func85, Tryz.ntmps85
    go_wp2
    go_ret
    exact ⟨rfl, Touch.refl _ _⟩
  | true =>
    obtain ⟨v, hv, hq⟩ := (hr i).1 hf
    rw [hv] at hk
    have hk : (Instr.lookup 69 (.map (some ba)) (.int .i64 i) true).run Tryz.prog w = .ok (.tuple #[v, .bool true]) w := hk
    obtain ⟨av, cv, hv2⟩ := hq.1.form
    subst hv2
    have SV := Lib.hid hq.1
    have HL : Hid ((rw_ ds i.toNat).length ≤ 1000000) := Lib.hid (by
      have := freeB_iff.1 hf
      have := l2 i.toNat (by omega)
      omega)
    rw [Bool.true_and]
    obtain ⟨bb, hbb⟩ : ∃ bb, fitsB (rw_ ds i.toNat) W = bb := ⟨_, rfl⟩
    have HB := Lib.hid hbb
    rw [hbb]
    have HL1 := Lib.hid l1
    clear h hm hr hf hv hq hbb l2
    go_enter Tryz.func85, Tryz.ntmps85
    go_wp2_with fail
    refine (fits_q _ _ (rw_ ds i.toNat) W bb _ SV.out SW.out HL.out (by have := HL1.out; omega) HB.out).mono ?_
    rintro e w2 ⟨rfl, ht⟩
    have HT := Lib.hid ht
    clear ht
    go_wp2
    go_ret
    exact ⟨rfl, HT.out⟩
end Go.Proofs.YticglfmmjgnicaaGreat

set_option linter.unusedVariables false
namespace Go.Proofs.YticglfmmjgnicaaGreat
open Go.RowKit Go.BigFrame

theorem Mp.dropR {w : World} {b n : Nat} {m : Int → Option Value} (h : Mp (Value.int .i64) w b m n) (k : Int) : ∃ w', (∀ ty, (Builtin.delete_ #[69, 3] ty #[.map (some b), .int .i64 k]).run Tryz.prog w = .ok (.tuple #[]) w') ∧ (∃ c, Mp (Value.int .i64) w' b (dropM m k) c) ∧ Touch [b] w w' ∧ w'.heap.size = w.heap.size := by
  obtain ⟨w', h1, h2, h3, h4⟩ := h.drop intKey Tryz.underlying69 Tryz.underlying3 k
  exact ⟨w', h1, ⟨_, h2⟩, h3, h4⟩
def RstP (base M b bh ba : Nat) (va : Value) (n : Nat) (hs ds : List (List Int)) (W out : List Int) (w : World) (e : Ending) (w' : World) : Prop :=
  e = .returned (.tuple #[]) ∧ Rst w' base M b bh ba va n hs ds W out ∧ Touch (Sx va bh ba) w w'
set_option maxHeartbeats 8000000 in
theorem complete_q (base M b bh ba : Nat) (va : Value) (n : Nat) (hs ds : List (List Int)) (W out : List Int) (i0 : Int) (w : World) (h : Rst w base M b bh ba va n hs ds W out) (hf : freeB n out i0 = true) (l1 : W.length ≤ 1000) (l2 : (rw_ hs i0.toNat).length = W.length)
    (m1 : ∀ k, k < W.length → 0 ≤ W.getD k 0 ∧ W.getD k 0 ≤ 1000000) (m2 : ∀ k, k < W.length → 0 ≤ (rw_ hs i0.toNat).getD k 0 ∧ (rw_ hs i0.toNat).getD k 0 ≤ 1000) :
    Calls Tryz.prog 86 #[.pointer (some ⟨b, 0, none⟩), .int .i64 i0] w (RstP base M b bh ba va n hs ds (addW W (rw_ hs i0.toNat)) (out ++ [i0]) w) := by
  have HR := Lib.hid h
  obtain ⟨m, c, hm, hr⟩ := h.held
  obtain ⟨v, hv0, hq⟩ := (hr i0).1 hf
  have hk0 := hm.lookR i0
  rw [hv0] at hk0
  have hk : (Instr.lookup 69 (.map (some bh)) (.int .i64 i0) false).run Tryz.prog w = .ok v w := hk0
  clear hk0
  obtain ⟨ah, ch, hv2⟩ := hq.1.form
  subst hv2
  have HK := Lib.hid hq
  obtain ⟨a, cap, hv⟩ := h.av.form
  subst hv
  obtain ⟨L, hL⟩ : ∃ L, W.length = L := ⟨_, rfl⟩
  have HL := Lib.hid hL
  have HL2 := Lib.hid l2
  have M1 := Lib.hid m1
  have M2 := Lib.hid m2
  have x1 : w.cell? ⟨b, 1, none⟩ = some (.map (some bh)) := h.obj.cell (i := 1) rfl
  have HN := Lib.hid h.ne
  have HAV := Lib.hid h.avb
  have HO := Lib.hid h.obj
  rw [l2] at hk HK
  rw [hL] at hk HK HR M1 M2 HO HAV l1 ⊢
  clear h hm hr hq l2 m1 m2 hL hv0
  go_enter Tryz.func86, Tryz.ntmps86
  go_wp2_with fail
  go_loopw [13] (fun i wr => ∃ j : Nat, j ≤ L ∧ i = .int .i64 j ∧ Qu wr base 3 (.slice a L cap) ((partW W (rw_ hs i0.toNat) j).map (Value.int .i64)) ∧ Touch (Value.ownBlock (.slice a L cap)).toList w wr) (fun i _ => L + 1 - (intOf i).toNat)
  case atStart => exact ⟨0, by omega, rfl, by rw [partW_zero]; exact HR.out.av, Touch.refl _ _⟩
  case round =>
    obtain ⟨j, hj, rfl, hq, ht⟩ := hrel
    have HT := Lib.hid ht
    by_cases hjn : j < L
    · have hlt : (j : Int) < (L : Int) := by omega
      obtain ⟨g, off, c, he, hg, hgl, hfz, hc, hset⟩ := hq.setI j (by rw [partW_length, HL.out]; exact hjn)
      rw [partW_length, HL.out] at he
      cases he
      have hgb : g ≠ b := (HAV.out g rfl).1
      have hks := HK.out.1.touchL ht (fun h0 k hk hm => (HK.out.2 h0 k hk).1 (Sx_mem.2 (.inl (Option.mem_toList.1 hm))))
      obtain ⟨gh, oh, rfl, xh⟩ := hks.ix (q := j) (by rw [HL2.out, HL.out]; exact hjn)
      have x2 := xh _ (Touch.refl _ _)
      have x3 : wr.cell? ⟨b, 0, none⟩ = some (.slice (some ⟨g, off, none⟩) L cap) := (HO.out.touch ht (by simp [Value.ownBlock]; exact fun e => hgb e.symm)).cell (i := 0) rfl
      rw [partW_get _ _ _ (by rw [HL.out]; exact hjn)] at hc
      obtain ⟨y1, y2⟩ := M1.out j hjn
      obtain ⟨z1, z2⟩ := M2.out j hjn
      have HS : Hid (Qu (wr.setCell ⟨g, off + j, none⟩ (.int .i64 (W.getD j 0 + (rw_ hs i0.toNat).getD j 0))) base 3 (.slice (some ⟨g, off, none⟩) L cap) ((partW W (rw_ hs i0.toNat) (j + 1)).map (Value.int .i64))) := Lib.hid (by rw [← partW_set]; exact hset _)
      have HT2 : Hid (Touch (Value.ownBlock (.slice (some ⟨g, off, none⟩) L cap)).toList w (wr.setCell ⟨g, off + j, none⟩ (.int .i64 (W.getD j 0 + (rw_ hs i0.toNat).getD j 0)))) := Lib.hid (HT.out.setCell (by simp [Value.ownBlock]) _)
      obtain ⟨y, hy⟩ : ∃ x, W.getD j 0 = x := ⟨_, rfl⟩
      obtain ⟨z, hz⟩ : ∃ x, (rw_ hs i0.toNat).getD j 0 = x := ⟨_, rfl⟩
      rw [hy] at hc y1 y2 HS HT2
      rw [hz] at x2 z1 z2 HS HT2
      have hf2 := hfz (off + j)
      have v1 : IntKind.i64.wrap (y + z) = y + z := IntWalk.i64_in _ (by omega)
      clear xh ht hy hz hq hset hfz hks hk x1 hgb
      go_wp2
      go_roundw
      case rel => exact ⟨j + 1, by omega, by go_num, HS.out, HT2.out⟩
      case measure => simp [intOf]; omega
    · have hlt : ¬ (j : Int) < (L : Int) := by omega
      obtain rfl : j = L := by omega
      have HQ : Hid (Qu wr base 3 (.slice a j cap) ((addW W (rw_ hs i0.toNat)).map (Value.int .i64))) := Lib.hid (by rw [← partW_all, HL.out]; exact hq)
      clear hq
      obtain ⟨n2, n3, n6⟩ := HN.out
      have hb : ∀ k, k ∈ (Value.ownBlock (.slice a j cap)).toList → k ≠ b ∧ k ≠ bh ∧ k ≠ ba := fun k hk => by have := HAV.out k (Option.mem_toList.1 hk); exact ⟨this.1, this.2.1, this.2.2.1⟩
      have hx : ∀ k, k ∈ (Value.ownBlock (.slice a j cap)).toList → k ∈ Sx (.slice a j cap) bh ba := fun k hk => Sx_mem.2 (.inl (Option.mem_toList.1 hk))
      obtain ⟨m1, c1, h1, h2⟩ := HR.out.held
      obtain ⟨m2, c2, h3, h4⟩ := HR.out.asks
      have h1 := h1.touch ht (fun hm => (hb _ hm).2.1 rfl)
      have h3 := h3.touch ht (fun hm => (hb _ hm).2.2 rfl)
      have h2 := (h2.touch ht (fun k hk => .inl (hx k hk))).del i0
      have h4 := (h4.touch ht (fun k hk => .inl (hx k hk))).del i0
      obtain ⟨w1, hd1, ⟨c1', h1⟩, t1, _⟩ := h1.dropR i0
      have h3 := h3.touch t1 (by simpa using Ne.symm n6)
      obtain ⟨w2, hd2, ⟨c2', h3⟩, t2, _⟩ := h3.dropR i0
      have s1 : ∀ k, k ∈ [bh] → k ∈ Sx (.slice a j cap) bh ba ∨ M ≤ k := fun k hk => .inl (Sx_mem.2 (.inr (.inl (by simpa using hk))))
      have s2 : ∀ k, k ∈ [ba] → k ∈ Sx (.slice a j cap) bh ba ∨ M ≤ k := fun k hk => .inl (Sx_mem.2 (.inr (.inr (by simpa using hk))))
      have ho0 := HO.out.touch ht (fun hm => (hb _ hm).1 rfl)
      have y1 : wr.cell? ⟨b, 1, none⟩ = some (.map (some bh)) := ho0.cell (i := 1) rfl
      have ho1 := ho0.touch t1 (by simpa using n2)
      have y2 : w1.cell? ⟨b, 2, none⟩ = some (.map (some ba)) := ho1.cell (i := 2) rfl
      have HF : Hid (Rst w2 base M b bh ba (.slice a j cap) n hs ds (addW W (rw_ hs i0.toNat)) (out ++ [i0])) := Lib.hid
        ⟨ho1.touch t2 (by simpa using n3), (HQ.out.touch t1 (fun k hk => by have := HAV.out k hk; simp; omega)).touch t2 (fun k hk => by have := HAV.out k hk; simp; omega), HAV.out,
          ⟨_, _, h1.touch t2 (by simpa using n6), (h2.touch t1 s1).touch t2 s2⟩, ⟨_, _, h3, (h4.touch t1 s1).touch t2 s2⟩, HR.out.lo, HR.out.hi, HN.out⟩
      have HT2 : Hid (Touch (Sx (.slice a j cap) bh ba) w w2) := Lib.hid (((ht.mono hx).trans (t1.mono (fun k hk => Sx_mem.2 (.inr (.inl (by simpa using hk)))))).trans (t2.mono (fun k hk => Sx_mem.2 (.inr (.inr (by simpa using hk))))))
      clear ht h1 h2 h3 h4 t1 t2 ho0 ho1 n2 n3 n6 hk x1 hb hx s1 s2
      go_wp2
      go_end0
      exact ⟨rfl, HF.out, HT2.out⟩
end Go.Proofs.YticglfmmjgnicaaGreat

set_option linter.unusedVariables false
namespace Go.Proofs.YticglfmmjgnicaaGreat
open Go.RowKit Go.BigFrame

def dsL (hs cs : List (List Int)) : List (List Int) := (List.range hs.length).map fun i => (mergeL false (rw_ cs i) (rw_ hs i)).getD []
theorem dsL_at {hs cs : List (List Int)} {i : Nat} (hi : i < hs.length) : rw_ (dsL hs cs) i = (mergeL false (rw_ cs i) (rw_ hs i)).getD [] := by simp [rw_, dsL, hi]
theorem mayB_is {x : Int} (h : mayB x = true) : 0 ≤ x ∧ x ≤ 1000 := of_decide_eq_true h
theorem isB_at {xs : List Int} {n k : Nat} (h : isB xs n = true) (hk : k < n) : 0 ≤ xs.getD k 0 ∧ xs.getD k 0 ≤ 1000 := by
  have hl := isB_len h
  unfold isB at h
  rw [Bool.and_eq_true] at h
  exact mayB_is (all_at h.2 (by omega))
/-- What may be asked still: the difference. -/
theorem less_row {n : Nat} {hs cs : List (List Int)} {i : Nat} (h : okRow n hs cs i = true) : ∃ d, mergeL false (rw_ cs i) (rw_ hs i) = some d ∧ d.length = n ∧ ∀ k, k < n → d.getD k 0 = (rw_ cs i).getD k 0 - (rw_ hs i).getD k 0 := by
  obtain ⟨l1, l2⟩ := okRow_len h
  unfold okRow at h
  rw [Bool.and_eq_true, Bool.and_eq_true] at h
  obtain ⟨h1, h2, h3⟩ := h
  have hf := (fitsB_is h3).2
  rw [l1] at hf
  refine ⟨(List.range n).map fun k => (rw_ cs i).getD k 0 - (rw_ hs i).getD k 0, mergeL_of (by omega) (by simp [l2]) (fun k hk => ?_), by simp, fun k hk => by simp [hk]⟩
  have a := isB_at h1 (k := k) (by omega)
  have b := isB_at h2 (k := k) (by omega)
  have c := hf k (by omega)
  have e : ((List.range n).map fun k => (rw_ cs i).getD k 0 - (rw_ hs i).getD k 0).getD k 0 = (rw_ cs i).getD k 0 - (rw_ hs i).getD k 0 := by simp [show k < n by omega]
  refine ⟨dT b, dT a, ?_, by rw [e]; rfl⟩
  rw [e]
  exact dT ⟨by omega, by omega⟩
def StartP (xs : List Int) (hs cs : List (List Int)) (w : World) (e : Ending) (w' : World) : Prop :=
  ∃ b bh ba va, e = .returned (.pointer (some ⟨b, 0, none⟩)) ∧ Rst w' w.heap.size w'.heap.size b bh ba va hs.length hs (dsL hs cs) xs [] ∧ Touch [] w w'
set_option maxHeartbeats 16000000 in
theorem start_any (va vh vc : Value) (xs : List Int) (hs cs : List (List Int)) (w : World) (ha : Sl w va xs) (hh : Rws w vh hs) (hc : Rws w vc cs) (hm : BMay xs hs cs) :
    Calls Tryz.prog 84 #[va, vh, vc] w (StartP xs hs cs w) := by
  have HM := Lib.hid hm
  have HA := Lib.hid ha
  have HH := Lib.hid hh
  have HC := Lib.hid hc
  obtain ⟨aa, ca, rfl⟩ := ha.form
  obtain ⟨ah, ch, rfl⟩ := hh.form
  obtain ⟨ac, cc, rfl⟩ := hc.form
  obtain ⟨L, hL⟩ : ∃ L, xs.length = L := ⟨_, rfl⟩
  obtain ⟨H, hH⟩ : ∃ L, hs.length = L := ⟨_, rfl⟩
  have HL := Lib.hid hL
  have HHl := Lib.hid hH
  have HCl : Hid (cs.length = H) := Lib.hid (by rw [← hm.e]; exact hH)
  have h32 : (H : Int) ≤ 32 := by have := hm.m; omega
  have hmm := @run_makeMap Tryz.prog
  rw [hL] at HA ⊢
  rw [hH] at HH ⊢
  rw [HCl.out] at HC ⊢
  clear ha hh hc hL hH hm
  go_enter Tryz.func84, Tryz.ntmps84
  go_wp2_with fail
  refine (clone_any _ xs _ HA.out (by have := HM.out.l; omega)).mono ?_
  rintro e w1 ⟨v, rfl, hq, ht⟩
  obtain ⟨a, cap, hv⟩ := hq.form
  rw [HL.out] at hv
  subst hv
  have HQ := Lib.hid hq
  have HT := Lib.hid ht
  clear hq ht
  go_wp2_with fail
  obtain ⟨B1, hB1⟩ : ∃ n, w1.heap.size = n := ⟨_, rfl⟩
  have HG : Hid (∀ k, (Value.slice a L cap).ownBlock = some k → w.heap.size ≤ k ∧ k < B1) := Lib.hid (fun k hk => by have := HQ.out.own k hk; omega)
  have HB1 : Hid (w.heap.size ≤ B1) := Lib.hid (by have := HT.out.size; omega)
  rw [hB1]
  obtain ⟨W3, hW3⟩ : ∃ W, (((w1.alloc (Obj.map #[] 0)).alloc (Obj.map #[] 0)).alloc (Obj.cells #[Value.slice a L cap, Value.map (some B1), Value.map (some (B1 + 1))] 126)) = W := ⟨_, rfl⟩
  have HT3 : Hid (Touch [] w1 W3) := Lib.hid (by rw [← hW3]; exact (((Touch.refl _ _).alloc _).alloc _).alloc _)
  have HZ3 : Hid (W3.heap.size = B1 + 1 + 1 + 1) := Lib.hid (by rw [← hW3]; simp [hB1])
  have HR0 : Hid (Rst W3 w.heap.size W3.heap.size (B1 + 1 + 1) B1 (B1 + 1) (.slice a L cap) 0 hs (dsL hs cs) xs []) := Lib.hid (by
    have hl := HB1.out
    have hz := HZ3.out
    have e1 : Mp (Value.int .i64) W3 B1 (fun _ => none) 0 := by
      rw [← hW3, ← hB1]
      exact (Mp.new.touch ((Touch.refl [] _).alloc _) (by simp)).touch ((Touch.refl [] _).alloc _) (by simp)
    have e2 : Mp (Value.int .i64) W3 (B1 + 1) (fun _ => none) 0 := by
      have := (Mp.new (enc := Value.int .i64) (w := w1.alloc (Obj.map #[] 0))).touch ((Touch.refl [] _).alloc (Obj.cells #[Value.slice a L cap, Value.map (some B1), Value.map (some (B1 + 1))] 126)) (by simp)
      rw [World.size_alloc, hB1, hW3] at this
      exact this
    have e3 : Blk W3 (B1 + 1 + 1) #[.slice a L cap, .map (some B1), .map (some (B1 + 1))] 126 := by
      rw [← hW3]
      exact Blk.new (by simp [hB1])
    exact ⟨e3, HQ.out.touch HT3.out (fun _ _ => by simp), fun k hk => by have := HG.out k hk; omega, ⟨_, _, e1, RowsM.zero _ _ _ _⟩, ⟨_, _, e2, RowsM.zero _ _ _ _⟩, by omega, by omega, by omega⟩)
  have HT0 : Hid (Touch [] w W3) := Lib.hid (HT.out.trans HT3.out)
  rw [hW3]
  clear hW3 HT3 hB1 HT HZ3
  go_loopw [17] (fun i wr => ∃ j : Nat, j ≤ H ∧ i = .int .i64 j ∧ Rst wr w.heap.size wr.heap.size (B1 + 1 + 1) B1 (B1 + 1) (.slice a L cap) j hs (dsL hs cs) xs [] ∧ Touch [] w wr) (fun i _ => H + 1 - (intOf i).toNat)
  case atStart => exact ⟨0, by omega, rfl, HR0.out, HT0.out⟩
  case round =>
    clear HR0 HT0
    obtain ⟨j, hj, rfl, hr, ht⟩ := hrel
    have HR := Lib.hid hr
    have HT := Lib.hid ht
    by_cases hjn : j < H
    · have hlt : (j : Int) < (H : Int) := by omega
      have hjh : j < hs.length := by rw [HHl.out]; exact hjn
      have HOK := Lib.hid (HM.out.r j hjh)
      obtain ⟨gh, oh, rfl, rah, rch, sh, xh⟩ := HH.out.at hjh
      obtain ⟨gc, oc, rfl, rac, rcc, sc, xc⟩ := HC.out.at (i := j) (by rw [HCl.out]; exact hjn)
      have hlr := okRow_len HOK.out
      rw [HL.out] at hlr
      have HLR := Lib.hid hlr
      rw [hlr.1] at sh xh
      rw [hlr.2] at sc xc
      have SH := Lib.hid sh
      have SC := Lib.hid sc
      have XH := Lib.hid xh
      have XC := Lib.hid xc
      have x1 : wr.cell? ⟨B1 + 1 + 1, 1, none⟩ = some (.map (some B1)) := hr.obj.cell (i := 1) rfl
      have x2 := xh _ ht
      have hl := HB1.out
      obtain ⟨m1, c1, h1, h2⟩ := hr.held
      obtain ⟨w2, hup, ⟨c1', h1⟩, t1, hs1⟩ := (show Mp (Value.int .i64) wr.drew B1 m1 c1 from h1).putR (j : Int) (.slice rah L rch)
      have t1 : Touch [B1] wr w2 := (((Touch.refl [] wr).drew).mono (by simp)).trans t1
      have HW2 : Hid (Touch [] w w2) := Lib.hid (ht.transF t1 (fun i hi hlt => by simp at hi; omega))
      have hsz : w2.heap.size = wr.heap.size := hs1
      have HH3 := Lib.hid hr.hi
      have HSZ := Lib.hid hsz
      have HR2 : Hid (Blk w2 (B1 + 1 + 1) #[.slice a L cap, .map (some B1), .map (some (B1 + 1))] 126 ∧ Qu w2 w.heap.size 3 (.slice a L cap) (xs.map (Value.int .i64)) ∧
          (∃ m c, Mp (Value.int .i64) w2 B1 m c ∧ RowsM w2 w2.heap.size (Sx (.slice a L cap) B1 (B1 + 1)) (j + 1) [] hs m) ∧ (∃ m c, Mp (Value.int .i64) w2 (B1 + 1) m c ∧ RowsM w2 w2.heap.size (Sx (.slice a L cap) B1 (B1 + 1)) j [] (dsL hs cs) m)) := Lib.hid (by
        obtain ⟨m2, c2, h3, h4⟩ := hr.asks
        have s1 : ∀ k, k ∈ [B1] → k ∈ Sx (.slice a L cap) B1 (B1 + 1) ∨ wr.heap.size ≤ k := fun k hk => .inl (Sx_mem.2 (.inr (.inl (by simpa using hk))))
        refine ⟨hr.obj.touch t1 (by simp; omega), hr.av.touch t1 (fun k hk => by have := HG.out k hk; simp; omega), ⟨_, _, h1, ?_⟩, ⟨_, _, h3.touch t1 (by simp), (h4.touch t1 s1).mono (by omega)⟩⟩
        refine ((h2.touch t1 s1).mono (by omega)).add ?_
        exact Keep.old sh HW2.out (fun k hk => by rcases Sx_mem.1 hk with h | h | h; exact (HG.out k h).1; omega; omega))
      clear hr ht h1 h2 t1 hs1 hl hlr sh sc xh xc hjh hsz
      go_wp2_with fail
      go_region
      clear x1 x2 hup
      go_wp2_with fail
      obtain ⟨hobj, hqu, hheld, m2, c2, h3, h4⟩ := HR2.out
      have HMP := Lib.hid h3
      have HRM := Lib.hid h4
      have HOB := Lib.hid hobj
      have HQU := Lib.hid hqu
      have HHE := Lib.hid hheld
      obtain ⟨d, hd, hdl, hdk⟩ := less_row HOK.out
      have HD := Lib.hid hd
      rw [HL.out] at hdl
      have HDL := Lib.hid hdl
      have y2 : w2.cell? ⟨B1 + 1 + 1, 2, none⟩ = some (.map (some (B1 + 1))) := hobj.cell (i := 2) rfl
      have z1 := XC.out w2 HW2.out
      have z2 := XH.out w2 HW2.out
      have HA := Lib.hid ((Touch.refl [] w2).drew : Touch [] w2 (World.drew w2))
      clear hobj hqu hheld h3 h4 hd hdl hdk HR2
      go_region_held3 (fun w' => w'.cell? ⟨B1 + 1 + 1, 2, none⟩ = some (.map (some (B1 + 1))) ∧ w'.cell? ⟨gc, oc + j, none⟩ = some (.slice rac L rcc) ∧ w'.cell? ⟨gh, oh + j, none⟩ = some (.slice rah L rch)) (first | go_keep | exact ⟨HOB4.out.cell (i := 2) rfl, XC.out _ HW4.out, XH.out _ HW4.out⟩ | exact ⟨(HOB.out.touch HA.out (by simp)).cell (i := 2) rfl, XC.out _ (HW2.out.trans HA.out), XH.out _ (HW2.out.trans HA.out)⟩)
        ((go_at_call 99; refine (less_q _ _ (rw_ cs j) (rw_ hs j) _ (SC.out.touch (HW2.out.trans HA.out) (by simp)) (SH.out.touch (HW2.out.trans HA.out) (by simp)) (by have := HLR.out.2; have := HM.out.l; have := HL.out; omega) (by have := HLR.out.1; have := HM.out.l; have := HL.out; omega)).mono ?_
          rintro e w3 hp
          rw [HD.out] at hp
          obtain ⟨da, dc, rfl, hdq, hdt⟩ := hp
          have HA := Lib.hid (HA.out.trans hdt)
          have HDQ := Lib.hid hdq
          obtain ⟨w4, hup, ⟨c4, h5⟩, t4, hs4⟩ := (HMP.out.touch HA.out (by simp)).putR (j : Int) (.slice da d.length dc)
          have HUP := Lib.hid (And.intro h5 t4)
          have HOB4 := Lib.hid ((HOB.out.touch HA.out (by simp)).touch t4 (by simp))
          have HW4 : Hid (Touch [] w w4) := Lib.hid ((HW2.out.trans HA.out).transF t4 (fun i hi hlt => by have := HB1.out; simp at hi; omega))
          clear hdt hdq h5 t4 hs4))
      have HRN : Hid (Rst w4 w.heap.size w4.heap.size (B1 + 1 + 1) B1 (B1 + 1) (.slice a L cap) (j + 1) hs (dsL hs cs) xs []) := Lib.hid (by
        obtain ⟨h5, t4⟩ := HUP.out
        obtain ⟨m1, c1, p1, p2⟩ := HHE.out
        obtain ⟨q1, q2, q3⟩ := HH3.out
        have hl := HB1.out
        have hz := HSZ.out
        have hz2 := HA.out.size
        have hz3 := t4.size
        have s1 : ∀ k, k ∈ [B1 + 1] → k ∈ Sx (.slice a L cap) B1 (B1 + 1) ∨ w2.heap.size ≤ k := fun k hk => .inl (Sx_mem.2 (.inr (.inr (by simpa using hk))))
        refine ⟨HOB4.out, (HQU.out.touch HA.out (fun _ _ => by simp)).touch t4 (fun k hk => by have := HG.out k hk; simp; omega), fun k hk => by have := HG.out k hk; omega, ⟨m1, c1, (p1.touch HA.out (by simp)).touch t4 (by simp), ((p2.touch HA.out (by simp)).touch t4 s1).mono (by omega)⟩, ⟨_, _, h5, ?_⟩, by omega, by omega, by omega⟩
        refine (((HRM.out.touch HA.out (by simp)).touch t4 s1).mono (by omega)).add ?_
        rw [dsL_at (by rw [HHl.out]; exact hjn), HD.out]
        have hsl : Sl w3 (.slice da d.length dc) d := Qu.sl HDQ.out
        have hq2 := HDQ.out.own
        refine ⟨hsl.touchL t4 (fun h0 k hk => ?_), fun h0 k hk => ?_⟩
        · have q : w2.heap.size ≤ k := (hq2 k hk).1
          simp; omega
        · have q : w2.heap.size ≤ k := (hq2 k hk).1
          have q2 := (hq2 k hk).2
          refine ⟨fun hm => ?_, by show k < _; omega⟩
          rcases Sx_mem.1 hm with h | h | h
          · have := HG.out k h; omega
          · omega
          · omega)
      clear y2 z1 z2 hup
      go_wp2
      go_roundw
      case rel => exact ⟨j + 1, by omega, by go_num, HRN.out, HW4.out⟩
      case measure => simp [intOf]; omega
    · have hlt : ¬ (j : Int) < (H : Int) := by omega
      obtain rfl : j = H := by omega
      clear hr ht
      go_wp2
      go_ret
      exact ⟨_, _, _, _, rfl, by rw [HHl.out]; exact HR.out, HT.out⟩
end Go.Proofs.YticglfmmjgnicaaGreat
