/-
  Plain mathematics of numerals and of words between single blanks: no program.
-/
import Derived.Lib.AtoiAllCases
import Derived.Lib.ItoaMem
import Derived.Lib.SplitLaws
import Derived.Test.YtjfnoondkgjabaaDoorK
set_option linter.unusedVariables false
namespace Go.Proofs.YtjfnoondkgjabaaDoor
open Go Go.Lib

/-! ### Strings: tests as the walk spells them -/
theorem bytes_eq {a b : ByteArray} (h : a.data.toList = b.data.toList) : a = b := by
  obtain ⟨⟨x⟩⟩ := a
  obtain ⟨⟨y⟩⟩ := b
  simp at h
  rw [h]
theorem strF {a b : ByteArray} (h : ¬ a = b) : (a.toList == b.toList) = false := by
  rw [ByteArray.toList_eq, ByteArray.toList_eq]
  simp only [beq_eq_false_iff_ne, ne_eq]
  exact fun e => h (bytes_eq e)
theorem strT {a b : ByteArray} (h : a = b) : (a.toList == b.toList) = true := by rw [h]; simp
/-! ### Digits -/
def isDig (c : UInt8) : Prop := 48 ≤ c.toNat ∧ c.toNat ≤ 57
instance (c : UInt8) : Decidable (isDig c) := by unfold isDig; exact inferInstance
def dv (c : UInt8) : Nat := c.toNat - 48
theorem dv_eq (c : UInt8) : dv c = c.toNat - 48 := by unfold dv; rfl
def stp10 (a : Nat) (c : UInt8) : Nat := a * 10 + dv c
theorem stp10_eq (a : Nat) (c : UInt8) : stp10 a c = a * 10 + dv c := by unfold stp10; rfl
def decV (acc : Nat) (l : List UInt8) : Nat := l.foldl stp10 acc
theorem decV_nil (acc : Nat) : decV acc [] = acc := by unfold decV; rw [List.foldl_nil]
theorem decV_cons (acc : Nat) (c : UInt8) (r : List UInt8) : decV acc (c :: r) = decV (acc * 10 + dv c) r := by unfold decV; rw [List.foldl_cons, stp10_eq]
theorem decV_append (l r : List UInt8) (acc : Nat) : decV acc (l ++ r) = decV (decV acc l) r := by unfold decV; rw [List.foldl_append]
theorem decV_snoc (l : List UInt8) (c : UInt8) (acc : Nat) : decV acc (l ++ [c]) = decV acc l * 10 + dv c := by rw [decV_append, decV_cons, decV_nil]
theorem decV_ge (l : List UInt8) : ∀ acc, acc ≤ decV acc l := by
  induction l with
  | nil => intro acc; rw [decV_nil]; exact Nat.le_refl _
  | cons c t ih => intro acc; have := ih (acc * 10 + dv c); rw [decV_cons]; omega
theorem ofDig (d : Nat) (h : d < 10) : (UInt8.ofNat (48 + d)).toNat = 48 + d := by
  rw [UInt8.toNat_ofNat']; omega
theorem decDigits_ne (u : Nat) : decDigits u ≠ [] := by
  have h1 := decDigits_length u
  have h2 := nDigits_pos u
  intro h; rw [h] at h1; simp at h1; omega
theorem decDigits_dig : ∀ (u : Nat) (c : UInt8), c ∈ decDigits u → isDig c := by
  intro u
  induction u using Nat.strongRecOn with
  | _ u ih =>
    intro c hc
    by_cases h : u < 10
    · rw [decDigits, dif_pos h] at hc
      simp only [List.mem_singleton] at hc
      subst hc
      unfold isDig; rw [ofDig u h]; omega
    · rw [decDigits, dif_neg h] at hc
      rcases List.mem_append.1 hc with hc | hc
      · exact ih (u / 10) (by omega) c hc
      · simp only [List.mem_singleton] at hc
        subst hc
        unfold isDig; rw [ofDig _ (by omega)]; omega
theorem decV_decDigits (u : Nat) : decV 0 (decDigits u) = u := by
  induction u using Nat.strongRecOn with
  | _ u ih =>
    by_cases h : u < 10
    · rw [decDigits, dif_pos h]
      rw [decV_cons, decV_nil, dv_eq, ofDig u h]; omega
    · rw [decDigits, dif_neg h, decV_snoc, ih (u / 10) (by omega), dv_eq, ofDig _ (by omega)]; omega
theorem dig_of {c : UInt8} (h : isDig c) : UInt8.ofNat (48 + dv c) = c := by
  obtain ⟨h1, h2⟩ := h
  rw [dv_eq]
  rw [show 48 + (c.toNat - 48) = c.toNat from by omega]
  simp
/-- a row of digits without a nought ahead is its number's numeral. -/
theorem decDigits_decV (l : List UInt8) : l ≠ [] → (∀ c ∈ l, isDig c) → (l.head? = some 48 → l = [48]) → decDigits (decV 0 l) = l := by
  generalize hn : l.length = n
  induction n generalizing l with
  | zero => intro h; exact absurd (List.eq_nil_of_length_eq_zero hn) h
  | succ n ih =>
    intro h0 hd hz
    obtain ⟨t, c, rfl⟩ : ∃ t c, l = t ++ [c] := ⟨l.dropLast, l.getLast h0, (List.dropLast_concat_getLast h0).symm⟩
    have hc : isDig c := hd c (by simp)
    by_cases ht : t = []
    · subst ht
      have hdv : dv c ≤ 9 := by rw [dv_eq]; have := hc.2; omega
      have : decV 0 ([] ++ [c]) = dv c := by rw [List.nil_append, decV_cons, decV_nil]; omega
      rw [this, decDigits_one (by omega), dig_of hc]; rfl
    · have hz' : t.head? ≠ some 48 := by
        intro e
        obtain ⟨a, r, rfl⟩ : ∃ a r, t = a :: r := by cases t with | nil => exact absurd rfl ht | cons a r => exact ⟨a, r, rfl⟩
        have : (a :: r) ++ [c] = [48] := hz (by simpa using e)
        have := congrArg List.length this
        simp at this
      have it := ih t (by simp at hn; omega) ht (fun x hx => hd x (by simp [hx])) (fun e => absurd e hz')
      have hpos : 1 ≤ decV 0 t := by
        rcases Nat.eq_zero_or_pos (decV 0 t) with e | e
        · rw [e, decDigits_one (by omega)] at it
          rw [← it] at hz'
          exact absurd rfl hz'
        · exact e
      have hc2 : dv c ≤ 9 := by rw [dv_eq]; have := hc.2; omega
      rw [decV_snoc, decDigits, dif_neg (by omega)]
      rw [show (decV 0 t * 10 + dv c) / 10 = decV 0 t from by omega, it]
      rw [show (decV 0 t * 10 + dv c) % 10 = dv c from by omega, dig_of hc]
theorem decDigits_head (u : Nat) (h : (decDigits u).head? = some 48) : decDigits u = [48] := by
  induction u using Nat.strongRecOn with
  | _ u ih =>
    by_cases hu : u < 10
    · rw [decDigits, dif_pos hu] at h ⊢
      simp only [List.head?_cons, Option.some.injEq] at h
      rw [h]
    · rw [decDigits, dif_neg hu] at h
      exfalso
      have hne := decDigits_ne (u / 10)
      have h' : (decDigits (u / 10)).head? = some 48 := by
        cases hd : decDigits (u / 10) with
        | nil => exact absurd hd hne
        | cons a r => rw [hd] at h; simpa using h
      have e := ih (u / 10) (by omega) h'
      have := decV_decDigits (u / 10)
      rw [e, decV_cons, decV_nil, dv_eq, show (48 : UInt8).toNat = 48 from rfl] at this
      omega
theorem parseUint10_dig (l : List UInt8) : ∀ acc, (∀ c ∈ l, isDig c) → decV acc l < 18446744073709551616 → parseUint10 acc l = .ok (decV acc l) := by
  induction l with
  | nil => intro acc _ _; rw [decV_nil]; rfl
  | cons c r ih =>
    intro acc hd hv
    have hc := hd c (by simp)
    have hc' := hc
    unfold isDig at hc'
    have hge := decV_ge r (acc * 10 + dv c)
    have hdv := dv_eq c
    rw [decV_cons] at hv ⊢
    rw [parseUint10, if_pos hc', if_neg (by omega), if_neg (by omega), ← hdv]
    exact ih _ (fun x hx => hd x (by simp [hx])) hv
theorem atoiAll_itoa (x : Int) (h : InI x) : atoiAll (itoa x) = .ok x := by
  obtain ⟨h1, h2⟩ := h
  by_cases hx : x < 0
  · obtain ⟨u, rfl⟩ : ∃ u : Nat, x = -(u : Int) := ⟨x.natAbs, by omega⟩
    rw [itoa_neg u (by omega), atoiAll_minus]
    unfold parseMag
    rw [if_neg (decDigits_ne u), parseUint10_dig _ 0 (decDigits_dig u) (by rw [decV_decDigits]; omega), decV_decDigits]
    simp only [signed]
    rw [if_neg (by omega)]
  · obtain ⟨u, rfl⟩ : ∃ u : Nat, x = u := ⟨x.toNat, by omega⟩
    rw [itoa_nonneg]
    have hne := decDigits_ne u
    cases hd : decDigits u with
    | nil => exact absurd hd hne
    | cons c r =>
      have hc : isDig c := decDigits_dig u c (by rw [hd]; simp)
      unfold isDig at hc
      rw [atoiAll_plain c r (by omega) (by omega), ← hd]
      unfold parseMag
      rw [if_neg hne, parseUint10_dig _ 0 (decDigits_dig u) (by rw [decV_decDigits]; omega), decV_decDigits]
      simp only [signless]
      rw [if_neg (by omega)]
theorem itoa_inj {x y : Int} (hx : InI x) (hy : InI y) (h : itoa x = itoa y) : x = y := by
  have a := atoiAll_itoa x hx
  rw [h, atoiAll_itoa y hy] at a
  injection a with a
  exact a.symm
theorem itoa_ne (x : Int) : itoa x ≠ [] := by
  unfold itoa
  split
  · simp
  · exact decDigits_ne _
theorem itoa_noblank (x : Int) : (32 : UInt8) ∉ itoa x := by
  unfold itoa
  have h : ∀ u, (32 : UInt8) ∉ decDigits u := fun u hm => by
    have := decDigits_dig u 32 hm
    unfold isDig at this
    exact absurd this.1 (by decide)
  split
  · intro hm
    rcases List.mem_cons.1 hm with e | e
    · exact absurd e (by decide)
    · exact h _ e
  · exact h _
/-! ### The number that a numeral tells -/
open Classical in
noncomputable def numL (l : List UInt8) : Option Int := if h : ∃ x, InI x ∧ itoa x = l then some h.choose else none
theorem numL_itoa {x : Int} (h : InI x) : numL (itoa x) = some x := by
  unfold numL
  have hx : ∃ y, InI y ∧ itoa y = itoa x := ⟨x, h, rfl⟩
  rw [dif_pos hx]
  exact congrArg some (itoa_inj hx.choose_spec.1 h hx.choose_spec.2)
theorem numL_some {l : List UInt8} {x : Int} (h : numL l = some x) : InI x ∧ itoa x = l := by
  unfold numL at h
  split at h
  · rename_i hx
    injection h with h
    subst h
    exact hx.choose_spec
  · cases h
theorem numL_none {l : List UInt8} (h : numL l = none) : ∀ x, InI x → itoa x ≠ l := by
  intro x hx e
  subst e
  rw [numL_itoa hx] at h
  cases h
theorem numL_of_none {l : List UInt8} (h : ∀ x, InI x → itoa x ≠ l) : numL l = none := by
  cases e : numL l with
  | none => rfl
  | some x => exact absurd (numL_some e).2 (h x (numL_some e).1)
/-- A numeral by its bytes: digits without noughts ahead. -/
theorem numL_digits {l : List UInt8} (h0 : l ≠ []) (hd : ∀ c ∈ l, isDig c) (hz : l.head? = some 48 → l = [48]) (hv : decV 0 l ≤ 9223372036854775807) : numL l = some (decV 0 l : Int) := by
  have e : itoa (decV 0 l : Int) = l := by rw [itoa_nonneg, decDigits_decV l h0 hd hz]
  have := numL_itoa (x := (decV 0 l : Int)) (by unfold InI; omega)
  rw [e] at this
  exact this
theorem numL_minus {l : List UInt8} (h0 : l ≠ []) (hd : ∀ c ∈ l, isDig c) (hz : l.head? ≠ some 48) (hv : decV 0 l ≤ 9223372036854775808) : numL (45 :: l) = some (-(decV 0 l : Int)) := by
  have hpos : 1 ≤ decV 0 l := by
    rcases Nat.eq_zero_or_pos (decV 0 l) with e | e
    · have it := decDigits_decV l h0 hd (fun h => absurd h hz)
      rw [e, decDigits_one (by omega)] at it
      rw [← it] at hz
      exact absurd rfl hz
    · exact e
  have e : itoa (-(decV 0 l : Int)) = 45 :: l := by rw [itoa_neg _ hpos, decDigits_decV l h0 hd (fun h => absurd h hz)]
  have := numL_itoa (x := -(decV 0 l : Int)) (by unfold InI; omega)
  rw [e] at this
  exact this
/-- What a numeral looks like. -/
theorem numL_shape {l : List UInt8} {x : Int} (h : numL l = some x) : (∃ d, l = 45 :: d ∧ d ≠ [] ∧ (∀ c ∈ d, isDig c) ∧ d.head? ≠ some 48 ∧ d.length ≤ 19 ∧ decV 0 d ≤ 9223372036854775808 ∧ x = -(decV 0 d : Int)) ∨ (l.head? ≠ some 45 ∧ l ≠ [] ∧ (∀ c ∈ l, isDig c) ∧ (l.head? = some 48 → l = [48]) ∧ l.length ≤ 19 ∧ decV 0 l ≤ 9223372036854775807 ∧ x = (decV 0 l : Int)) := by
  obtain ⟨⟨h1, h2⟩, rfl⟩ := numL_some h
  have len : ∀ u : Nat, u ≤ 9223372036854775808 → (decDigits u).length ≤ 19 := fun u hu => by
    rw [decDigits_length]
    rcases Nat.lt_or_ge 19 (nDigits u) with hl | hl
    · exfalso
      have : ∀ k u, k < nDigits u → 10 ^ k ≤ u ∨ k = 0 := fun k => by
        induction k with
        | zero => intro u _; exact .inr rfl
        | succ k ih =>
          intro u hk
          by_cases hu : u < 10
          · rw [nDigits_small hu] at hk; omega
          · rw [nDigits_big hu] at hk
            rcases ih (u / 10) (by omega) with e | e
            · left; rw [Nat.pow_succ]; omega
            · subst e; left; omega
      rcases this 19 u hl with e | e
      · have : (10 : Nat) ^ 19 = 10000000000000000000 := by decide
        omega
      · omega
    · exact hl
  by_cases hx : x < 0
  · obtain ⟨u, rfl⟩ : ∃ u : Nat, x = -(u : Int) := ⟨x.natAbs, by omega⟩
    left
    refine ⟨decDigits u, itoa_neg u (by omega), decDigits_ne u, decDigits_dig u, fun e => ?_, len u (by omega), by rw [decV_decDigits]; omega, by rw [decV_decDigits]⟩
    have e1 := decDigits_head u e
    have := decV_decDigits u
    rw [e1, decV_cons, decV_nil, dv_eq, show (48 : UInt8).toNat = 48 from rfl] at this
    omega
  · obtain ⟨u, rfl⟩ : ∃ u : Nat, x = u := ⟨x.toNat, by omega⟩
    right
    rw [itoa_nonneg]
    refine ⟨fun e => ?_, decDigits_ne u, decDigits_dig u, decDigits_head u, len u (by omega), by rw [decV_decDigits]; omega, by rw [decV_decDigits]⟩
    cases hd : decDigits u with
    | nil => exact absurd hd (decDigits_ne u)
    | cons c r =>
      rw [hd] at e
      have hc := decDigits_dig u c (by rw [hd]; simp)
      simp only [List.head?_cons, Option.some.injEq] at e
      subst e
      exact absurd hc (by decide)
/-! ### Words -/
def words : List UInt8 → List (List UInt8)
  | [] => [[]]
  | c :: r => if c = 32 then [] :: words r else match words r with
    | [] => [[c]]
    | w :: ws => (c :: w) :: ws
theorem words_ne (l : List UInt8) : words l ≠ [] := by
  cases l with
  | nil => simp [words]
  | cons c r =>
    unfold words
    split
    · simp
    · split <;> simp
def pre (p : List UInt8) : List (List UInt8) → List (List UInt8)
  | [] => [p]
  | w :: ws => (p ++ w) :: ws
theorem pre_nil {l : List (List UInt8)} (h : l ≠ []) : pre [] l = l := by cases l with | nil => exact absurd rfl h | cons a r => rfl
theorem words_other {c : UInt8} {r : List UInt8} (h : c ≠ 32) (p : List UInt8) : pre p (words (c :: r)) = pre (p ++ [c]) (words r) := by
  have hw := words_ne r
  rw [words, if_neg h]
  cases hr : words r with
  | nil => exact absurd hr hw
  | cons a t => simp [pre]
theorem words_blank (r p : List UInt8) : pre p (words (32 :: r)) = p :: words r := by
  rw [words, if_pos rfl]
  simp [pre]
theorem words_noblank : ∀ l : List UInt8, (32 : UInt8) ∉ l → words l = [l]
  | [], _ => rfl
  | c :: r, h => by
    rw [words, if_neg (fun e => h (by simp [e])), words_noblank r (fun hm => h (by simp [hm]))]
theorem words_app : ∀ (a r : List UInt8), (32 : UInt8) ∉ a → words (a ++ 32 :: r) = a :: words r
  | [], r, _ => by rw [List.nil_append, words, if_pos rfl]
  | c :: t, r, h => by
    rw [List.cons_append, words, if_neg (fun e => h (by simp [e])), words_app t r (fun hm => h (by simp [hm]))]
theorem words_mem : ∀ (l w : List UInt8), w ∈ words l → (32 : UInt8) ∉ w
  | [], w, h => by simp [words] at h; subst h; simp
  | c :: r, w, h => by
    have hw := words_ne r
    rw [words] at h
    split at h
    · rcases List.mem_cons.1 h with e | e
      · subst e; simp
      · exact words_mem r w e
    · rename_i hc
      have ih := words_mem r
      cases hr : words r with
      | nil => exact absurd hr hw
      | cons a t =>
        rw [hr] at h ih
        rcases List.mem_cons.1 h with e | e
        · subst e
          have := ih a (by simp)
          simp only [List.mem_cons, not_or]
          exact ⟨fun e => hc e.symm, this⟩
        · exact ih w (by simp [e])
theorem words_mem_len : ∀ (l w : List UInt8), w ∈ words l → w.length ≤ l.length
  | [], w, h => by simp [words] at h; subst h; simp
  | c :: r, w, h => by
    have hw := words_ne r
    have ih := words_mem_len r
    rw [words] at h
    split at h
    · rcases List.mem_cons.1 h with e | e
      · subst e; simp
      · have := ih w e; simp only [List.length_cons]; omega
    · cases hr : words r with
      | nil => exact absurd hr hw
      | cons a t =>
        rw [hr] at h ih
        rcases List.mem_cons.1 h with e | e
        · subst e
          have := ih a (by simp)
          simp only [List.length_cons]; omega
        · have := ih w (by simp [e]); simp only [List.length_cons]; omega
/-- the words put together again. -/
def glue : List (List UInt8) → List UInt8
  | [] => []
  | [w] => w
  | w :: v :: r => w ++ 32 :: glue (v :: r)
theorem glue_cons (w : List UInt8) {l : List (List UInt8)} (h : l ≠ []) : glue (w :: l) = w ++ 32 :: glue l := by
  cases l with
  | nil => exact absurd rfl h
  | cons a r => rfl
theorem glue_words : ∀ l : List UInt8, glue (words l) = l
  | [] => rfl
  | c :: r => by
    have hw := words_ne r
    have ih := glue_words r
    rw [words]
    split
    · rename_i hc
      rw [glue_cons _ hw, ih, hc]; rfl
    · cases hr : words r with
      | nil => exact absurd hr hw
      | cons a t =>
        rw [hr] at ih
        cases t with
        | nil => simp [glue] at ih ⊢; exact ih
        | cons b t => simp [glue] at ih ⊢; exact ih
theorem words_length_le : ∀ l : List UInt8, (words l).length ≤ l.length + 1
  | [] => by simp [words]
  | c :: r => by
    have hw := words_ne r
    have ih := words_length_le r
    rw [words]
    split
    · simp; omega
    · cases hr : words r with
      | nil => exact absurd hr hw
      | cons a t => rw [hr] at ih; simp at ih ⊢; omega
theorem index_blank_none {l : List UInt8} (h : index l [32] = -1) : words l = [l] := by
  apply words_noblank
  intro hm
  rcases index_spec l [32] with ⟨_, hn⟩ | ⟨i, hi, _⟩
  · obtain ⟨j, hj, e⟩ := List.mem_iff_getElem.1 hm
    have := hn j (by omega)
    unfold occAt at this
    rw [List.drop_eq_getElem_cons hj, e] at this
    simp at this
  · rw [h] at hi; omega
theorem index_blank_some {l : List UInt8} {i : Nat} (h : index l [32] = i) : words l = l.take i :: words (l.drop (i + 1)) ∧ i < l.length := by
  rcases index_spec l [32] with ⟨e, _⟩ | ⟨j, hj, hle, ho, hno⟩
  · rw [h] at e; omega
  · obtain rfl : j = i := by rw [h] at hj; omega
    have hlt : j < l.length := by
      have := index_room l [32] (by rw [h]; omega)
      rw [h] at this; simp at this; omega
    have hb : l[j] = 32 := by
      unfold occAt at ho
      rw [List.drop_eq_getElem_cons hlt] at ho
      have := List.isPrefixOf_iff_prefix.1 ho
      rw [List.singleton_prefix_cons_iff] at this
      exact this.symm
    refine ⟨?_, hlt⟩
    conv => lhs; rw [← List.take_append_drop j l, List.drop_eq_getElem_cons hlt, hb]
    apply words_app
    intro hm
    obtain ⟨k, hk, e⟩ := List.mem_iff_getElem.1 hm
    have hk' : k < j := by simp at hk; omega
    have := hno k hk'
    unfold occAt at this
    rw [List.drop_eq_getElem_cons (by omega)] at this
    rw [List.getElem_take] at e
    rw [e] at this
    simp at this
theorem splitK_words : ∀ (k : Nat) (l : List UInt8), ((words l).length ≤ k + 1 → splitK [32] 0 k l = words l) ∧ (k + 1 < (words l).length → (splitK [32] 0 k l).length = k + 1)
  | 0, l => by
    refine ⟨fun h => ?_, fun h => rfl⟩
    rcases (by rcases index_spec l [32] with ⟨e, _⟩ | ⟨i, e, _⟩; exact .inl e; exact .inr ⟨i, e⟩ : index l [32] = -1 ∨ ∃ i : Nat, index l [32] = i) with e | ⟨i, e⟩
    · rw [index_blank_none e]; rfl
    · have := (index_blank_some e).1
      rw [this] at h
      have := List.length_pos_iff.2 (words_ne (l.drop (i + 1)))
      simp only [List.length_cons] at h
      omega
  | k + 1, l => by
    rcases (by rcases index_spec l [32] with ⟨e, _⟩ | ⟨i, e, _⟩; exact .inl e; exact .inr ⟨i, e⟩ : index l [32] = -1 ∨ ∃ i : Nat, index l [32] = i) with e | ⟨i, e⟩
    · have hw := index_blank_none e
      rw [hw, splitK, e]
      exact ⟨fun _ => rfl, fun h => by simp at h⟩
    · obtain ⟨hw, hlt⟩ := index_blank_some e
      have hs : splitK [32] 0 (k + 1) l = l.take i :: splitK [32] 0 k (l.drop (i + 1)) := by
        rw [splitK, if_neg (by rw [e]; simp), e]
        simp
      have ih := splitK_words k (l.drop (i + 1))
      rw [hw, hs]
      exact ⟨fun h => by rw [ih.1 (by simpa using h)], fun h => by simp; exact ih.2 (by simpa using h)⟩
end Go.Proofs.YtjfnoondkgjabaaDoor
