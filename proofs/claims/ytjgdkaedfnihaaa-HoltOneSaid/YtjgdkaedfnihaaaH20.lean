/-
  Rows turned round: as many are left, each under its other place.
-/
import Derived.Test.YtjgdkaedfnihaaaH18
import Derived.Test.YtjgdkaedfnihaaaRH
set_option linter.unusedVariables false
namespace Go.Proofs.Ytjgdkaedfnihaaa
open Go.RowKit

def rot (k : Nat) (l : List (List Int)) : List (List Int) := l.drop k ++ l.take k
def sig (n k : Nat) (i : Int) : Int := (i + k) % n
theorem rot_length {k : Nat} {l : List (List Int)} (h : k ≤ l.length) : (rot k l).length = l.length := by unfold rot; simp; omega
theorem sig_in {n k : Nat} (hn : 0 < n) (i : Int) : 0 ≤ sig n k i ∧ sig n k i < n := ⟨Int.emod_nonneg _ (by omega), Int.emod_lt_of_pos _ (by omega)⟩
theorem sig_low {n k : Nat} {i : Int} (h0 : 0 ≤ i) (h : i + k < n) : sig n k i = i + k := Int.emod_eq_of_lt (by omega) (by omega)
theorem sig_high {n k : Nat} {i : Int} (h1 : i < n) (hk : k < n) (h : (n : Int) ≤ i + k) : sig n k i = i + k - n := by
  unfold sig
  rw [← Int.sub_emod_right, Int.emod_eq_of_lt (by omega) (by omega)]
theorem sig_inj {n k : Nat} (hk : k < n) (i j : Int) (hi : 0 ≤ i) (hi2 : i < n) (hj : 0 ≤ j) (hj2 : j < n) (h : sig n k i = sig n k j) : i = j := by
  by_cases a : i + k < n
  · by_cases b : j + k < n
    · rw [sig_low hi a, sig_low hj b] at h; omega
    · rw [sig_low hi a, sig_high hj2 hk (by omega)] at h; omega
  · by_cases b : j + k < n
    · rw [sig_high hi2 hk (by omega), sig_low hj b] at h; omega
    · rw [sig_high hi2 hk (by omega), sig_high hj2 hk (by omega)] at h; omega
theorem rot_get {n k : Nat} {l : List (List Int)} (hl : l.length = n) (hk : k < n) {i : Int} (h0 : 0 ≤ i) (h1 : i < n) : rw_ (rot k l) i.toNat = rw_ l (sig n k i).toNat := by
  unfold rw_ rot
  rw [List.getD_eq_getElem?_getD, List.getD_eq_getElem?_getD]
  congr 1
  by_cases a : i + k < n
  · rw [sig_low h0 a, List.getElem?_append_left (by simp; omega), List.getElem?_drop, show k + i.toNat = (i + k).toNat from by omega]
  · rw [sig_high h1 hk (by omega), List.getElem?_append_right (by simp; omega), List.length_drop, List.getElem?_take, if_pos (by omega), show i.toNat - (l.length - k) = (i + k - n).toNat from by omega]
theorem sig_back {n k : Nat} (hk : k < n) {j : Int} (h0 : 0 ≤ j) (h1 : j < n) : sig n k (sig n (n - k) j) = j := by
  have hn : 0 < n := by omega
  by_cases hk0 : k = 0
  · subst hk0
    have e : sig n (n - 0) j = j := by
      rw [Nat.sub_zero]
      unfold sig
      rw [Int.add_emod_right, Int.emod_eq_of_lt h0 h1]
    rw [e]
    rw [sig_low h0 (by omega)]; omega
  · have e : ((n - k : Nat) : Int) = (n : Int) - k := by omega
    by_cases a : j + ((n - k : Nat) : Int) < n
    · have e2 := sig_low h0 a
      rw [e2, sig_high (by omega) hk (by omega)]; omega
    · have e2 := sig_high (k := n - k) h1 (by omega) (by omega)
      rw [e2, sig_low (by omega) (by omega)]; omega
theorem moved_rot {n k : Nat} {hs qs : List (List Int)} (hl : hs.length = n) (ql : qs.length = n) (hk : k < n) : Moved n (sig n k) hs qs (rot k hs) (rot k qs) :=
  ⟨⟨hl, by rw [rot_length (by omega), hl]⟩, fun i _ _ => sig_in (by omega) i, fun i j h1 h2 h3 h4 h => sig_inj hk i j h1 h2 h3 h4 h, fun i h0 h1 => rot_get hl hk h0 h1, fun i h0 h1 => rot_get ql hk h0 h1⟩
theorem sig_mul {n k : Nat} (hk : k < n) {i : Int} (h0 : 0 ≤ i) (h1 : i < n) : sig n (n - k) (sig n k i) = i := by
  refine sig_inj hk _ _ (sig_in (by omega) _).1 (sig_in (by omega) _).2 h0 h1 ?_
  rw [sig_back hk (sig_in (by omega) _).1 (sig_in (by omega) _).2]
theorem moved_back {n k : Nat} {hs qs : List (List Int)} (hl : hs.length = n) (ql : qs.length = n) (hk : k < n) : Moved n (sig n (n - k)) (rot k hs) (rot k qs) hs qs :=
  ⟨⟨by rw [rot_length (by omega), hl], hl⟩, fun i _ _ => sig_in (by omega) i,
    fun i j h1 h2 h3 h4 h => by
      have := congrArg (sig n k) h
      rw [sig_back hk h1 h2, sig_back hk h3 h4] at this
      exact this,
    fun i h0 h1 => by rw [rot_get hl hk (sig_in (by omega) _).1 (sig_in (by omega) _).2, sig_back hk h0 h1],
    fun i h0 h1 => by rw [rot_get ql hk (sig_in (by omega) _).1 (sig_in (by omega) _).2, sig_back hk h0 h1]⟩
theorem len_le7 : ∀ {A B : List Int}, A.Nodup → (∀ a ∈ A, a ∈ B) → A.length ≤ B.length
  | [], B, _, _ => Nat.zero_le _
  | a :: A, B, hn, h => by
    rw [List.nodup_cons] at hn
    have ha := h a (by simp)
    have ih := len_le7 (B := B.erase a) hn.2 (fun x hx => (List.mem_erase_of_ne (show x ≠ a from fun e => hn.1 (by rw [← e]; exact hx))).2 (h x (by simp [hx])))
    rw [List.length_erase_of_mem ha] at ih
    have : 0 < B.length := List.length_pos_of_mem ha
    simp; omega
theorem stuckL_nodup (xs : List Int) (hs qs : List (List Int)) : (stuckL xs hs qs).Nodup := by
  unfold stuckL
  split
  · exact leftL_nodup _ _
  · simp
theorem stuckL_in {xs : List Int} {hs qs : List (List Int)} {i : Int} (h : i ∈ stuckL xs hs qs) : 0 ≤ i ∧ i < (hs.length : Int) := by
  unfold stuckL at h
  split at h
  · have := leftL_mem.1 h
    exact ⟨this.1, this.2.1⟩
  · cases h
theorem rot_mem {n k : Nat} {xs : List Int} {hs qs : List (List Int)} (hl : hs.length = n) (ql : qs.length = n) (hk : k < n) (r1 : rowsB xs hs qs = true) (r2 : rowsB xs (rot k hs) (rot k qs) = true) (nn : ∀ (i j : Nat), 0 ≤ (rw_ hs i).getD j 0) (nn2 : ∀ (i j : Nat), 0 ≤ (rw_ (rot k hs) i).getD j 0) {i : Int} (hi : i ∈ stuckL xs (rot k hs) (rot k qs)) : sig n k i ∈ stuckL xs hs qs :=
  moved_left (moved_rot hl ql hk) (fun j h0 h1 => ⟨sig n (n - k) j, (sig_in (by omega) _).1, (sig_in (by omega) _).2, sig_back hk h0 h1⟩) r1 r2 nn nn2 hi
theorem rot_len {n k : Nat} {xs : List Int} {hs qs : List (List Int)} (hl : hs.length = n) (ql : qs.length = n) (hk : k < n) (r1 : rowsB xs hs qs = true) (r2 : rowsB xs (rot k hs) (rot k qs) = true) (nn : ∀ (i j : Nat), 0 ≤ (rw_ hs i).getD j 0) (nn2 : ∀ (i j : Nat), 0 ≤ (rw_ (rot k hs) i).getD j 0) : (stuckL xs (rot k hs) (rot k qs)).length = (stuckL xs hs qs).length := by
  have h1 : ((stuckL xs (rot k hs) (rot k qs)).map (sig n k)).length ≤ (stuckL xs hs qs).length := by
    refine len_le7 (nodup_map (n := n) (fun i j h1 h2 h3 h4 h => sig_inj hk i j h1 h2 h3 h4 h) _ (fun i hi => by have := stuckL_in hi; rw [rot_length (by omega), hl] at this; exact this) (stuckL_nodup _ _ _)) (fun a ha => ?_)
    obtain ⟨b, hb, rfl⟩ := List.mem_map.1 ha
    exact rot_mem hl ql hk r1 r2 nn nn2 hb
  have h2 : ((stuckL xs hs qs).map (sig n (n - k))).length ≤ (stuckL xs (rot k hs) (rot k qs)).length := by
    refine len_le7 (nodup_map (n := n) (moved_back hl ql hk).inj _ (fun i hi => by have := stuckL_in hi; rw [hl] at this; exact this) (stuckL_nodup _ _ _)) (fun a ha => ?_)
    obtain ⟨b, hb, rfl⟩ := List.mem_map.1 ha
    exact moved_left (moved_back hl ql hk) (fun j h0 h1 => ⟨sig n k j, (sig_in (by omega) _).1, (sig_in (by omega) _).2, sig_mul hk h0 h1⟩) r2 r1 nn2 nn hb
  rw [List.length_map] at h1 h2
  omega
theorem St2.rot {N k : Nat} {a0 a1 : Int} {hs cs : List (List Int)} (h : St2 N a0 a1 hs cs) (hk : k < N) : St2 N a0 a1 (rot k hs) (rot k cs) :=
  ⟨h.a, h.b, by rw [rot_length (by rw [h.hl]; omega), h.hl], by rw [rot_length (by rw [h.cl]; omega), h.cl], h.n, fun i hi => by
    have e1 := rot_get h.hl hk (i := (i : Int)) (by omega) (by omega)
    have e2 := rot_get h.cl hk (i := (i : Int)) (by omega) (by omega)
    rw [Int.toNat_natCast] at e1 e2
    rw [e1, e2]
    have := sig_in (n := N) (k := k) (by omega) (i : Int)
    exact h.row _ (by omega)⟩
theorem stuck_dead {xs : List Int} {hs qs : List (List Int)} (hr : rowsB xs hs qs = true) (hh : ∀ (i k : Nat), 0 ≤ (rw_ hs i).getD k 0) (hne : stuckL xs hs qs ≠ []) : deadB xs hs qs (stuckL xs hs qs) = true := by
  unfold stuckL at hne ⊢
  rw [if_pos hr] at hne ⊢
  obtain ⟨hg, hc⟩ := finR_ok (xs := xs) (hs := hs) (qs := qs)
  exact left_dead hr hh hg hc hne
end Go.Proofs.Ytjgdkaedfnihaaa
