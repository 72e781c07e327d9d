/-
  One process more, and more to be had: plain facts; a list of lists with a row more.
-/
import Derived.Test.YtdonkecclebcdaaB17
set_option linter.unusedVariables false
namespace Go.Proofs.Ytdonkecclebcdaa
open Go.RowKit Go.BigFrame

theorem pairs_nonneg {N : Nat} {hs cs : List (List Int)} (hl : hs.length = N) (hr : ∀ i, i < N → PairRow (rw_ hs i) (rw_ cs i)) : ∀ (i k : Nat), 0 ≤ (rw_ hs i).getD k 0 := by
  intro i k
  by_cases hi : i < N
  · obtain ⟨x, y, p, q, e1, e2, hx, hy, hp, hq⟩ := hr i hi
    rw [e1]
    match k with
    | 0 => exact hx.1
    | 1 => exact hy.1
    | k + 2 => simp
  · have : rw_ hs i = [] := by unfold rw_; rw [List.getD_eq_getElem?_getD, List.getElem?_eq_none (by omega)]; rfl
    rw [this]; simp
def rangeI (n : Nat) : List Int := (List.range n).map Int.ofNat
theorem rangeI_succ (n : Nat) : rangeI (n + 1) = rangeI n ++ [(n : Int)] := by simp [rangeI, List.range_succ]
theorem rangeI_mem {n : Nat} {i : Int} : i ∈ rangeI n ↔ 0 ≤ i ∧ i < n := by
  unfold rangeI
  rw [List.mem_map]
  constructor
  · rintro ⟨a, ha, rfl⟩
    have := List.mem_range.1 ha
    exact ⟨by simp, by simp; omega⟩
  · rintro ⟨h1, h2⟩
    exact ⟨i.toNat, List.mem_range.2 (by omega), by simp; omega⟩
theorem rangeI_nodup (n : Nat) : (rangeI n).Nodup := by
  induction n with
  | zero => simp [rangeI]
  | succ n ih =>
    rw [rangeI_succ, List.nodup_append]
    refine ⟨ih, by simp, fun a ha b hb => ?_⟩
    have := (rangeI_mem.1 ha).2
    simp at hb
    omega
theorem rangeI_len (n : Nat) : (rangeI n).length = n := by simp [rangeI]
/-- Who is all there has as much as all. -/
theorem sum_all {f : Int → Int} (hf : ∀ i, 0 ≤ f i) {n : Nat} {σ : List Int} (hn : σ.Nodup) (hi : ∀ i, i ∈ σ → 0 ≤ i ∧ i < n) (hl : σ.length = n) : sumF f (rangeI n) ≤ sumF f σ := by
  refine sumF_sub hf _ _ (rangeI_nodup n) (fun i hi' => ?_)
  by_cases hm : i ∈ σ
  · exact hm
  · exfalso
    have h1 : (i :: σ).length ≤ (rangeI n).length := len_sub (List.nodup_cons.2 ⟨hm, hn⟩) (fun a ha => by
      rcases List.mem_cons.1 ha with rfl | ha
      · exact hi'
      · exact rangeI_mem.2 (hi a ha))
    rw [rangeI_len, List.length_cons] at h1
    omega
theorem workL_congr {xs : List Int} {hs hs' : List (List Int)} {out : List Int} (h : ∀ i, i ∈ out → rw_ hs' i.toNat = rw_ hs i.toNat) : workL xs hs' out = workL xs hs out := by
  unfold workL
  induction out generalizing xs with
  | nil => rfl
  | cons a l ih => rw [List.foldl_cons, List.foldl_cons, h a (by simp), ih (fun i hi => h i (by simp [hi]))]
/-- A PROCESS MORE: the order goes on with it. -/
theorem com_more {xs : List Int} {hs cs : List (List Int)} {h c σ : List Int} (he : hs.length = cs.length) (hσ : comB xs hs cs σ = true) (hc : canB (workL xs hs σ) c h = true) : comB xs (hs ++ [h]) (cs ++ [c]) (σ ++ [(hs.length : Int)]) = true := by
  unfold comB at hσ
  rw [Bool.and_eq_true] at hσ
  have hl : σ.length = hs.length := of_decide_eq_true hσ.1
  have hcm := comA_iff.1 hσ.2
  have hin := com_in hcm
  have hrow : ∀ i : Int, 0 ≤ i → i < hs.length → rw_ (hs ++ [h]) i.toNat = rw_ hs i.toNat := fun i h0 h1 => rw_snoc_old _ _ (by omega)
  have crow : ∀ i : Int, 0 ≤ i → i < hs.length → rw_ (cs ++ [c]) i.toNat = rw_ cs i.toNat := fun i h0 h1 => rw_snoc_old _ _ (by omega)
  unfold comB
  rw [Bool.and_eq_true]
  refine ⟨dT (by simp [hl]), comA_iff.2 (fun k hk => ?_)⟩
  rw [List.length_append, List.length_singleton] at hk
  by_cases hkl : k < σ.length
  · rw [comG_pre hkl]
    have h1 := hcm k hkl
    unfold comG at h1 ⊢
    obtain ⟨⟨f1, f2, f3⟩, f4⟩ := stepB_free h1
    have hw : workL xs (hs ++ [h]) (σ.take k) = workL xs hs (σ.take k) := workL_congr (fun i hi => hrow i (hin i (List.mem_of_mem_take hi)).1 (hin i (List.mem_of_mem_take hi)).2)
    exact stepB_of ⟨f1, by rw [List.length_append, List.length_singleton]; omega, f3⟩ (by rw [hw, hrow _ f1 f2, crow _ f1 f2]; exact f4)
  · obtain rfl : k = σ.length := by omega
    unfold comG
    rw [List.take_left, List.getD_eq_getElem?_getD, List.getElem?_append_right (Nat.le_refl _), Nat.sub_self]
    show stepB xs (hs ++ [h]) (cs ++ [c]) σ (hs.length : Int) = true
    have hw : workL xs (hs ++ [h]) σ = workL xs hs σ := workL_congr (fun i hi => hrow i (hin i hi).1 (hin i hi).2)
    refine stepB_of ⟨by omega, by rw [List.length_append, List.length_singleton]; omega, fun hm => by have := (hin _ hm).2; omega⟩ ?_
    rw [hw, Int.toNat_natCast, rw_snoc_new, show rw_ (cs ++ [c]) hs.length = c from by rw [he]; exact rw_snoc_new _ _]
    exact hc
/-- MORE TO BE HAD: the order serves. -/
theorem com_have {xs xs' : List Int} {hs cs : List (List Int)} {σ : List Int} (hl : xs'.length = xs.length) (hx : ∀ k, k < xs.length → xs.getD k 0 ≤ xs'.getD k 0) (hσ : comB xs hs cs σ = true) : comB xs' hs cs σ = true := by
  unfold comB at hσ ⊢
  rw [Bool.and_eq_true] at hσ ⊢
  refine ⟨hσ.1, comA_iff.2 (fun k hk => ?_)⟩
  have h1 := comA_iff.1 hσ.2 k hk
  unfold comG at h1 ⊢
  obtain ⟨f1, f4⟩ := stepB_free h1
  refine stepB_of f1 (canB_iff.2 fun q hq => ?_)
  rw [workL_length] at hq
  have h2 := canB_iff.1 f4 q (by rw [workL_length]; omega)
  rw [workL_get _ _ _ _ (by omega)] at h2 ⊢
  have := hx q (by omega)
  omega
theorem ordR_of {xs : List Int} {hs cs σ : List (List Int)} (hm : bmayB xs hs cs = true) (hh : ∀ (i k : Nat), 0 ≤ (rw_ hs i).getD k 0) {σ : List Int} (hσ : comB xs hs cs σ = true) : (ordR xs hs cs).isSome = true := by
  rw [ordR_yes hm]
  exact (safe_iff hh).2 ⟨σ, hσ⟩

/-- The cells of a list of lists. -/
theorem Rws.src {w : World} {v : Value} {l : List (List Int)} (h : Rws w v l) : ∃ us : List Value, us.length = l.length ∧ (∀ w', Touch [] w w' → Src Try.prog 1 23 v us.length us w') ∧ ∀ i, i < l.length → Sl w (us.getD i (.slice none 0 0)) (rw_ l i) := by
  obtain ⟨a, cap, rfl, h⟩ := h
  rcases h with rfl | ⟨g, off, rfl, hg, ps, hp⟩
  · refine ⟨[], rfl, fun w' _ => ?_, fun i hi => by simp at hi⟩
    cases a with
    | none => exact Src.ofNil w' Try.underlying23 cap
    | some a => exact Src.ofSlice w' Try.underlying23 a 0 cap [] rfl (fun j u hu => by simp at hu) (fun u hu => by simp at hu)
  · have hlen : ((List.range l.length).map ps).length = l.length := by simp
    refine ⟨(List.range l.length).map ps, hlen, fun w' ht => ?_, fun i hi => ?_⟩
    · rw [hlen]
      refine Src.ofSlice (P := Try.prog) w' Try.underlying23 ⟨g, off, none⟩ l.length cap ((List.range l.length).map ps) (by rw [hlen, Nat.mul_one]) (fun j u hu => ?_) (fun u hu => ?_)
      · have hj : j < l.length := by
          by_cases hj : j < l.length
          · exact hj
          · rw [List.getElem?_eq_none (by simp; omega)] at hu; cases hu
        have e : u = ps j := by simpa [hj] using hu.symm
        rw [e, addr_add (s := none), World.cell?_of_block (w := w) (a := ⟨g, off + j, none⟩) (ht.block g hg (by simp))]
        exact (hp j hj).2
      · obtain ⟨j, hj, rfl⟩ := List.mem_map.1 hu
        obtain ⟨a', c', e⟩ := (hp j (List.mem_range.1 hj)).1.form
        rw [e]; rfl
    · have e : ((List.range l.length).map ps).getD i (.slice none 0 0) = ps i := by simp [hi]
      rw [e]
      exact (hp i hi).1
/-- A COPY WITH A ROW MORE. -/
theorem Rws.more {w : World} {v : Value} {l : List (List Int)} (h : Rws w v l) (hl : l.length ≤ 1000) (x y : Int) :
    ∃ v1 w1 v2 w3, (∀ ty, (Builtin.append_ #[23, 23] ty #[.slice (some ⟨w.heap.size, 0, none⟩) 0 0, v]).run Try.prog (w.alloc (.cells #[] 22)) = .ok v1 w1) ∧
      (∀ ty, (Builtin.append_ #[23, 23] ty #[v1, .slice (some ⟨w1.heap.size + 1, 0, none⟩) 1 1]).run Try.prog ((w1.alloc (.cells #[.int .i64 x, .int .i64 y] 3)).alloc (.cells #[.slice (some ⟨w1.heap.size, 0, none⟩) 2 2] 22)) = .ok v2 w3) ∧
      Rws w3 v2 (l ++ [[x, y]]) ∧ Touch [] w w3 ∧ Touch [] w w1 ∧ (∃ a c, v1 = .slice a l.length c) ∧ ∃ a c, v2 = .slice a (l.length + 1) c := by
  obtain ⟨i0, hi, hz0, hz1, hz2⟩ := infoR
  have hw0 : Touch [] w (w.alloc (.cells #[] 22)) := (Touch.refl [] w).alloc _
  obtain ⟨us, hul, hsrc, hus⟩ := h.src
  have hq0 := Qu.made (w := w) (base := w.heap.size) (e := 22) (b := w.heap.size) (n := 0) (c := #[]) rfl (Nat.le_refl _) rfl (Nat.zero_le _)
  obtain ⟨v1, w1, hr1, hq1, hg1, hn1⟩ := hq0.appendL (t := 23) (tx := 23) Try.underlying23 hi hz0 hz1 hz2 rfl (by simp) v us (hsrc _ hw0) (by simp; omega) (by simp; omega)
  rw [show (#[] : Array Value).toList ++ us = us from rfl] at hq1
  have t1 : Touch [w.heap.size] (w.alloc (.cells #[] 22)) w1 := (Touch.refl _ _).grown hg1 (fun k hk _ => by simp [Value.ownBlock] at hk; simp [hk])
  have hT1 : Touch [] w w1 := hw0.transF t1 (fun i hi hlt => by simp at hi; omega)
  have hlow := hq1.own
  have t2 : Touch [] w1 ((w1.alloc (.cells #[.int .i64 x, .int .i64 y] 3)).alloc (.cells #[.slice (some ⟨w1.heap.size, 0, none⟩) 2 2] 22)) := ((Touch.refl [] w1).alloc _).alloc _
  obtain ⟨W2, hW2⟩ : ∃ W, ((w1.alloc (.cells #[.int .i64 x, .int .i64 y] 3)).alloc (.cells #[.slice (some ⟨w1.heap.size, 0, none⟩) 2 2] 22)) = W := ⟨_, rfl⟩
  have hsz : W2.heap.size = w1.heap.size + 2 := by rw [← hW2]; simp
  have hx : W2.cell? ⟨w1.heap.size + 1, 0, none⟩ = some (.slice (some ⟨w1.heap.size, 0, none⟩) 2 2) := by
    rw [← hW2]
    exact (Blk.new (w := w1.alloc (.cells #[.int .i64 x, .int .i64 y] 3)) (b := w1.heap.size + 1) (by simp)).cell (i := 0) rfl
  have hp : Sl W2 (.slice (some ⟨w1.heap.size, 0, none⟩) 2 2) [x, y] := by
    rw [← hW2]
    exact Sl.alloc ⟨_, 2, rfl, .inr ⟨w1.heap.size, 0, rfl, by simp, row2 w1 x y _ _ rfl⟩⟩ _
  rw [hW2] at t2
  have hs1 := hT1.size
  obtain ⟨v2, w3, hr2, hq2, hg2, hn2⟩ := (hq1.touch t2 (fun _ _ => by simp)).append (t := 23) Try.underlying23 hi hz0 hz1 hz2 rfl (by omega) ⟨w1.heap.size + 1, 0, none⟩ 1 _ hx rfl (by omega) (by omega)
  have t3 : Touch v1.ownBlock.toList W2 w3 := (Touch.refl _ W2).grown hg2 (fun k hk _ => Option.mem_toList.2 hk)
  have hT2 : Touch [] w W2 := hT1.trans t2
  have hT3 : Touch [] w w3 := hT2.transF t3 (fun i hi hlt => by have := (hlow i (Option.mem_toList.1 hi)).1; omega)
  refine ⟨v1, w1, v2, w3, hr1, fun ty => by rw [hW2]; exact hr2 ty, ?_, hT3, hT1, ?_, ?_⟩
  · refine hq2.rws (by simp [hul]) (fun i hi => ?_)
    by_cases hil : i < l.length
    · rw [rw_snoc_old _ _ hil, show (us ++ [Value.slice (some ⟨w1.heap.size, 0, none⟩) 2 2]).getD i (.slice none 0 0) = us.getD i (.slice none 0 0) from by
        rw [List.getD_eq_getElem?_getD, List.getD_eq_getElem?_getD, List.getElem?_append_left (by omega)]]
      exact (hus i hil).touch hT3 (by simp)
    · have : i = l.length := by simp at hi; omega
      subst this
      rw [rw_snoc_new, show (us ++ [Value.slice (some ⟨w1.heap.size, 0, none⟩) 2 2]).getD l.length (.slice none 0 0) = .slice (some ⟨w1.heap.size, 0, none⟩) 2 2 from by
        rw [List.getD_eq_getElem?_getD, List.getElem?_append_right (by omega), hul]; simp]
      exact hp.touch t3 (fun k hk hm => by
        have e : w1.heap.size = k := by simpa [Value.ownBlock] using hk
        have := (hlow k (Option.mem_toList.1 hm)).2
        omega)
  · obtain ⟨a, c, e, _⟩ := hq1.shape
    exact ⟨a, c, by rw [e, hul]⟩
  · obtain ⟨a, c, e, _⟩ := hq2.shape
    exact ⟨a, c, by rw [e]; simp [hul]⟩
end Go.Proofs.Ytdonkecclebcdaa
