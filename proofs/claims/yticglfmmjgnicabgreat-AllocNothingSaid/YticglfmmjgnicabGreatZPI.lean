/-
  A number among others; an allocator is made.
  The reference's allocator in memory: a row of fields, none of whose data is ever written; who is in, who waits.
  A list that a region which draws its order puts together: the list, a row of one that is to be appended, a datum that is to stand in it; parts of lists.
  What the reference's allocator has become behind a statement that writes one of its fields.
  A process comes in: the reference.
  May an ask be granted? The reference.
  What is pending is gone through once: the reference; what holds between the rounds.
  What is pending is gone through once, in order: the reference.
  Somebody gives back: the reference.
  Somebody asks: the reference.
  Somebody leaves: the reference.
  Somebody leaves: the reference's walk.
  What the reference's allocator is asked: who waits for what, whether it is safe, who is left.
  The reference's allocator: whether it is safe, who is left, a new one.
  Both allocators side by side: the program's and the reference's.
  One call on both.
  The law's own small run of the program's allocator.
  Of no allocator there is nothing; which totals make one: AllocNothing.
  From the walks of the laws of layer 16 to their rows: every argument is opened, the walk is called, and every argument is read again.
-/
import Derived.Deep.Cut
import Derived.Deep.CutBlock
import Derived.Deep.RegionHeldLaw
import Derived.Test.YticglfmmjgnicabGreatRows
import Derived.WalkKit
import Derived.ProofKit
import Derived.OpenShut
import Derived.ShutString
import Derived.ChangeOld
import Derived.Below
import Derived.Test.YticglfmmjgnicabGreatZPH
set_option linter.unusedVariables false
namespace Go.Proofs.YticglfmmjgnicabGreat
open Go Go.RowKit Go.BigFrame

/-- Where it stands: from 0 on, if it is there. -/
def IndexP (is : Bool) (w : World) (e : Ending) (w' : World) : Prop := ∃ i : Int, e = .returned (.int .i64 i) ∧ ((is = true ∧ 0 ≤ i) ∨ (is = false ∧ i = -1)) ∧ w = w'
set_option maxHeartbeats 4000000 in
theorem index_q (v : Value) (xs : List Int) (x : Int) (w : World) (h : Sl w v xs) (hl : xs.length ≤ 1000000) : Calls Tryz.prog 33 #[v, .int .i64 x] w (IndexP (decide (x ∈ xs)) w) := by
  have HS := Lib.hid h
  obtain ⟨a, c, rfl⟩ := h.form
  obtain ⟨L, hL⟩ : ∃ L, xs.length = L := ⟨_, rfl⟩
  have HL := Lib.hid hL
  rw [hL] at HS hl ⊢
  clear h hL
  obtain ⟨is, his⟩ : ∃ is, decide (x ∈ xs) = is := ⟨_, rfl⟩
  have HI := Lib.hid his
  rw [his]
  clear his
  go_enter Tryz.func33, Tryz.ntmps33
  go_wp2_with fail
  go_loopw [8] (fun i wr => ∃ j : Nat, j ≤ L ∧ i = .int .i64 j ∧ (∀ k, k < j → xs.getD k 0 ≠ x) ∧ w = wr) (fun i _ => L + 1 - (intOf i).toNat)
  case atStart => exact ⟨0, by omega, rfl, fun k hk => by omega, rfl⟩
  case round =>
    obtain ⟨j, hj, rfl, hno, rfl⟩ := hrel
    have HNo := Lib.hid hno
    clear hno
    by_cases hjn : j < L
    · have hlt : (j : Int) < (L : Int) := by omega
      obtain ⟨g, off, hg, xo⟩ := HS.out.ix (q := j) (by rw [HL.out]; exact hjn)
      subst hg
      have x1 := xo _ (Touch.refl _ _)
      have HM : Hid (xs.getD j 0 ∈ xs) := Lib.hid (by rw [List.getD_eq_getElem?_getD, List.getElem?_eq_getElem (by rw [HL.out]; exact hjn)]; exact List.getElem_mem _)
      obtain ⟨y, hy⟩ : ∃ x, xs.getD j 0 = x := ⟨_, rfl⟩
      have HY := Lib.hid hy
      rw [hy] at x1 HM
      clear xo hy
      by_cases he : x = y
      · have q1 : (x == y) = true := beqT he
        have HE : Hid (is = true) := Lib.hid (by rw [← HI.out]; exact dT (by rw [he]; exact HM.out))
        clear he
        go_wp2
        go_ret
        exact ⟨_, rfl, .inl ⟨HE.out, by omega⟩, rfl⟩
      · have q1 : (x == y) = false := beqF he
        have HE := Lib.hid he
        clear he
        go_wp2
        go_roundw
        case rel =>
          refine ⟨j + 1, by omega, by go_num, fun k hk => ?_, trivial⟩
          by_cases e : k = j
          · subst e; rw [HY.out]; exact Ne.symm HE.out
          · exact HNo.out k (by omega)
        case measure => simp [intOf]; omega
    · have hlt : ¬ (j : Int) < (L : Int) := by omega
      have HE : Hid (is = false) := Lib.hid (by
        rw [← HI.out]
        refine dF (fun hm => ?_)
        obtain ⟨k, hk, e⟩ := List.getElem_of_mem hm
        refine HNo.out k (by rw [HL.out] at hk; omega) ?_
        rw [List.getD_eq_getElem?_getD, List.getElem?_eq_getElem hk]; exact e)
      go_wp2
      go_ret
      exact ⟨_, rfl, .inr ⟨HE.out, rfl⟩, rfl⟩
set_option maxHeartbeats 4000000 in
theorem contains_q (v : Value) (xs : List Int) (x : Int) (b : Bool) (w : World) (h : Sl w v xs) (hl : xs.length ≤ 1000000) (hb : decide (x ∈ xs) = b) : Calls Tryz.prog 30 #[v, .int .i64 x] w fun e w' => e = .returned (.bool b) ∧ w = w' := by
  have HC := Lib.hid (index_q v xs x w h hl)
  rw [hb] at HC
  obtain ⟨a, c, rfl⟩ := h.form
  clear h hb
  go_enter Tryz.func30, Tryz.ntmps30
  go_wp2_with fail
  refine HC.out.mono ?_
  rintro e w1 ⟨i, rfl, hi, rfl⟩
  rcases hi with ⟨rfl, hi⟩ | ⟨rfl, rfl⟩
  · have q1 : decide (0 ≤ i) = true := dT hi
    go_wp2
    go_ret
    exact ⟨rfl, rfl⟩
  · go_wp2
    go_ret
    exact ⟨rfl, rfl⟩
/-- Totals that may be. -/
def newB (tot : List Int) : Bool := decide (tot.length ≤ 6) && isB tot tot.length && !decide (0 ∈ tot)
def Am.new (tot : List Int) (clm : Bool) : Am := ⟨tot, clm, [], fun _ => [], fun _ => [], []⟩
theorem Am.new_ok {tot : List Int} (h : newB tot = true) (clm : Bool) : (Am.new tot clm).Ok := by
  unfold newB at h
  rw [Bool.and_eq_true, Bool.and_eq_true] at h
  obtain ⟨⟨h1, h2⟩, h3⟩ := h
  have h1 : tot.length ≤ 6 := by simpa using h1
  have h3 : (0 : Int) ∉ tot := by simpa using h3
  have tb : ∀ k, k < tot.length → 1 ≤ tot.getD k 0 ∧ tot.getD k 0 ≤ 1000 := fun k hk => by
    have h4 := (isB_iff.1 h2).2 k hk
    have h5 : tot.getD k 0 ≠ 0 := fun e => h3 (by rw [← e, List.getD_eq_getElem?_getD, List.getElem?_eq_getElem hk]; exact List.getElem_mem hk)
    omega
  exact ⟨h1, tb, List.Pairwise.nil, fun p hp => (by cases hp), (by simp [Am.new]), fun p hp => (by cases hp), (fun p k => by simp [Am.new]), fun p hp => (by cases hp), (fun k hk => by
    show 0 ≤ (avlL tot [] _).getD k 0
    rw [avlL_nil]
    have := tb k hk
    omega), fun _ p hp => (by cases hp), fun x hx => (by cases hx), by simp [Am.new], fun _ x hx => (by cases hx)⟩
theorem newB_iff {tot : List Int} : newB tot = true ↔ tot.length ≤ 6 ∧ ∀ k, k < tot.length → 1 ≤ tot.getD k 0 ∧ tot.getD k 0 ≤ 1000 := by
  constructor
  · intro h
    have := Am.new_ok h true
    exact ⟨this.nt, this.tb⟩
  · rintro ⟨h1, h2⟩
    unfold newB
    rw [Bool.and_eq_true, Bool.and_eq_true]
    refine ⟨⟨dT h1, isB_iff.2 ⟨rfl, fun k hk => by have := h2 k hk; omega⟩⟩, ?_⟩
    rw [Bool.not_eq_true', dF]
    intro hm
    obtain ⟨k, hk, e⟩ := List.getElem_of_mem hm
    have := h2 k hk
    rw [List.getD_eq_getElem?_getD, List.getElem?_eq_getElem hk] at this
    have e : tot[k] = 0 := e
    simp [e] at this
def NewP (w : World) (tot : List Int) (clm : Bool) (e : Ending) (w' : World) : Prop :=
  Touch [] w w' ∧ ((newB tot = false ∧ e = .returned (.tuple #[.pointer none, .int .i64 1])) ∨ (newB tot = true ∧ ∃ b F, e = .returned (.tuple #[.pointer (some ⟨b, 0, none⟩), .int .i64 0]) ∧ PaS w' F b (Am.new tot clm) ∧ ∀ k, k ∈ F → w.heap.size ≤ k))
theorem new_mem {w w1 : World} {tot : List Int} {clm : Bool} (h : newB tot = true) {a : Option Addr} {n c : Nat} (t1 : Touch [] w w1) (hq : Qu w1 w.heap.size 3 (.slice a n c) (tot.map (Value.int .i64))) :
    PaS (((w1.alloc (.map #[] 0)).alloc (.map #[] 0)).alloc (.cells #[.slice a n c, .bool clm, .map (some w1.heap.size), .map (some (w1.heap.size + 1)), .slice none 0 0, .pointer none] 48)) ([w1.heap.size + 1 + 1, w1.heap.size, w1.heap.size + 1] ++ (Value.slice a n c).ownBlock.toList) (w1.heap.size + 1 + 1) (Am.new tot clm) := by
  have tA : Touch [] w1 (w1.alloc (.map #[] 0)) := (Touch.refl _ _).alloc _
  have tB : Touch [] (w1.alloc (.map #[] 0)) ((w1.alloc (.map #[] 0)).alloc (.map #[] 0)) := (Touch.refl _ _).alloc _
  have tC := (Touch.refl [] ((w1.alloc (.map #[] 0)).alloc (.map #[] 0))).alloc (.cells #[.slice a n c, .bool clm, .map (some w1.heap.size), .map (some (w1.heap.size + 1)), .slice none 0 0, .pointer none] 48)
  have sA : (w1.alloc (.map #[] 0)).heap.size = w1.heap.size + 1 := by simp
  have sB : ((w1.alloc (.map #[] 0)).alloc (.map #[] 0)).heap.size = w1.heap.size + 1 + 1 := by simp
  have m1 : Mp (Value.int .i64) (w1.alloc (.map #[] 0)) w1.heap.size (fun _ => none) 0 := Mp.new
  have m2 : Mp shK ((w1.alloc (.map #[] 0)).alloc (.map #[] 0)) (w1.alloc (.map #[] 0)).heap.size (fun _ => none) 0 := Mp.new
  rw [sA] at m2
  have ho : ∀ k, (Value.slice a n c).ownBlock = some k → w.heap.size ≤ k ∧ k < w1.heap.size := fun k hk => hq.own k hk
  refine ⟨Am.new_ok h clm, ⟨.slice a n c, w1.heap.size, w1.heap.size + 1, .slice none 0 0, .pointer none, fun _ => none, fun _ => none, 0, fun _ => .slice none 0 0, []⟩, ⟨⟨Blk.new sB.symm, fun k hk => ?_, fun k hk => ?_, ?_, ?_, (m1.touch tB (by simp)).touch tC (by simp), fun q => ⟨fun hq => (by cases hq), fun _ => rfl⟩, m2.touch tC (by simp), fun k => ?_, ⟨0, Av.nil _ _ _ _ _⟩, fun i hi => (by cases hi)⟩, .inl rfl⟩, rfl⟩
  · have s9 : w1.heap.size + 1 + 1 < (((w1.alloc (.map #[] 0)).alloc (.map #[] 0)).alloc (.cells #[.slice a n c, .bool clm, .map (some w1.heap.size), .map (some (w1.heap.size + 1)), .slice none 0 0, .pointer none] 48)).heap.size := by simp
    rcases List.mem_append.1 hk with hk | hk
    · simp only [List.mem_cons, List.not_mem_nil, or_false] at hk
      omega
    · have := ho k (Option.mem_toList.1 hk)
      omega
  · simp [PaP.W, Value.ownBlock] at hk
    rcases hk with rfl | rfl | rfl <;> simp
  · simp [PaP.W, Value.ownBlock]; omega
  · refine ⟨(((hq.sl).touch tA (fun _ _ => by simp)).touch tB (fun _ _ => by simp)).touch tC (fun _ _ => by simp), fun k hk => ⟨List.mem_append.2 (.inr (Option.mem_toList.2 hk)), fun hm => ?_⟩⟩
    have := ho k hk
    simp [PaP.W, Value.ownBlock] at hm
    omega
  · rw [if_neg]
    rintro ⟨h, _⟩
    cases h
set_option maxRecDepth 100000 in
set_option maxHeartbeats 8000000 in
theorem new_any (w : World) (v : Value) (tot : List Int) (clm : Bool) (h : Sl w v tot) (hl : tot.length ≤ 1000) : Calls Tryz.prog 8 #[v, .bool clm] w (NewP w tot clm) := by
  have HS := Lib.hid h
  obtain ⟨a, c, rfl⟩ := h.form
  obtain ⟨N, hN⟩ : ∃ N, tot.length = N := ⟨_, rfl⟩
  have HN := Lib.hid hN
  have hmm := @run_makeMap Tryz.prog
  have hnb : newB tot = (decide (N ≤ 6) && isB tot (N : Int) && !decide (0 ∈ tot)) := by unfold newB; rw [hN]
  have HNB := Lib.hid hnb
  rw [hN] at HS hl ⊢
  clear h hN hnb
  by_cases h6 : N ≤ 6
  · have hgt : ¬ (6 : Int) < (N : Int) := by omega
    obtain ⟨B, hB⟩ : ∃ B, isB tot (N : Int) = B := ⟨_, rfl⟩
    have HB := Lib.hid hB
    have H1 := Lib.hid (is_w _ tot (N : Int) B w HS.out (by omega) hB)
    obtain ⟨Z, hZ⟩ : ∃ Z, decide ((0 : Int) ∈ tot) = Z := ⟨_, rfl⟩
    have HZ := Lib.hid hZ
    have H2 := Lib.hid (contains_q _ tot 0 Z w HS.out (by rw [HN.out]; omega) hZ)
    have H3 := Lib.hid (clone_any _ tot w HS.out (by rw [HN.out]; omega))
    have HLE : Hid (decide (N ≤ 6) = true) := Lib.hid (dT h6)
    clear hB hZ
    go_enter Tryz.func8, Tryz.ntmps8
    go_wp2_with fail
    refine H1.out.mono ?_
    rintro e w1 ⟨rfl, rfl⟩
    cases B with
    | false =>
      have HF : Hid (NewP w tot clm (.returned (.tuple #[.pointer none, .int .i64 1])) w) := Lib.hid ⟨Touch.refl _ _, .inl ⟨by rw [HNB.out, HB.out]; simp, rfl⟩⟩
      go_wp2_with fail
      go_ret2
      exact HF.out
    | true =>
      go_wp2_with fail
      refine H2.out.mono ?_
      rintro e w1 ⟨rfl, rfl⟩
      cases Z with
      | true =>
        have HF : Hid (NewP w tot clm (.returned (.tuple #[.pointer none, .int .i64 1])) w) := Lib.hid ⟨Touch.refl _ _, .inl ⟨by rw [HNB.out, HZ.out]; simp, rfl⟩⟩
        go_wp2_with fail
        go_ret2
        exact HF.out
      | false =>
        have HT : Hid (newB tot = true) := Lib.hid (by rw [HNB.out, HZ.out, HB.out, HLE.out]; rfl)
        go_wp2_with fail
        refine H3.out.mono ?_
        rintro e w1 ⟨v1, rfl, hq, t1⟩
        obtain ⟨a1, c1, rfl⟩ := hq.form
        have HM := Lib.hid (new_mem (clm := clm) HT.out t1 hq)
        have HT1 := Lib.hid (And.intro hq t1)
        clear hq t1
        have HF : Hid (NewP w tot clm (.returned (.tuple #[.pointer (some ⟨w1.heap.size + 1 + 1, 0, none⟩), .int .i64 0])) (((w1.alloc (.map #[] 0)).alloc (.map #[] 0)).alloc (.cells #[.slice a1 tot.length c1, .bool clm, .map (some w1.heap.size), .map (some (w1.heap.size + 1)), .slice none 0 0, .pointer none] 48))) := Lib.hid ⟨((HT1.out.2.alloc _).alloc _).alloc _, .inr ⟨HT.out, _, _, rfl, HM.out, fun k hk => by
          have := HT1.out.2.size
          rcases List.mem_append.1 hk with hk | hk
          · simp only [List.mem_cons, List.not_mem_nil, or_false] at hk
            omega
          · exact (HT1.out.1.own k (Option.mem_toList.1 hk)).1⟩⟩
        go_wp2_with fail
        go_ret2
        exact HF.out
  · have hgt : (6 : Int) < (N : Int) := by omega
    have HF : Hid (NewP w tot clm (.returned (.tuple #[.pointer none, .int .i64 1])) w) := Lib.hid ⟨Touch.refl _ _, .inl ⟨by rw [HNB.out, dF h6]; simp, rfl⟩⟩
    go_enter Tryz.func8, Tryz.ntmps8
    go_wp2_with fail
    go_ret2
    exact HF.out
end Go.Proofs.YticglfmmjgnicabGreat

set_option linter.unusedVariables false
namespace Go.Proofs.YticglfmmjgnicabGreat
open Go Go.RowKit

/-- What its fields hold. -/
structure Rec where
  tot : List Int
  avl : List Int
  clm : Bool
  ps : List Int
  hs : List (List Int)
  cs : List (List Int)
  pd : List (Int × List Int)
def Am.rc (m : Am) : Rec := ⟨m.tot, m.avl, m.clm, m.ps, m.hs, m.cs, m.pend⟩
structure RaV where
  tv : Value
  av : Value
  pv : Value
  hv : Value
  cv : Value
  qv : Value
  qu : Nat → Value
/-- Numbers that nobody writes, as cells. -/
def Imp (w : World) (F W : List Nat) (v : Value) (xs : List Int) : Prop := (∃ base, Qu w base 3 v (xs.map (Value.int .i64))) ∧ ∀ k, v.ownBlock = some k → k ∈ F ∧ k ∉ W
theorem Imp.im {w : World} {F W : List Nat} {v : Value} {xs : List Int} (h : Imp w F W v xs) : Im w F W v xs := by
  obtain ⟨⟨base, h1⟩, h2⟩ := h
  exact ⟨h1.sl, h2⟩
theorem Imp.to {w w' : World} {F W F' W' : List Nat} {v : Value} {xs : List Int} {T : List Nat} (h : Imp w F W v xs) (ht : Touch T w w') (hT : ∀ k, k ∈ T → k ∈ F → k ∈ W) (hF : ∀ k, k ∈ F → k ∈ F') (hW : ∀ k, k ∈ F → k ∈ W' → k ∈ W) : Imp w' F' W' v xs := by
  obtain ⟨⟨base, h1⟩, h2⟩ := h
  exact ⟨⟨base, h1.touch ht (fun k hk hm => (h2 k hk).2 (hT k hm (h2 k hk).1))⟩, fun k hk => ⟨hF k (h2 k hk).1, fun hm => (h2 k hk).2 (hW k (h2 k hk).1 hm)⟩⟩
section
variable {w w1 w' : World} {F F' F1 T : List Nat} {b : Nat} {R : Rec} {r : RaV}
/-- A datum that is new: nobody writes it. -/
theorem Im.new {v : Value} {xs : List Int} (hl : ∀ k, k ∈ F → k < w.heap.size) (hb : b ∈ F) (h : Qu w1 w.heap.size 3 v (xs.map (Value.int .i64))) : Im w1 (grow F w w1) [b] v xs :=
  Own.im h (fun k hk => by simp at hk; rw [hk]; exact hl b hb)
theorem Im.up {v : Value} {xs : List Int} (ht : Touch [] w w1) (h : Im w F [b] v xs) : Im w1 (grow F w w1) [b] v xs := h.to ht (by simp) (fun k hk => grow_mem.2 (.inl hk)) (fun k _ hk => hk)
theorem Imp.new {v : Value} {xs : List Int} (hl : ∀ k, k ∈ F → k < w.heap.size) (hb : b ∈ F) (h : Qu w1 w.heap.size 3 v (xs.map (Value.int .i64))) : Imp w1 (grow F w w1) [b] v xs := ⟨⟨_, h⟩, (Im.new hl hb h).2⟩
/-- Rows that are new: a new list of data that nobody writes. -/
theorem Imr.new {v : Value} {l : List (List Int)} {vs : List Value} (hl : ∀ k, k ∈ F → k < w.heap.size) (hb : b ∈ F) (hlen : vs.length = l.length) (h : Qu w1 w.heap.size 22 v vs) (hr : ∀ i, i < l.length → Im w1 (grow F w w1) [b] (vs.getD i (.slice none 0 0)) (rw_ l i)) : Imr w1 (grow F w w1) [b] v l :=
  ⟨vs, hlen, fun k hk => by
    have := h.own k hk
    exact ⟨grow_mem.2 (.inr this), fun hm => by simp at hm; have := hl b hb; omega⟩, ⟨_, h⟩, hr⟩
theorem Im.putb {v u : Value} {xs : List Int} {i : Nat} (h : Im w F [b] v xs) : Im (w.setCell ⟨b, i, none⟩ u) F [b] v xs := h.to ((Touch.refl [b] w).setCell (by simp) u) (fun k h _ => h) (fun k h => h) (fun k _ h => h)
theorem Imp.putb {v u : Value} {xs : List Int} {i : Nat} (h : Imp w F [b] v xs) : Imp (w.setCell ⟨b, i, none⟩ u) F [b] v xs := h.to ((Touch.refl [b] w).setCell (by simp) u) (fun k h _ => h) (fun k h => h) (fun k _ h => h)
theorem Imr.putb {v u : Value} {xs : List (List Int)} {i : Nat} (h : Imr w F [b] v xs) : Imr (w.setCell ⟨b, i, none⟩ u) F [b] v xs := h.to ((Touch.refl [b] w).setCell (by simp) u) (fun k h _ => h) (fun k h => h) (fun k _ h => h)
end
/-- The place of a number, or -1. -/
def FirstI (l : List Int) (q : Int) (k : Int) : Prop := (k = -1 ∧ q ∉ l) ∨ ∃ n : Nat, k = (n : Int) ∧ n < l.length ∧ l.getD n 0 = q ∧ ∀ j, j < n → l.getD j 0 ≠ q
end Go.Proofs.YticglfmmjgnicabGreat

set_option linter.unusedVariables false
namespace Go.Proofs.YticglfmmjgnicabGreat
open Go Go.RowKit

section
variable {w : World} {base : Nat} {e : TypeId} {a : Option Addr} {n c : Nat} {xs : List Value}
theorem Qu.nlen (h : Qu w base e (.slice a n c) xs) : n = xs.length := by
  obtain ⟨a', c', e', _⟩ := h.shape
  cases e'
  rfl
theorem Qu.pre (h : Qu w base e (.slice a n c) xs) {k : Nat} (hk : k ≤ xs.length) : Qu w base e (.slice a k c) (xs.take k) := by
  rcases h with ⟨he, h0⟩ | ⟨g, off, c', cur, he, hb, hg, h1, h2, h3, h4⟩
  · cases he
    subst h0
    have : k = 0 := by simpa using hk
    subst this
    exact Qu.nil _ _ _
  · cases he
    refine .inr ⟨g, off, c, cur, by rw [List.length_take, Nat.min_eq_left hk], hb, hg, by rw [List.length_take]; omega, h2, h3, fun j hj => ?_⟩
    rw [List.length_take] at hj
    rw [h4 j (by omega), List.getElem?_take_of_lt (by omega)]
/-- The part from k on, with the value that the model gives. -/
theorem Qu.suf (h : Qu w base e (.slice a n c) xs) {k : Nat} (hk : k ≤ xs.length) : Qu w base e (.slice (if c = k then a else a.map (·.add k)) (n - k) (c - k)) (xs.drop k) := by
  rcases h with ⟨he, h0⟩ | ⟨g, off, c', cur, he, hb, hg, h1, h2, h3, h4⟩
  · cases he
    subst h0
    have : k = 0 := by simpa using hk
    subst this
    exact Qu.nil _ _ _
  · cases he
    by_cases hck : c = k
    · subst hck
      rw [if_pos rfl, show xs.length - c = 0 from by omega, Nat.sub_self, show xs.drop c = [] from List.drop_eq_nil_of_le h1]
      exact .inr ⟨g, off, 0, cur, rfl, hb, hg, Nat.le_refl _, Nat.zero_le _, by omega, fun j hj => by simp at hj⟩
    · rw [if_neg hck]
      refine .inr ⟨g, off + k, c - k, cur, by simp [Addr.add_lit], hb, hg, by simp; omega, by omega, by omega, fun j hj => ?_⟩
      rw [List.length_drop] at hj
      rw [Nat.add_assoc, h4 _ (by omega), List.getElem?_drop]
end
structure Lb (e : TypeId) (W w : World) (va : Value) (us : List Value) (bx : Option (Nat × Value)) (ro : Option (Value × List Int)) : Prop where
  t : Touch [] W w
  a : Qu w W.heap.size e va us
  b : ∀ n x, bx = some (n, x) → Blk w n #[x] e ∧ W.heap.size ≤ n ∧ va.ownBlock ≠ some n
  r : ∀ v xs, ro = some (v, xs) → Qu w W.heap.size 3 v (xs.map (Value.int .i64)) ∧ ∀ k, v.ownBlock = some k → va.ownBlock ≠ some k ∧ ∀ n x, bx = some (n, x) → k ≠ n
section
variable {e T : TypeId} {W w w' : World} {va : Value} {us : List Value} {bx : Option (Nat × Value)} {ro : Option (Value × List Int)}
theorem Lb.start (e : TypeId) (ht : Touch [] W w) : Lb e W w (.slice none 0 0) [] none none := ⟨ht, Qu.nil _ _ _, fun _ _ h => (by cases h), fun _ _ h => (by cases h)⟩
theorem Lb.same (h : Lb e W w va us bx ro) (ht : Touch [] w w') : Lb e W w' va us bx ro :=
  ⟨h.t.trans ht, h.a.touch ht (fun _ _ => by simp), fun n x hb => ⟨(h.b n x hb).1.touch ht (by simp), (h.b n x hb).2⟩, fun v xs hr => ⟨(h.r v xs hr).1.touch ht (fun _ _ => by simp), (h.r v xs hr).2⟩⟩
/-- An empty list is made. -/
theorem Lb.empty {n : Nat} (h : Lb e W w (.slice none 0 0) [] bx ro) (hn : n = w.heap.size) : Lb e W (w.alloc (.cells #[] e)) (.slice (some ⟨n, 0, none⟩) 0 0) [] bx ro := by
  have h1 := h.same ((Touch.refl [] w).alloc (.cells #[] e))
  subst hn
  refine ⟨h1.t, Qu.made rfl h.t.size rfl (Nat.zero_le _), fun n x hb => ⟨(h1.b n x hb).1, (h1.b n x hb).2.1, fun hk => ?_⟩, fun v xs hr => ⟨(h1.r v xs hr).1, fun k hk => ⟨fun hk2 => ?_, ((h.r v xs hr).2 k hk).2⟩⟩⟩
  · simp [Value.ownBlock] at hk
    have := (h.b n x hb).1.lt
    omega
  · simp [Value.ownBlock] at hk2
    have := ((h.r v xs hr).1.own k hk).2
    omega
/-- The list is what a call has answered. -/
theorem Lb.take {v : Value} {us' : List Value} (h : Lb e W w (.slice none 0 0) [] bx ro) (ht : Touch [] w w') (hq : Qu w' w.heap.size e v us') : Lb e W w' v us' bx ro := by
  have h1 := h.same ht
  refine ⟨h1.t, hq.mono h.t.size, fun n x hb => ⟨(h1.b n x hb).1, (h1.b n x hb).2.1, fun hk => ?_⟩, fun v xs hr => ⟨(h1.r v xs hr).1, fun k hk => ⟨fun hk2 => ?_, ((h.r v xs hr).2 k hk).2⟩⟩⟩
  · have := (h.b n x hb).1.lt
    have := (hq.own n hk).1
    omega
  · have := ((h.r v xs hr).1.own k hk).2
    have := (hq.own k hk2).1
    omega
/-- A datum of the call's own is there. -/
theorem Lb.datum {v : Value} {xs : List Int} (h : Lb e W w va us bx none) (ht : Touch [] w w') (hq : Qu w' w.heap.size 3 v (xs.map (Value.int .i64))) : Lb e W w' va us bx (some (v, xs)) := by
  have h1 := h.same ht
  refine ⟨h1.t, h1.a, h1.b, fun v' xs' hr => ?_⟩
  cases hr
  refine ⟨hq.mono h.t.size, fun k hk => ⟨fun hk2 => ?_, fun n x hb => ?_⟩⟩
  · have := (h.a.own k hk2).2
    have := (hq.own k hk).1
    omega
  · have := (h.b n x hb).1.lt
    have := (hq.own k hk).1
    omega
/-- A row of one is made. -/
theorem Lb.box {n : Nat} (h : Lb e W w va us none ro) (x : Value) (hn : n = w.heap.size) : Lb e W (w.alloc (.cells #[x] e)) va us (some (n, x)) ro := by
  have h1 := h.same ((Touch.refl [] w).alloc (.cells #[x] e))
  subst hn
  refine ⟨h1.t, h1.a, fun n y hb => ?_, fun v xs hr => ⟨(h1.r v xs hr).1, fun k hk => ⟨((h.r v xs hr).2 k hk).1, fun n y hb => ?_⟩⟩⟩
  · cases hb
    exact ⟨Blk.new rfl, h.t.size, fun hk => by have := (h.a.own _ hk).2; omega⟩
  · cases hb
    have := ((h.r v xs hr).1.own k hk).2
    omega
theorem Lb.boxR {n : Nat} {v : Value} {xs : List Int} (h : Lb e W w va us none (some (v, xs))) (hn : n = w.heap.size) : Lb e W (w.alloc (.cells #[v] e)) va us (some (n, v)) (some (v, xs)) := h.box v hn
/-- Others' elements are appended. -/
theorem Lb.app {i : TypeInfo} {z : Value} {bytes : Nat} (hT : Tryz.prog.underlying T = some (.slice e)) (hi : Tryz.prog.info? e = some i) (hz : i.zero = some z) (h1 : i.size = 1) (h8 : i.bytes = bytes) (hzs : z.cells.size = 1) (hb8 : bytes ≤ 24)
    (h : Lb e W w va us bx ro) (x : Value) (zs : List Value) (hs : Src Tryz.prog 1 T x zs.length zs w) (hl : us.length + zs.length ≤ 1000) :
    ∃ v' w', (∀ ty, (Builtin.append_ #[T, T] ty #[va, x]).run Tryz.prog w = .ok v' w') ∧ Lb e W w' v' (us ++ zs) bx ro := by
  obtain ⟨v', w', hr, hq, hg, hn⟩ := h.a.appendL (t := T) (tx := T) hT hi hz h1 h8 hzs h.t.size x zs hs (by
    have : (us.length + zs.length) * bytes ≤ 1000 * 24 := Nat.mul_le_mul hl hb8
    omega) (by omega)
  have tg : Touch va.ownBlock.toList w w' := (Touch.refl _ _).grown hg (fun k hk _ => by simp [hk])
  refine ⟨v', w', hr, h.t.transF tg (fun k hk hl => absurd hl (by have := (h.a.own k (Option.mem_toList.1 hk)).1; omega)), hq, fun n x hb => ?_, fun v xs hr => ?_⟩
  · obtain ⟨b1, b2, b3⟩ := h.b n x hb
    refine ⟨b1.touch tg (fun hm => b3 (Option.mem_toList.1 hm)), b2, fun hk => ?_⟩
    rcases hn n hk with q | q
    · exact b3 q
    · have := b1.lt; omega
  · obtain ⟨r1, r2⟩ := h.r v xs hr
    refine ⟨r1.touch tg (fun k hk hm => (r2 k hk).1 (Option.mem_toList.1 hm)), fun k hk => ⟨fun hk2 => ?_, (r2 k hk).2⟩⟩
    rcases hn k hk2 with q | q
    · exact (r2 k hk).1 q
    · have := (r1.own k hk).2; omega
theorem src_box {n : Nat} {x : Value} (c : Nat) (hT : Tryz.prog.underlying T = some (.slice e)) (hb : Blk w n #[x] e) (h1 : x.oneCell' = true) : Src Tryz.prog 1 T (.slice (some ⟨n, 0, none⟩) 1 c) [x].length [x] w :=
  Src.ofSlice w hT ⟨n, 0, none⟩ 1 c [x] rfl (fun j u hj => by
    have : j = 0 := by
      rcases Nat.lt_or_ge j 1 with h | h
      · omega
      · rw [List.getElem?_eq_none (by simpa using h)] at hj; cases hj
    subst this
    simp at hj
    subst hj
    have := hb.cell (i := 0) rfl
    simpa [Addr.add] using this) (fun u hu => by simp at hu; rw [hu]; exact h1)
theorem Lb.appBox {i : TypeInfo} {z : Value} {bytes : Nat} (hT : Tryz.prog.underlying T = some (.slice e)) (hi : Tryz.prog.info? e = some i) (hz : i.zero = some z) (h1 : i.size = 1) (h8 : i.bytes = bytes) (hzs : z.cells.size = 1) (hb8 : bytes ≤ 24)
    {n : Nat} {x : Value} (c : Nat) (h : Lb e W w va us (some (n, x)) ro) (hx : x.oneCell' = true) (hl : us.length + 1 ≤ 1000) :
    ∃ v' w', (∀ ty, (Builtin.append_ #[T, T] ty #[va, .slice (some ⟨n, 0, none⟩) 1 c]).run Tryz.prog w = .ok v' w') ∧ Lb e W w' v' (us ++ [x]) none ro := by
  obtain ⟨v', w', hr, h2⟩ := h.app hT hi hz h1 h8 hzs hb8 (.slice (some ⟨n, 0, none⟩) 1 c) [x] (src_box c hT (h.b n x rfl).1 hx) (by simpa using hl)
  exact ⟨v', w', hr, h2.t, h2.a, fun _ _ hb => (by cases hb), fun v xs hr => ⟨(h2.r v xs hr).1, fun k hk => ⟨((h2.r v xs hr).2 k hk).1, fun _ _ hb => (by cases hb)⟩⟩⟩
end
section
variable {W w : World} {va : Value} {us : List Value} {bx : Option (Nat × Value)} {ro : Option (Value × List Int)}
theorem Lb.appR (h : Lb 22 W w va us bx ro) (x : Value) (zs : List Value) (hs : Src Tryz.prog 1 67 x zs.length zs w) (hl : us.length + zs.length ≤ 1000) :
    ∃ v' w', (∀ ty, (Builtin.append_ #[67, 67] ty #[va, x]).run Tryz.prog w = .ok v' w') ∧ Lb 22 W w' v' (us ++ zs) bx ro := by
  obtain ⟨i0, hi, hz0, hz1, hz2⟩ := infoR
  exact h.app Tryz.underlying67 hi hz0 hz1 hz2 rfl (by omega) x zs hs hl
theorem Lb.appRB {n : Nat} {x : Value} (c : Nat) (h : Lb 22 W w va us (some (n, x)) ro) (hx : x.oneCell' = true) (hl : us.length + 1 ≤ 1000) :
    ∃ v' w', (∀ ty, (Builtin.append_ #[67, 67] ty #[va, .slice (some ⟨n, 0, none⟩) 1 c]).run Tryz.prog w = .ok v' w') ∧ Lb 22 W w' v' (us ++ [x]) none ro := by
  obtain ⟨i0, hi, hz0, hz1, hz2⟩ := infoR
  exact h.appBox Tryz.underlying67 hi hz0 hz1 hz2 rfl (by omega) c hx hl
theorem Lb.appI (h : Lb 3 W w va us bx ro) (x : Value) (zs : List Value) (hs : Src Tryz.prog 1 22 x zs.length zs w) (hl : us.length + zs.length ≤ 1000) :
    ∃ v' w', (∀ ty, (Builtin.append_ #[22, 22] ty #[va, x]).run Tryz.prog w = .ok v' w') ∧ Lb 3 W w' v' (us ++ zs) bx ro := by
  obtain ⟨i0, hi, hz0, hz1, hz2⟩ := infoI
  exact h.app Tryz.underlying22 hi hz0 hz1 hz2 rfl (by omega) x zs hs hl
theorem Lb.appIB {n : Nat} {x : Value} (c : Nat) (h : Lb 3 W w va us (some (n, x)) ro) (hx : x.oneCell' = true) (hl : us.length + 1 ≤ 1000) :
    ∃ v' w', (∀ ty, (Builtin.append_ #[22, 22] ty #[va, .slice (some ⟨n, 0, none⟩) 1 c]).run Tryz.prog w = .ok v' w') ∧ Lb 3 W w' v' (us ++ [x]) none ro := by
  obtain ⟨i0, hi, hz0, hz1, hz2⟩ := infoI
  exact h.appBox Tryz.underlying22 hi hz0 hz1 hz2 rfl (by omega) c hx hl
end
theorem Qu.later {w w' : World} {base : Nat} {e : TypeId} {v : Value} {xs : List Value} (h : Qu w base e v xs) (ht : Touch [] w w') : Qu w' base e v xs := h.touch ht (fun _ _ => by simp)
/-- Rows that nobody writes, as cells. -/
theorem Imr.vals {w : World} {F W : List Nat} {v : Value} {l : List (List Int)} (h : Imr w F W v l) : ∃ vs : List Value, vs.length = l.length ∧ (∃ base, Qu w base 22 v vs) ∧ (∀ i, i < l.length → Im w F W (vs.getD i (.slice none 0 0)) (rw_ l i)) ∧ ∀ u ∈ vs, u.oneCell' = true := by
  obtain ⟨vs, h1, h2, h3, h4⟩ := h
  exact ⟨vs, h1, h3, h4, Qu.ones h1 (fun i hi => (h4 i hi).1)⟩
end Go.Proofs.YticglfmmjgnicabGreat

set_option linter.unusedVariables false
namespace Go.Proofs.YticglfmmjgnicabGreat
open Go Go.RowKit

theorem fr_set {w w1 : World} {F : List Nat} {b i : Nat} (hl : ∀ k, k ∈ F → k < w.heap.size) (hb : b ∈ F) (ht : Touch [] w w1) (v : Value) : Fr F w (grow F w w1) (w1.setCell ⟨b, i, none⟩ v) := by
  have t : Touch F w (w1.setCell ⟨b, i, none⟩ v) := (ht.mono (by simp)).setCell hb _
  refine ⟨t, fun k hk => ?_, fun k hk => ?_⟩
  · rcases grow_mem.1 hk with e | e
    · exact .inl e
    · exact .inr e.1
  · rcases grow_mem.1 hk with e | e
    · exact Nat.lt_of_lt_of_le (hl k e) t.size
    · have : w1.heap.size ≤ (w1.setCell ⟨b, i, none⟩ v).heap.size := ((Touch.refl [b] w1).setCell (p := ⟨b, i, none⟩) (by simp) v).size
      omega
section
variable {w w1 w' : World} {F : List Nat} {b : Nat} {R : Rec} {r : RaV}
end
theorem getD_app3 {α : Type} {l1 l2 : List α} {x : α} (d : α) (i : Nat) : (l1 ++ [x] ++ l2).getD i d = if i < l1.length then l1.getD i d else if i = l1.length then x else l2.getD (i - l1.length - 1) d := by
  rw [List.append_assoc]
  by_cases h : i < l1.length
  · rw [if_pos h, List.getD_eq_getElem?_getD, List.getElem?_append_left h, ← List.getD_eq_getElem?_getD]
  · rw [if_neg h, List.getD_eq_getElem?_getD, List.getElem?_append_right (by omega)]
    by_cases e : i = l1.length
    · rw [if_pos e, e]; simp
    · rw [if_neg e, List.getD_eq_getElem?_getD, show i - l1.length = (i - l1.length - 1) + 1 from by omega]
      simp
/-- Rows of which one has been put in between. -/
theorem rows_ins {w w1 : World} {F : List Nat} {b k : Nat} {l : List (List Int)} {vs : List Value} {v c : Value} {xs : List Int} (hl : ∀ k, k ∈ F → k < w.heap.size) (hb : b ∈ F) (hk : k ≤ l.length) (hvl : vs.length = l.length) (hr : ∀ i, i < l.length → Im w F [b] (vs.getD i (.slice none 0 0)) (rw_ l i))
    (ht : Touch [] w w1) (hq : Qu w1 w.heap.size 22 v (vs.take k ++ [c] ++ vs.drop k)) (hc : Im w1 (grow F w w1) [b] c xs) : Imr w1 (grow F w w1) [b] v (l.take k ++ [xs] ++ l.drop k) := by
  refine Imr.new hl hb (by simp [hvl]) hq (fun i hi => ?_)
  have hi : i < l.length + 1 := by simp at hi; omega
  unfold rw_
  rw [getD_app3, getD_app3, List.length_take, List.length_take, hvl, Nat.min_eq_left hk]
  by_cases h1 : i < k
  · rw [if_pos h1, if_pos h1]
    have := (hr i (by omega)).up ht
    unfold rw_ at this
    rw [show (vs.take k).getD i (.slice none 0 0) = vs.getD i (.slice none 0 0) from by rw [List.getD_eq_getElem?_getD, List.getD_eq_getElem?_getD, List.getElem?_take_of_lt h1], show (l.take k).getD i [] = l.getD i [] from by rw [List.getD_eq_getElem?_getD, List.getD_eq_getElem?_getD, List.getElem?_take_of_lt h1]]
    exact this
  · rw [if_neg h1, if_neg h1]
    by_cases h2 : i = k
    · rw [if_pos h2, if_pos h2]; exact hc
    · rw [if_neg h2, if_neg h2]
      have := (hr (i - 1) (by omega)).up ht
      unfold rw_ at this
      rw [show (vs.drop k).getD (i - k - 1) (.slice none 0 0) = vs.getD (i - 1) (.slice none 0 0) from by rw [List.getD_eq_getElem?_getD, List.getD_eq_getElem?_getD, List.getElem?_drop, show k + (i - k - 1) = i - 1 from by omega], show (l.drop k).getD (i - k - 1) [] = l.getD (i - 1) [] from by rw [List.getD_eq_getElem?_getD, List.getD_eq_getElem?_getD, List.getElem?_drop, show k + (i - k - 1) = i - 1 from by omega]]
      exact this
theorem insP_split {q : Int} : ∀ {l : List Int} {k : Nat}, k ≤ l.length → (∀ j, j < k → l.getD j 0 < q) → (k < l.length → ¬ l.getD k 0 < q) → insP q l = l.take k ++ [q] ++ l.drop k
  | [], k, hk, _, _ => by
    have : k = 0 := by simpa using hk
    subst this; rfl
  | a :: l, 0, _, _, h2 => by
    have := h2 (by simp)
    have : ¬ a < q := by simpa using this
    unfold insP
    rw [if_neg this]
    rfl
  | a :: l, k + 1, hk, h1, h2 => by
    have h0 : a < q := by have := h1 0 (by omega); simpa using this
    unfold insP
    rw [if_pos h0, insP_split (l := l) (k := k) (by simpa using hk) (fun j hj => by have := h1 (j + 1) (by omega); simpa using this) (fun hl => by have := h2 (by simpa using hl); simpa using this)]
    simp
theorem map_ins {α : Type} (f g : Int → α) {q : Int} {l : List Int} {k : Nat} (hn : q ∉ l) (hf : ∀ p, p ≠ q → g p = f p) : (l.take k ++ [q] ++ l.drop k).map g = (l.map f).take k ++ [g q] ++ (l.map f).drop k := by
  have h : ∀ l' : List Int, (∀ p, p ∈ l' → p ∈ l) → l'.map g = l'.map f := fun l' hl => List.map_congr_left (fun p hp => hf p (fun e => hn (e ▸ hl p hp)))
  rw [List.map_append, List.map_append, h _ (fun p hp => List.mem_of_mem_take hp), h _ (fun p hp => List.mem_of_mem_drop hp), List.map_take, List.map_drop]
  rfl
theorem opt_add0 (a : Option Addr) : a.map (·.add 0) = a := by cases a <;> simp [Addr.add]
theorem run_pre {T e : TypeId} {s : Nat} (ht : Tryz.prog.underlying T = some (.slice (Tryz.prog.elem T))) (hs : ∀ w, (sizeOf (Tryz.prog.elem T)).run Tryz.prog w = .ok s w) (a : Option Addr) (n c k : Nat) (hk : k ≤ c) (w : World) :
    (Instr.sliceAt T (.slice a n c) none (some (.int .i64 (k : Int))) none).run Tryz.prog w = .ok (.slice a k c) w := by
  rw [run_sliceAt_slice (h := ht), run_slice_h (ht := ht) (h0 := by omega) (h2 := by omega), hs]
  simp only [Result.andThen, sliced, Int.toNat_natCast, Nat.zero_mul, Nat.sub_zero]
  by_cases h : c = 0
  · rw [if_pos h]
  · rw [if_neg h, opt_add0]
theorem run_suf {T e : TypeId} (ht : Tryz.prog.underlying T = some (.slice (Tryz.prog.elem T))) (hs : ∀ w, (sizeOf (Tryz.prog.elem T)).run Tryz.prog w = .ok 1 w) (a : Option Addr) (n c k : Nat) (hk : k ≤ n) (w : World) :
    (Instr.sliceAt T (.slice a n c) (some (.int .i64 (k : Int))) none none).run Tryz.prog w = .ok (.slice (if c = k then a else a.map (·.add k)) (n - k) (c - k)) w := by
  rw [run_sliceAt_slice (h := ht), run_slice_l (ht := ht) (h0 := by omega) (h1 := by omega), hs]
  simp only [Result.andThen, sliced, Int.toNat_natCast, Nat.mul_one]
theorem runP_I (a : Option Addr) (n c k : Nat) (hk : k ≤ c) (w : World) : (Instr.sliceAt 22 (.slice a n c) none (some (.int .i64 (k : Int))) none).run Tryz.prog w = .ok (.slice a k c) w :=
  run_pre (e := 0) (s := 1) (by kernel_rfl) (fun w => by kernel_rfl) a n c k hk w
theorem runP_R (a : Option Addr) (n c k : Nat) (hk : k ≤ c) (w : World) : (Instr.sliceAt 67 (.slice a n c) none (some (.int .i64 (k : Int))) none).run Tryz.prog w = .ok (.slice a k c) w :=
  run_pre (e := 0) (s := 1) (by kernel_rfl) (fun w => by kernel_rfl) a n c k hk w
theorem runS_I (a : Option Addr) (n c k : Nat) (hk : k ≤ n) (w : World) : (Instr.sliceAt 22 (.slice a n c) (some (.int .i64 (k : Int))) none none).run Tryz.prog w = .ok (.slice (if c = k then a else a.map (·.add k)) (n - k) (c - k)) w :=
  run_suf (e := 0) (by kernel_rfl) (fun w => by kernel_rfl) a n c k hk w
theorem runS_R (a : Option Addr) (n c k : Nat) (hk : k ≤ n) (w : World) : (Instr.sliceAt 67 (.slice a n c) (some (.int .i64 (k : Int))) none none).run Tryz.prog w = .ok (.slice (if c = k then a else a.map (·.add k)) (n - k) (c - k)) w :=
  run_suf (e := 0) (by kernel_rfl) (fun w => by kernel_rfl) a n c k hk w
/-- The two parts of a list of numbers that nobody writes. -/
theorem parts_I {w : World} {base : Nat} {a : Option Addr} {n c k : Nat} {xs : List Int} (h : Qu w base 3 (.slice a n c) (xs.map (Value.int .i64))) (hk : k ≤ xs.length) :
    (∀ w', (Instr.sliceAt 22 (.slice a n c) none (some (.int .i64 (k : Int))) none).run Tryz.prog w' = .ok (.slice a k c) w') ∧ (∀ w', Touch [] w w' → Sl w' (.slice a k c) (xs.take k)) ∧
    ∃ sa sn sc, (∀ w', (Instr.sliceAt 22 (.slice a n c) (some (.int .i64 (k : Int))) none none).run Tryz.prog w' = .ok (.slice sa sn sc) w') ∧ ∀ w', Touch [] w w' → Src Tryz.prog 1 22 (.slice sa sn sc) ((xs.drop k).map (Value.int .i64)).length ((xs.drop k).map (Value.int .i64)) w' := by
  have hn : n = xs.length := by simpa using h.nlen
  have hc : n ≤ c := by
    rcases h with ⟨he, h0⟩ | ⟨g, off, c', cur, he, hb, hg, h1, _⟩
    · cases he; exact Nat.le_refl _
    · cases he; exact h1
  refine ⟨runP_I a n c k (by omega), fun w' ht => ?_, _, _, _, runS_I a n c k (by omega), fun w' ht => ?_⟩
  · have := (h.later ht).pre (k := k) (by simpa using hk)
    rw [← List.map_take] at this
    exact this.sl
  · have := (h.later ht).suf (k := k) (by simpa using hk)
    rw [← List.map_drop] at this
    exact this.src Tryz.underlying22 (fun u hu => by
      obtain ⟨x, _, rfl⟩ := List.mem_map.1 hu
      rfl)
theorem parts_R {w : World} {base : Nat} {a : Option Addr} {n c k : Nat} {vs : List Value} (h : Qu w base 22 (.slice a n c) vs) (h1 : ∀ u ∈ vs, u.oneCell' = true) (hk : k ≤ vs.length) :
    (∀ w', (Instr.sliceAt 67 (.slice a n c) none (some (.int .i64 (k : Int))) none).run Tryz.prog w' = .ok (.slice a k c) w') ∧ (∀ w', Touch [] w w' → Src Tryz.prog 1 67 (.slice a k c) (vs.take k).length (vs.take k) w') ∧
    ∃ sa sn sc, (∀ w', (Instr.sliceAt 67 (.slice a n c) (some (.int .i64 (k : Int))) none none).run Tryz.prog w' = .ok (.slice sa sn sc) w') ∧ ∀ w', Touch [] w w' → Src Tryz.prog 1 67 (.slice sa sn sc) (vs.drop k).length (vs.drop k) w' := by
  have hn : n = vs.length := h.nlen
  have hc : n ≤ c := by
    rcases h with ⟨he, h0⟩ | ⟨g, off, c', cur, he, hb, hg, h1, _⟩
    · cases he; exact Nat.le_refl _
    · cases he; exact h1
  refine ⟨runP_R a n c k (by omega), fun w' ht => ?_, _, _, _, runS_R a n c k (by omega), fun w' ht => ?_⟩
  · exact ((h.later ht).pre hk).src Tryz.underlying67 (fun u hu => h1 u (List.mem_of_mem_take hu))
  · exact ((h.later ht).suf hk).src Tryz.underlying67 (fun u hu => h1 u (List.mem_of_mem_drop hu))
end Go.Proofs.YticglfmmjgnicabGreat

set_option linter.unusedVariables false
namespace Go.Proofs.YticglfmmjgnicabGreat
open Go Go.RowKit

theorem qu_zero (n : Nat) (hn : n ≤ 6) (w : World) {nb : Nat} (hb : nb = w.heap.size) : Qu (w.alloc (.cells (rowA (fun _ => 0) n) 3)) w.heap.size 3 (.slice (some ⟨nb, 0, none⟩) n n) ((List.replicate n (0 : Int)).map (Value.int .i64)) := by
  subst hb
  exact .inr ⟨_, 0, n, _, by simp, Nat.le_refl _, Blk.new rfl, by simp, by unfold maxLen; omega, by simp [rowA_size], fun i hi => by
    have hi : i < n := by simpa using hi
    rw [Nat.zero_add, rowA_get _ _ _ hi]
    simp [hi]⟩
end Go.Proofs.YticglfmmjgnicabGreat

set_option linter.unusedVariables false
namespace Go.Proofs.YticglfmmjgnicabGreat
open Go Go.RowKit

theorem placeI {ps : List Int} {q k0 : Int} (h : FirstI ps q k0) (hq : q ∈ ps) : ∃ n : Nat, k0 = (n : Int) ∧ n < ps.length ∧ ps.getD n 0 = q := by
  rcases h with ⟨_, h⟩ | ⟨n, h1, h2, h3, _⟩
  · exact absurd hq h
  · exact ⟨n, h1, h2, h3⟩
theorem rise_at {ps : List Int} (hr : ps.Pairwise (· < ·)) {q : Int} {k : Nat} (hk : k < ps.length) (e : ps.getD k 0 = q) : ∀ j, j < ps.length → ps.getD j 0 = q → j = k := fun j hj h => by
  have h1 : ps[j] = q := by simpa [hj] using h
  have h2 : ps[k] = q := by simpa [hk] using e
  rcases Nat.lt_trichotomy j k with c | c | c
  · have := List.pairwise_iff_getElem.1 hr j k hj hk c; omega
  · exact c
  · have := List.pairwise_iff_getElem.1 hr k j hk hj c; omega
def Am.rcp (m : Am) (pd : List (Int × List Int)) : Rec := ⟨m.tot, m.avl, m.clm, m.ps, m.hs, m.cs, pd⟩
end Go.Proofs.YticglfmmjgnicabGreat

set_option linter.unusedVariables false
namespace Go.Proofs.YticglfmmjgnicabGreat
open Go Go.RowKit

theorem ext_gd {a b : List Int} (hl : a.length = b.length) (h : ∀ k, k < a.length → a.getD k 0 = b.getD k 0) : a = b := by
  refine List.ext_getElem hl (fun k h1 h2 => ?_)
  have := h k h1
  simpa [h1, h2] using this
theorem put_avl {m : Am} (hr : m.ps.Pairwise (· < ·)) {q : Int} (hq : q ∈ m.ps) (v : List Int) {c : Nat} (hc : c < m.tot.length) : (m.put q v).avl.getD c 0 = m.avl.getD c 0 + (m.held q).getD c 0 - v.getD c 0 := by
  show (avlL m.tot m.ps (updF m.held q v)).getD c 0 = _
  unfold Am.avl
  rw [avlL_get _ _ _ hc, avlL_get _ _ _ hc, sumF_upd (rise_nd hr) hq]
  omega
theorem give_avl {m : Am} (ok : m.Ok) {q : Int} (hq : q ∈ m.ps) (u : List Int) : (m.give q u).avl = subW m.avl u := by
  refine ext_gd (by rw [Am.avl_length, subW_length, Am.avl_length]; rfl) (fun c hc => ?_)
  have hc : c < m.tot.length := by rw [Am.avl_length] at hc; exact hc
  have := ok.hl q hq
  rw [show m.give q u = m.put q (addW (m.held q) u) from rfl, put_avl ok.rise hq _ hc, subW_get _ _ _ (by rw [Am.avl_length]; exact hc), addW_get _ _ _ (by omega)]
  omega
theorem back_avl {m : Am} (ok : m.Ok) {q : Int} (hq : q ∈ m.ps) (u : List Int) : (m.back q u).avl = addW m.avl u := by
  refine ext_gd (by rw [Am.avl_length, addW_length, Am.avl_length]; rfl) (fun c hc => ?_)
  have hc : c < m.tot.length := by rw [Am.avl_length] at hc; exact hc
  have := ok.hl q hq
  rw [show m.back q u = m.put q (subW (m.held q) u) from rfl, put_avl ok.rise hq _ hc, addW_get _ _ _ (by rw [Am.avl_length]; exact hc), subW_get _ _ _ (by omega)]
  omega
/-- The rows, one of which is another one now, in a new list. -/
theorem rows_put {w w1 : World} {F : List Nat} {b k : Nat} {m : Am} {q : Int} {xs : List Int} {vs : List Value} {v c : Value} (hl : ∀ k, k ∈ F → k < w.heap.size) (hb : b ∈ F) (hk : k < m.ps.length) (hkq : m.ps.getD k 0 = q) (huq : ∀ j, j < m.ps.length → m.ps.getD j 0 = q → j = k) (hvl : vs.length = m.ps.length)
    (hr : ∀ i, i < m.hs.length → Im w F [b] (vs.getD i (.slice none 0 0)) (rw_ m.hs i)) (ht : Touch [b] w w1) (hq : Qu w1 w.heap.size 22 v (vs.set k c)) (hc : Im w1 (grow F w w1) [b] c xs) : Imr w1 (grow F w w1) [b] v (m.put q xs).hs := by
  have hlen : (m.put q xs).hs.length = m.ps.length := by simp [Am.put, Am.hs]
  refine Imr.new hl hb (by rw [hlen, List.length_set, hvl]) hq (fun i hi => ?_)
  rw [hlen] at hi
  have hrow : rw_ (m.put q xs).hs i = updF m.held q xs (m.ps.getD i 0) := by simp [rw_, Am.put, Am.hs, hi]
  rw [hrow]
  by_cases e : i = k
  · subst e
    rw [hkq, updF_at, show (vs.set i c).getD i (.slice none 0 0) = c from by simp [hvl, hi]]
    exact hc
  · rw [updF_ne _ _ (fun h => e (huq i hi h)), show (vs.set k c).getD i (.slice none 0 0) = vs.getD i (.slice none 0 0) from by rw [List.getD_eq_getElem?_getD, List.getD_eq_getElem?_getD, List.getElem?_set_ne (Ne.symm e)]]
    have h2 := (hr i (by simpa [Am.hs] using hi)).to (F' := grow F w w1) (W' := [b]) ht (fun k h _ => h) (fun k hk => grow_mem.2 (.inl hk)) (fun k _ h => h)
    rw [show rw_ m.hs i = m.held (m.ps.getD i 0) from by simp [rw_, Am.hs, hi]] at h2
    exact h2
theorem fr_b {w w1 : World} {F : List Nat} {b : Nat} (hl : ∀ k, k ∈ F → k < w.heap.size) (hb : b ∈ F) (ht : Touch [b] w w1) : Fr F w (grow F w w1) w1 := grow_fr hl (ht.mono (fun k hk => by simp at hk; rw [hk]; exact hb))
section
variable {w wr w' : World} {F F1 : List Nat} {b : Nat} {pd : List (Int × List Int)} {qv : Value} {qu : Nat → Value} {R : Am × List (Int × List Int) × List Int} {rest : List (Int × List Int)} {m1 : Am} {s : List (Int × List Int)} {g : List Int} {gv sv : Value} {sq : Nat → Value}
end
end Go.Proofs.YticglfmmjgnicabGreat

set_option linter.unusedVariables false
namespace Go.Proofs.YticglfmmjgnicabGreat
open Go Go.RowKit

end Go.Proofs.YticglfmmjgnicabGreat

set_option linter.unusedVariables false
namespace Go.Proofs.YticglfmmjgnicabGreat
open Go Go.RowKit

theorem firstI_no {ps : List Int} {q k : Int} (h : FirstI ps q k) : (q ∉ ps ∧ k = -1) ∨ (q ∈ ps ∧ ∃ n : Nat, k = (n : Int) ∧ n < ps.length ∧ ps.getD n 0 = q) := by
  rcases h with ⟨h1, h2⟩ | ⟨n, h1, h2, h3, _⟩
  · exact .inl ⟨h2, h1⟩
  · refine .inr ⟨?_, n, h1, h2, h3⟩
    rw [← h3, show ps.getD n 0 = ps[n] from by simp [h2]]
    exact List.getElem_mem _
end Go.Proofs.YticglfmmjgnicabGreat

set_option linter.unusedVariables false
namespace Go.Proofs.YticglfmmjgnicabGreat
open Go Go.RowKit

theorem askF_one (l : List (Int × List Int)) (qu : Nat → Value) (h : ∀ i, i < l.length → ∃ a n c, qu i = .slice a n c) : ∀ i, i < l.length → ∀ j, j < 2 → (askF l qu i j).oneCell' = true := fun i hi j hj => by
  unfold askF
  by_cases e : j = 0
  · rw [if_pos e]; rfl
  · rw [if_neg e]
    obtain ⟨a, n, c, e2⟩ := h i hi
    rw [e2]; rfl
end Go.Proofs.YticglfmmjgnicabGreat

set_option linter.unusedVariables false
namespace Go.Proofs.YticglfmmjgnicabGreat
open Go Go.RowKit

/-- All but the one at place k. -/
theorem filter_cut {α β : Type} [DecidableEq β] (f : α → β) (q : β) : ∀ (l : List α) (k : Nat) (hk : k < l.length), f l[k] = q → (∀ (j : Nat) (hj : j < l.length), f l[j] = q → j = k) → l.filter (fun x => decide (f x ≠ q)) = l.take k ++ l.drop (k + 1)
  | [], k, hk, _, _ => by simp at hk
  | a :: l, 0, hk, h1, h2 => by
    have h1 : f a = q := h1
    rw [List.filter_cons_of_neg (by simp [h1])]
    show l.filter _ = l
    rw [List.filter_eq_self]
    intro x hx
    obtain ⟨j, hj, e⟩ := List.getElem_of_mem hx
    refine decide_eq_true (fun e2 => ?_)
    have := h2 (j + 1) (by simpa using hj) (by simpa [e] using e2)
    omega
  | a :: l, k + 1, hk, h1, h2 => by
    have ha : f a ≠ q := fun e => by
      have := h2 0 (by simp) e
      omega
    rw [List.filter_cons_of_pos (by simp [ha]), filter_cut f q l k (by simpa using hk) (by simpa using h1) (fun j hj e => by
      have := h2 (j + 1) (by simpa using hj) (by simpa using e)
      omega)]
    simp
theorem filter_none {α β : Type} [DecidableEq β] (f : α → β) (q : β) (l : List α) (h : ∀ x, x ∈ l → f x ≠ q) : l.filter (fun x => decide (f x ≠ q)) = l := by
  rw [List.filter_eq_self]
  intro x hx
  exact decide_eq_true (h x hx)
theorem getD_del {α : Type} (l : List α) (k i : Nat) (d : α) (hk : k < l.length) : (l.take k ++ l.drop (k + 1)).getD i d = if i < k then l.getD i d else l.getD (i + 1) d := by
  by_cases h : i < k
  · rw [if_pos h, List.getD_eq_getElem?_getD, List.getD_eq_getElem?_getD, List.getElem?_append_left (by rw [List.length_take]; omega), List.getElem?_take_of_lt h]
  · rw [if_neg h, List.getD_eq_getElem?_getD, List.getD_eq_getElem?_getD, List.getElem?_append_right (by rw [List.length_take]; omega), List.getElem?_drop, List.length_take, Nat.min_eq_left (by omega), show k + 1 + (i - k) = i + 1 from by omega]
/-- Rows, but one, in a new list. -/
theorem rows_del {w w1 : World} {F : List Nat} {b k : Nat} {l : List (List Int)} {vs : List Value} {v : Value} (hl : ∀ k, k ∈ F → k < w.heap.size) (hb : b ∈ F) (hk : k < l.length) (hvl : vs.length = l.length) (hr : ∀ i, i < l.length → Im w F [b] (vs.getD i (.slice none 0 0)) (rw_ l i))
    (ht : Touch [] w w1) (hq : Qu w1 w.heap.size 22 v (vs.take k ++ vs.drop (k + 1))) : Imr w1 (grow F w w1) [b] v (l.take k ++ l.drop (k + 1)) := by
  refine Imr.new hl hb (by simp [hvl]) hq (fun i hi => ?_)
  have hi : i < l.length - 1 := by simp at hi; omega
  unfold rw_
  rw [getD_del _ _ _ _ hk, getD_del _ _ _ _ (by omega)]
  by_cases h1 : i < k
  · rw [if_pos h1, if_pos h1]
    exact (hr i (by omega)).up ht
  · rw [if_neg h1, if_neg h1]
    exact (hr (i + 1) (by omega)).up ht
/-- Two elements a place. -/
theorem run_suf2 {T : TypeId} (ht : Tryz.prog.underlying T = some (.slice (Tryz.prog.elem T))) (hs : ∀ w, (sizeOf (Tryz.prog.elem T)).run Tryz.prog w = .ok 2 w) (a : Option Addr) (n c k : Nat) (hk : k ≤ n) (w : World) :
    (Instr.sliceAt T (.slice a n c) (some (.int .i64 (k : Int))) none none).run Tryz.prog w = .ok (.slice (if c = k then a else a.map (·.add (k * 2))) (n - k) (c - k)) w := by
  rw [run_sliceAt_slice (h := ht), run_slice_l (ht := ht) (h0 := by omega) (h1 := by omega), hs]
  simp only [Result.andThen, sliced, Int.toNat_natCast]
end Go.Proofs.YticglfmmjgnicabGreat

set_option linter.unusedVariables false
namespace Go.Proofs.YticglfmmjgnicabGreat
open Go Go.RowKit

theorem firstQ_no {l : List (Int × List Int)} {q k : Int} (h : FirstQ l q k) : (k = -1 ∧ ∀ x, x ∈ l → x.1 ≠ q) ∨ ∃ n : Nat, k = (n : Int) ∧ n < l.length ∧ (l.getD n (0, [])).1 = q := by
  rcases h with ⟨h1, h2⟩ | ⟨n, h1, h2, h3, _⟩
  · refine .inl ⟨h1, fun x hx e => ?_⟩
    obtain ⟨j, hj, e2⟩ := List.getElem_of_mem hx
    exact h2 j hj (by simpa [hj, e2] using e)
  · exact .inr ⟨n, h1, h2, h3⟩
end Go.Proofs.YticglfmmjgnicabGreat

set_option linter.unusedVariables false
namespace Go.Proofs.YticglfmmjgnicabGreat
open Go Go.RowKit

theorem askOf_cons (z : List Int) (x : Int × List Int) (l : List (Int × List Int)) (q : Int) : askOf z (x :: l) q = askOf (if x.1 = q then x.2 else z) l q := rfl
theorem askOf_none (q : Int) : ∀ (l : List (Int × List Int)) (z : List Int), (∀ x, x ∈ l → x.1 ≠ q) → askOf z l q = z
  | [], _, _ => rfl
  | x :: l, z, h => by
    rw [askOf_cons, if_neg (h x (by simp)), askOf_none q l z (fun y hy => h y (by simp [hy]))]
theorem askOf_at (q : Int) : ∀ (l : List (Int × List Int)) (z : List Int) (p : Nat) (hp : p < l.length), (l[p]).1 = q → (∀ (j : Nat) (hj : j < l.length), (l[j]).1 = q → j = p) → askOf z l q = (l[p]).2
  | [], _, p, hp, _, _ => by simp at hp
  | x :: l, z, 0, hp, h1, h2 => by
    have h1 : x.1 = q := h1
    rw [askOf_cons, if_pos h1]
    refine askOf_none q l _ (fun y hy e => ?_)
    obtain ⟨j, hj, e2⟩ := List.getElem_of_mem hy
    have := h2 (j + 1) (by simpa using hj) (by simpa [e2] using e)
    omega
  | x :: l, z, p + 1, hp, h1, h2 => by
    have hx : x.1 ≠ q := fun e => by
      have := h2 0 (by simp) e
      omega
    rw [askOf_cons, if_neg hx]
    exact askOf_at q l z p (by simpa using hp) (by simpa using h1) (fun j hj e => by
      have := h2 (j + 1) (by simpa using hj) (by simpa using e)
      omega)
theorem pend_one {m : Am} (ok : m.Ok) {q : Int} {p : Nat} (hp : p < m.pend.length) (h1 : (m.pend[p]).1 = q) : ∀ (j : Nat) (hj : j < m.pend.length), (m.pend[j]).1 = q → j = p := fun j hj e => by
  have a1 : j < (m.pend.map (·.1)).length := by rw [List.length_map]; exact hj
  have a2 : p < (m.pend.map (·.1)).length := by rw [List.length_map]; exact hp
  have hpw := List.pairwise_iff_getElem.1 ok.pn
  rcases Nat.lt_trichotomy j p with c | c | c
  · exact absurd (by rw [List.getElem_map, List.getElem_map, e, h1]) (hpw j p a1 a2 c)
  · exact c
  · exact absurd (by rw [List.getElem_map, List.getElem_map, e, h1]) (hpw p j a2 a1 c)
def AskRow (w : World) (ov v : Value) (xs : List Int) : Prop := Sl w v xs ∧ ∀ k, v.ownBlock = some k → ov.ownBlock ≠ some k ∧ k < w.heap.size
/-- One row more. -/
theorem row_app {wd : World} {base : Nat} {v : Value} {vs : List Value} (h : Qu wd base 22 v vs) (hb : base ≤ wd.heap.size) (hn : vs.length ≤ 1000) (a : Option Addr) (n c : Nat) :
    ∃ v' w2, (∀ ty, (Builtin.append_ #[67, 67] ty #[v, .slice (some ⟨wd.heap.size, 0, none⟩) 1 1]).run Tryz.prog (wd.alloc (.cells #[.slice a n c] 22)) = .ok v' w2) ∧ Qu w2 base 22 v' (vs ++ [.slice a n c]) ∧ Touch v.ownBlock.toList wd w2 ∧ ∀ k, v'.ownBlock = some k → v.ownBlock = some k ∨ wd.heap.size ≤ k := by
  obtain ⟨i0, hi, hz0, hz1, hz2⟩ := infoR
  have ta : Touch [] wd (wd.alloc (.cells #[.slice a n c] 22)) := (Touch.refl _ _).alloc _
  have hsz := ta.size
  have hB : Blk (wd.alloc (.cells #[.slice a n c] 22)) wd.heap.size #[.slice a n c] 22 := Blk.new rfl
  obtain ⟨v', w2, r1, A2, g2, o2⟩ := Qu.append (t := 67) Tryz.underlying67 hi hz0 hz1 hz2 rfl (Qu.alloc h (.cells #[.slice a n c] 22)) (by omega) ⟨wd.heap.size, 0, none⟩ 1 (.slice a n c) (hB.cell (i := 0) rfl) rfl (by omega) (by omega)
  exact ⟨v', w2, r1, A2, ((Touch.refl v.ownBlock.toList wd).alloc _).grown g2 (fun k hk _ => by simp [hk]), fun k hk => by
    rcases o2 k hk with e | e
    · exact .inl e
    · exact .inr (by omega)⟩
end Go.Proofs.YticglfmmjgnicabGreat

set_option linter.unusedVariables false
namespace Go.Proofs.YticglfmmjgnicabGreat
open Go Go.RowKit

end Go.Proofs.YticglfmmjgnicabGreat

set_option linter.unusedVariables false
namespace Go.Proofs.YticglfmmjgnicabGreat
open Go Go.RowKit

theorem map_upd {α : Type} (f : Int → List Int) (p : Int) (v : List Int) (l : List Int) (h : p ∉ l) : l.map (updF f p v) = l.map f := List.map_congr_left (fun q hq => updF_ne f v (fun e => h (e ▸ hq)))
section
variable {w w' : World} {FA FB FA' FB' : List Nat} {a b : Nat} {mA mB mA' mB' : Am} {r r' : RaV}
end
section
variable {w w' : World} {FA FB : List Nat} {a b : Nat} {mA mB : Am} {r : RaV}
end
theorem ints_t (v v' : Value) (xs ys : List Int) (B : Bool) (w : World) (h : Sl w v xs) (h' : Sl w v' ys) (h1 : xs.length ≤ 1000000) (h2 : ys.length ≤ 1000000) (hB : EqI xs ys = B) :
    Calls Tryz.prog 17 #[v, v'] w fun e w' => e = .returned (.bool B) ∧ Touch [] w w' := by
  refine (ints_any v v' xs ys w h h' h1 h2).mono ?_
  rintro e w' ⟨he, n, hw⟩
  subst hw
  exact ⟨by rw [he, hB], (Touch.refl [] w).drewN n⟩
theorem ints_e (v v' : Value) (xs : List Int) (w : World) (h : Sl w v xs) (h' : Sl w v' xs) (h1 : xs.length ≤ 1000000) :
    Calls Tryz.prog 17 #[v, v'] w fun e w' => e = .returned (.bool true) ∧ Touch [] w w' := ints_t v v' xs xs true w h h' h1 h1 (eqI_refl xs)
theorem stuck_few {m : Am} (ok : m.Ok) : m.stuck.length ≤ 32 := by
  unfold Am.stuck
  rw [List.length_map]
  have h1 := stuckL_len (xs := m.avl) (hs := m.hs) (qs := m.asks)
  have h2 := ok.few
  have h3 : m.hs.length = m.ps.length := by simp [Am.hs]
  omega
end Go.Proofs.YticglfmmjgnicabGreat

set_option linter.unusedVariables false
namespace Go.Proofs.YticglfmmjgnicabGreat
open Go Go.RowKit

/-- The step on the model. -/
def Am.step (m : Am) (k q : Int) (u : List Int) : Am :=
  if k = 0 then (m.cAdmit q u).1 else if k = 1 then (m.cAsk q u).1 else if k = 2 then (m.cGive q u).1 else (m.cLeave q).1
theorem scanF_few : ∀ (l : List (Int × List Int)) (m : Am) (s : List (Int × List Int)) (g : List Int), (Am.scanF l m s g).2.2.length ≤ l.length + g.length := fun l m s g => by
  have h := Am.scanF_len l m s g
  have : ∀ (l : List (Int × List Int)) (m : Am) (s : List (Int × List Int)) (g : List Int), s.length ≤ (Am.scanF l m s g).2.1.length := fun l => by
    induction l with
    | nil => intro m s g; exact Nat.le_refl _
    | cons x l ih =>
      intro m s g
      unfold Am.scanF
      by_cases hg : m.grant x (decide (s.length = 0)) = true
      · rw [if_pos hg]; exact ih _ _ _
      · rw [if_neg hg]; have := ih m (s ++ [x]) g; simp at this; omega
  have := this l m s g
  omega
theorem scan_few {m : Am} (ok : m.Ok) : m.scan.2.length ≤ 32 := by
  have h := scanF_few m.pend m [] []
  have := pend_few ok
  have e : m.scan.2 = (Am.scanF m.pend m [] []).2.2 := rfl
  rw [e]
  simp at h
  omega
theorem ask_few {m : Am} (ok : m.Ok) (q : Int) (u : List Int) : (m.cAsk q u).2.1.length ≤ 1000 := by
  unfold Am.cAsk
  split; simp
  split; simp
  split; simp
  split; simp
  rename_i h1 h2 h3 h4
  have := scan_few (ok.wait (p := q) (u := u) (by simpa using h1) (by simpa using h2) h3 (fun hc => by
    cases hf : fitsB (addW (m.held q) u) (m.claim q) with
    | true => rfl
    | false => exact absurd ⟨hc, hf⟩ h4))
  simp only
  omega
theorem give_few {m : Am} (ok : m.Ok) (q : Int) (u : List Int) : (m.cGive q u).2.1.length ≤ 1000 := by
  unfold Am.cGive
  split; simp
  split; simp
  split; simp
  rename_i h1 h2 h3
  have := scan_few (ok.back (p := q) (u := u) (by simpa using h1) (by simpa using h2) (by simpa using h3))
  simp only
  omega
theorem leave_few {m : Am} (ok : m.Ok) (q : Int) : (m.cLeave q).2.1.length ≤ 1000 := by
  unfold Am.cLeave
  split; simp
  rename_i h1
  have := scan_few (ok.quit (p := q) (by simpa using h1))
  simp only
  omega
end Go.Proofs.YticglfmmjgnicabGreat

set_option linter.unusedVariables false
namespace Go.Proofs.YticglfmmjgnicabGreat
open Go Go.RowKit

def mA0 : Am := Am.new [2] true
def mA1 : Am := (Am.cAdmit mA0 1 [2]).1
def mA2 : Am := (Am.cAdmit mA1 2 [2]).1
def mA3 : Am := (Am.cAdmit mA2 3 [3]).1
def mA4 : Am := (Am.cAsk mA3 1 [1]).1
def mA5 : Am := (Am.cAsk mA4 2 [1]).1
def mA6 : Am := (Am.cAsk mA5 1 [2]).1
def mA7 : Am := (Am.cGive mA6 1 [2]).1
def mA8 : Am := (Am.cLeave mA7 1).1
def mA9 : Am := (Am.cLeave mA8 1).1
theorem rA1 : mA0.cAdmit 1 [2] = (mA1, 0) := Prod.ext rfl (by decide +kernel)
theorem rA2 : mA1.cAdmit 2 [2] = (mA2, 0) := Prod.ext rfl (by decide +kernel)
theorem rA3 : mA2.cAdmit 3 [3] = (mA3, 35) := Prod.ext rfl (by decide +kernel)
theorem rA4 : mA3.cAsk 1 [1] = (mA4, [1], 0) := Prod.ext rfl (Prod.ext (by decide +kernel) (by decide +kernel))
theorem rA5 : mA4.cAsk 2 [1] = (mA5, [], 0) := Prod.ext rfl (Prod.ext (by decide +kernel) (by decide +kernel))
theorem rA6 : mA5.cAsk 1 [2] = (mA6, [], 35) := Prod.ext rfl (Prod.ext (by decide +kernel) (by decide +kernel))
theorem rA7 : mA6.cGive 1 [2] = (mA7, [], 36) := Prod.ext rfl (Prod.ext (by decide +kernel) (by decide +kernel))
theorem rA8 : mA7.cLeave 1 = (mA8, [2], true) := Prod.ext rfl (Prod.ext (by decide +kernel) (by decide +kernel))
theorem rA9 : mA8.cLeave 1 = (mA9, [], false) := Prod.ext rfl (Prod.ext (by decide +kernel) (by decide +kernel))
theorem one_sl (w : World) (x : Int) : Sl (w.alloc (.cells #[.int .i64 x] 3)) (.slice (some ⟨w.heap.size, 0, none⟩) 1 1) [x] := ⟨_, 1, rfl, .inr ⟨w.heap.size, 0, rfl, by simp, row1 _ _ _ _ rfl⟩⟩
structure AwS (w0 w : World) (F : List Nat) (a : Nat) (m : Am) : Prop where
  P : PaS w F a m
  g : ∀ k, k ∈ F → w0.heap.size ≤ k
  t : Touch [] w0 w
section
variable {w0 w w' : World} {F F' : List Nat} {a : Nat} {m m' : Am}
theorem AwS.same (h : AwS w0 w F a m) (ht : Touch [] w w') : AwS w0 w' F a m := ⟨h.P.same ht, h.g, h.t.trans ht⟩
theorem AwS.step (h : AwS w0 w F a m) (hf : Fr F w F' w') (hp : PaS w' F' a m') : AwS w0 w' F' a m' :=
  ⟨hp, fun k hk => by
    rcases hf.g k hk with e | e
    · exact h.g k e
    · have := h.t.size; omega, h.t.transF hf.t (fun k hk hl => absurd hl (by have := h.g k hk; omega))⟩
/-- A list that a call has answered, kept. -/
structure Kp (w : World) (F : List Nat) (v : Value) (xs : List Int) : Prop where
  s : Sl w v xs
  o : ∀ k, v.ownBlock = some k → k ∉ F ∧ k < w.heap.size
theorem Kp.same {v : Value} {xs : List Int} (h : Kp w F v xs) (ht : Touch [] w w') : Kp w' F v xs := ⟨h.s.touch ht (fun _ _ => by simp), fun k hk => ⟨(h.o k hk).1, Nat.lt_of_lt_of_le (h.o k hk).2 ht.size⟩⟩
theorem Kp.step {v : Value} {xs : List Int} (h : Kp w F v xs) (hf : Fr F w F' w') : Kp w' F' v xs := ⟨h.s.touch hf.t (fun k hk => (h.o k hk).1), fun k hk => ⟨fun hm => by
  rcases hf.g k hm with e | e
  · exact (h.o k hk).1 e
  · have := (h.o k hk).2; omega, Nat.lt_of_lt_of_le (h.o k hk).2 hf.t.size⟩⟩
theorem Kp.of {w0 : World} {v : Value} {xs : List Int} (h : Qu w w0.heap.size 3 v (xs.map (Value.int .i64))) (ho : ∀ k, v.ownBlock = some k → k ∉ F) : Kp w F v xs := ⟨h.sl, fun k hk => ⟨ho k hk, (h.own k hk).2⟩⟩
end
def AwP (w : World) (e : Ending) (w' : World) : Prop := e = .returned (.bool true) ∧ Touch [] w w'
set_option maxRecDepth 100000 in
set_option maxHeartbeats 40000000 in
theorem awake_any (w : World) : Calls Tryz.prog 4 #[] w (AwP w) := by
  have t0 : Touch [] w (w.alloc (.cells #[.int .i64 2] 3)) := (Touch.refl [] w).alloc _
  have HT0 := Lib.hid t0
  have HC := Lib.hid (new_any _ _ [2] true (one_sl w 2) (by simp))
  clear t0
  go_enter Tryz.func4, Tryz.ntmps4
  go_wp2_with fail
  refine HC.out.mono ?_
  rintro e w1 ⟨ht, hn⟩
  have h2 : newB [2] = true := by decide +kernel
  rcases hn with ⟨hn, _⟩ | ⟨_, a, F0, rfl, hp, hg⟩
  · rw [h2] at hn; cases hn
  have HS : Hid (AwS w w1 F0 a mA0) := Lib.hid ⟨hp, fun k hk => by have := hg k hk; have := HT0.out.size; omega, HT0.out.trans ht⟩
  have HC := Lib.hid (new_any _ _ [0] true (one_sl w1 0) (by simp))
  clear ht h2 hp hg HT0
  go_wp2_with fail
  refine HC.out.mono ?_
  rintro e w2 ⟨ht, hn⟩
  have h0 : newB [0] = false := by decide +kernel
  rcases hn with ⟨_, rfl⟩ | ⟨hn, _⟩
  case inr => rw [h0] at hn; cases hn
  have HS := Lib.hid (HS.out.same (((Touch.refl [] w1).alloc _).trans ht))
  clear ht h0 HC
  have hs := HS.out.same ((Touch.refl [] w2).alloc (.cells #[.int .i64 2] 3))
  have hc := admit_any _ F0 a mA0 1 _ [2] hs.P (by unfold InI; omega) (one_sl w2 2)
  rw [rA1] at hc
  have HS := Lib.hid hs
  have HC := Lib.hid hc
  clear hs hc
  go_wp2_with fail
  refine HC.out.mono ?_
  rintro e w3 ⟨rfl, F1, hf, hp⟩
  have HS := Lib.hid (HS.out.step hf hp)
  clear hf hp HC
  have hs := HS.out.same ((Touch.refl [] w3).alloc (.cells #[.int .i64 2] 3))
  have hc := admit_any _ F1 a mA1 2 _ [2] hs.P (by unfold InI; omega) (one_sl w3 2)
  rw [rA2] at hc
  have HS := Lib.hid hs
  have HC := Lib.hid hc
  clear hs hc
  go_wp2_with fail
  refine HC.out.mono ?_
  rintro e w4 ⟨rfl, F2, hf, hp⟩
  have HS := Lib.hid (HS.out.step hf hp)
  clear hf hp HC
  have hs := HS.out.same ((Touch.refl [] w4).alloc (.cells #[.int .i64 3] 3))
  have hc := admit_any _ F2 a mA2 3 _ [3] hs.P (by unfold InI; omega) (one_sl w4 3)
  rw [rA3] at hc
  have HS := Lib.hid hs
  have HC := Lib.hid hc
  clear hs hc
  go_wp2_with fail
  refine HC.out.mono ?_
  rintro e w5 ⟨rfl, F3, hf, hp⟩
  have HS := Lib.hid (HS.out.step hf hp)
  clear hf hp HC
  have hs := HS.out.same ((Touch.refl [] w5).alloc (.cells #[.int .i64 1] 3))
  have hc := ask_any _ F3 a mA3 1 _ [1] hs.P (one_sl w5 1)
  rw [rA4] at hc
  have HS := Lib.hid hs
  have HC := Lib.hid hc
  clear hs hc
  go_wp2_with fail
  refine HC.out.mono ?_
  rintro e w6 ⟨v3, F4, rfl, hf, hp, hq, ho⟩
  obtain ⟨xa3, xc3, rfl⟩ : ∃ a c, v3 = Value.slice a 1 c := by obtain ⟨a, c, e, _⟩ := hq.shape; exact ⟨a, c, e⟩
  have HK3 := Lib.hid (Kp.of hq ho)
  have HS := Lib.hid (HS.out.step hf hp)
  clear hf hp HC hq ho
  have hs := HS.out.same ((Touch.refl [] w6).alloc (.cells #[.int .i64 1] 3))
  have HK3 := Lib.hid (HK3.out.same ((Touch.refl [] w6).alloc (.cells #[.int .i64 1] 3)))
  have hc := ask_any _ F4 a mA4 2 _ [1] hs.P (one_sl w6 1)
  rw [rA5] at hc
  have HS := Lib.hid hs
  have HC := Lib.hid hc
  clear hs hc
  go_wp2_with fail
  refine HC.out.mono ?_
  rintro e w7 ⟨v4, F5, rfl, hf, hp, hq, ho⟩
  obtain ⟨xa4, xc4, rfl⟩ : ∃ a c, v4 = Value.slice a 0 c := by obtain ⟨a, c, e, _⟩ := hq.shape; exact ⟨a, c, e⟩
  have HK3 := Lib.hid (HK3.out.step hf)
  have HS := Lib.hid (HS.out.step hf hp)
  clear hf hp HC hq ho
  have hs := HS.out.same ((Touch.refl [] w7).alloc (.cells #[.int .i64 2] 3))
  have HK3 := Lib.hid (HK3.out.same ((Touch.refl [] w7).alloc (.cells #[.int .i64 2] 3)))
  have hc := ask_any _ F5 a mA5 1 _ [2] hs.P (one_sl w7 2)
  rw [rA6] at hc
  have HS := Lib.hid hs
  have HC := Lib.hid hc
  clear hs hc
  go_wp2_with fail
  refine HC.out.mono ?_
  rintro e w8 ⟨v5, F6, rfl, hf, hp, hq, ho⟩
  obtain ⟨xa5, xc5, rfl⟩ : ∃ a c, v5 = Value.slice a 0 c := by obtain ⟨a, c, e, _⟩ := hq.shape; exact ⟨a, c, e⟩
  have HK3 := Lib.hid (HK3.out.step hf)
  have HS := Lib.hid (HS.out.step hf hp)
  clear hf hp HC hq ho
  have hs := HS.out.same ((Touch.refl [] w8).alloc (.cells #[.int .i64 2] 3))
  have HK3 := Lib.hid (HK3.out.same ((Touch.refl [] w8).alloc (.cells #[.int .i64 2] 3)))
  have hc := give_any _ F6 a mA6 1 _ [2] hs.P (one_sl w8 2) (fun _ k hk hm => by simp [Value.ownBlock] at hk; have := HS.out.P.lt k hm; omega)
  rw [rA7] at hc
  have HS := Lib.hid hs
  have HC := Lib.hid hc
  clear hs hc
  go_wp2_with fail
  refine HC.out.mono ?_
  rintro e w9 ⟨v6, F7, rfl, hf, hp, hq, ho⟩
  obtain ⟨xa6, xc6, rfl⟩ : ∃ a c, v6 = Value.slice a 0 c := by obtain ⟨a, c, e, _⟩ := hq.shape; exact ⟨a, c, e⟩
  have HK3 := Lib.hid (HK3.out.step hf)
  have HS := Lib.hid (HS.out.step hf hp)
  clear hf hp HC hq ho
  have HK3 := Lib.hid (HK3.out.same ((Touch.refl [] w9).alloc (.cells #[.int .i64 1] 3)))
  have HS := Lib.hid (HS.out.same ((Touch.refl [] w9).alloc (.cells #[.int .i64 1] 3)))
  have HC := Lib.hid (ints_e _ _ [1] _ HK3.out.s (one_sl w9 1) (by simp))
  go_wp2_with fail
  refine HC.out.mono ?_
  rintro e w20 ⟨rfl, ht⟩
  have HS := Lib.hid (HS.out.same ht)
  obtain ⟨ok, p, hp, e⟩ := HS.out.P
  have hc := pending_any w20 F7 a mA7 p hp.toPb (by rw [e]; decide +kernel) (by rw [e]; decide +kernel)
  rw [e] at hc
  have HC := Lib.hid hc
  clear ht ok hp e hc HK3
  go_wp2_with fail
  refine HC.out.mono ?_
  rintro e w21 ⟨v21, qu, rfl, haks, ht⟩
  obtain ⟨ka, kc, rfl⟩ : ∃ a c, v21 = Value.slice a 1 c := by obtain ⟨a, c, e, _⟩ := haks.s.form; exact ⟨a, c, e⟩
  have HS := Lib.hid (HS.out.same ht)
  clear haks ht HC
  have hs := HS.out
  have hc := leave_any _ F7 a mA7 1 hs.P
  rw [rA8] at hc
  have HS := Lib.hid hs
  have HC := Lib.hid hc
  clear hs hc
  go_wp2_with fail
  refine HC.out.mono ?_
  rintro e w10 ⟨v7, F8, rfl, hf, hp, hq, ho⟩
  obtain ⟨xa7, xc7, rfl⟩ : ∃ a c, v7 = Value.slice a 1 c := by obtain ⟨a, c, e, _⟩ := hq.shape; exact ⟨a, c, e⟩
  have HK7 := Lib.hid (Kp.of hq ho)
  have HS := Lib.hid (HS.out.step hf hp)
  clear hf hp HC hq ho
  have hs := HS.out
  have hc := leave_any _ F8 a mA8 1 hs.P
  rw [rA9] at hc
  have HS := Lib.hid hs
  have HC := Lib.hid hc
  clear hs hc
  go_wp2_with fail
  refine HC.out.mono ?_
  rintro e w11 ⟨v8, F9, rfl, hf, hp, hq, ho⟩
  obtain ⟨xa8, xc8, rfl⟩ : ∃ a c, v8 = Value.slice a 0 c := by obtain ⟨a, c, e, _⟩ := hq.shape; exact ⟨a, c, e⟩
  have HK7 := Lib.hid (HK7.out.step hf)
  have HS := Lib.hid (HS.out.step hf hp)
  clear hf hp HC hq ho
  have HK7 := Lib.hid (HK7.out.same ((Touch.refl [] w11).alloc (.cells #[.int .i64 2] 3)))
  have HS := Lib.hid (HS.out.same ((Touch.refl [] w11).alloc (.cells #[.int .i64 2] 3)))
  have HC := Lib.hid (ints_e _ _ [2] _ HK7.out.s (one_sl w11 2) (by simp))
  go_wp2_with fail
  refine HC.out.mono ?_
  rintro e w30 ⟨rfl, ht⟩
  have HS := Lib.hid (HS.out.same ht)
  obtain ⟨ok, p, hp, e⟩ := HS.out.P
  have hc := held_in w30 F9 a mA9 p 2 hp.toPb (by decide +kernel) (by decide +kernel) (by decide +kernel) (by unfold InI; omega)
  rw [show mA9.held 2 = [1] from by decide +kernel] at hc
  have HC := Lib.hid hc
  clear ht ok hp e hc HK7
  go_wp2_with fail
  refine HC.out.mono ?_
  rintro e w31 ⟨v31, rfl, hq, ht⟩
  obtain ⟨ha, hc, rfl⟩ : ∃ a c, v31 = Value.slice a 1 c := by obtain ⟨a, c, e, _⟩ := hq.shape; exact ⟨a, c, e⟩
  have HS := Lib.hid (HS.out.same (ht.trans ((Touch.refl [] w31).alloc (.cells #[.int .i64 1] 3))))
  have HC := Lib.hid (ints_e _ _ [1] _ (hq.sl.touch ((Touch.refl [] w31).alloc (.cells #[.int .i64 1] 3)) (fun _ _ => by simp)) (one_sl w31 1) (by simp))
  clear hq ht
  go_wp2_with fail
  refine HC.out.mono ?_
  rintro e w32 ⟨rfl, ht⟩
  have HS := Lib.hid (HS.out.same ht)
  obtain ⟨ok, p, hp, e⟩ := HS.out.P
  have hc := avail_any w32 F9 a mA9 p hp ok
  rw [show mA9.avl = [1] from by decide +kernel] at hc
  have HC := Lib.hid hc
  have HPD := Lib.hid (And.intro ok e)
  clear ht ok hp e hc
  go_wp2_with fail
  refine HC.out.mono ?_
  rintro e w33 ⟨v33, F33, rfl, hrd, hq, ho⟩
  obtain ⟨hf, hp⟩ := hrd.paS HPD.out.1 HPD.out.2
  obtain ⟨ia, ic, rfl⟩ : ∃ a c, v33 = Value.slice a 1 c := by obtain ⟨a, c, e, _⟩ := hq.shape; exact ⟨a, c, e⟩
  have HS := Lib.hid ((HS.out.step hf hp).same ((Touch.refl [] w33).alloc (.cells #[.int .i64 1] 3)))
  have HC := Lib.hid (ints_e _ _ [1] _ (hq.sl.touch ((Touch.refl [] w33).alloc (.cells #[.int .i64 1] 3)) (fun _ _ => by simp)) (one_sl w33 1) (by simp))
  clear hrd hq ho hf hp HPD
  go_wp2_with fail
  refine HC.out.mono ?_
  rintro e w34 ⟨rfl, ht⟩
  have HS := Lib.hid (HS.out.same ht)
  obtain ⟨ok, p, hp, e⟩ := HS.out.P
  have hc := asafe_any w34 F33 a mA9 p hp ok
  rw [show mA9.safe = true from by decide +kernel] at hc
  have HC := Lib.hid hc
  have HPD := Lib.hid (And.intro ok e)
  clear ht ok hp e hc
  go_wp2_with fail
  refine HC.out.mono ?_
  rintro e w35 ⟨rfl, F35, hrd⟩
  obtain ⟨hf, hp⟩ := hrd.paS HPD.out.1 HPD.out.2
  have HS := Lib.hid (HS.out.step hf hp)
  obtain ⟨ok, p2, hp2, e⟩ := HS.out.P
  have hc := astuck_any w35 F35 a mA9 p2 hp2 ok e (by decide +kernel)
  rw [show mA9.stuck = [] from by decide +kernel] at hc
  have HC := Lib.hid hc
  have HPD := Lib.hid (And.intro ok e)
  clear hrd hf hp ok hp2 e hc
  go_wp2_with fail
  refine HC.out.mono ?_
  rintro e w36 ⟨v36, F36, rfl, hrd, hq, ho⟩
  obtain ⟨hf, hp⟩ := hrd.paS HPD.out.1 HPD.out.2
  obtain ⟨ja, jc, rfl⟩ : ∃ a c, v36 = Value.slice a 0 c := by obtain ⟨a, c, e, _⟩ := hq.shape; exact ⟨a, c, e⟩
  have HF : Hid (AwP w (.returned (.bool true)) w36) := Lib.hid ⟨rfl, (HS.out.step hf hp).t⟩
  clear hrd hq ho hf hp HC HPD HS
  go_wp2_with fail
  go_ret
  exact HF.out
end Go.Proofs.YticglfmmjgnicabGreat

set_option linter.unusedVariables false
set_option linter.unusedSimpArgs false
namespace Go.Proofs.YticglfmmjgnicabGreat
open Go Go.RowKit

set_option maxRecDepth 100000 in
theorem ask_nil (w : World) (q : Int) (v : Value) : Calls Tryz.prog 5 #[.pointer none, .int .i64 q, v] w fun e w' => e = .returned (.tuple #[.slice none 0 0, .int .i64 3]) ∧ Touch [] w w' := by
  have tb : Touch [] w (w.alloc (.cells #[.int .i64 q] 3)) := (Touch.refl [] w).alloc _
  have HTB := Lib.hid tb
  clear tb
  go_enter Tryz.func5, Tryz.ntmps5
  go_wp2_with fail
  refine (isIn_nil _ _).mono ?_
  rintro e w' ⟨rfl, rfl⟩
  go_wp2_with fail
  go_ret2
  exact ⟨rfl, by first | exact Touch.refl _ _ | with_reducible exact HTB.out⟩
set_option maxRecDepth 100000 in
theorem give_nil (w : World) (q : Int) (v : Value) : Calls Tryz.prog 6 #[.pointer none, .int .i64 q, v] w fun e w' => e = .returned (.tuple #[.slice none 0 0, .int .i64 3]) ∧ Touch [] w w' := by
  go_enter Tryz.func6, Tryz.ntmps6
  go_wp2_with fail
  refine (isIn_nil _ _).mono ?_
  rintro e w' ⟨rfl, rfl⟩
  go_wp2_with fail
  go_ret2
  exact ⟨rfl, by first | exact Touch.refl _ _ | with_reducible exact HTB.out⟩
set_option maxRecDepth 100000 in
theorem leave_nil (w : World) (q : Int) : Calls Tryz.prog 7 #[.pointer none, .int .i64 q] w fun e w' => e = .returned (.tuple #[.slice none 0 0, .bool false]) ∧ Touch [] w w' := by
  have tb : Touch [] w (w.alloc (.cells #[.int .i64 q] 3)) := (Touch.refl [] w).alloc _
  have HTB := Lib.hid tb
  clear tb
  go_enter Tryz.func7, Tryz.ntmps7
  go_wp2_with fail
  refine (isIn_nil _ _).mono ?_
  rintro e w' ⟨rfl, rfl⟩
  go_wp2_with fail
  go_ret2
  exact ⟨rfl, by first | exact Touch.refl _ _ | with_reducible exact HTB.out⟩
set_option maxRecDepth 100000 in
theorem admit_nil (w : World) (q : Int) (v : Value) : Calls Tryz.prog 9 #[.pointer none, .int .i64 q, v] w fun e w' => e = .returned (.int .i64 3) ∧ Touch [] w w' := by
  go_enter Tryz.func9, Tryz.ntmps9
  go_wp2_with fail
  go_ret
  exact ⟨rfl, by first | exact Touch.refl _ _ | with_reducible exact HTB.out⟩
set_option maxRecDepth 100000 in
theorem avail_nil (w : World) : Calls Tryz.prog 10 #[.pointer none] w fun e w' => e = .returned (.slice none 0 0) ∧ Touch [] w w' := by
  go_enter Tryz.func10, Tryz.ntmps10
  go_wp2_with fail
  go_ret
  exact ⟨rfl, by first | exact Touch.refl _ _ | with_reducible exact HTB.out⟩
set_option maxRecDepth 100000 in
theorem pids_nil (w : World) : Calls Tryz.prog 11 #[.pointer none] w fun e w' => e = .returned (.slice none 0 0) ∧ Touch [] w w' := by
  go_enter Tryz.func11, Tryz.ntmps11
  go_wp2_with fail
  go_ret
  exact ⟨rfl, by first | exact Touch.refl _ _ | with_reducible exact HTB.out⟩
set_option maxRecDepth 100000 in
theorem pending_nil (w : World) : Calls Tryz.prog 12 #[.pointer none] w fun e w' => e = .returned (.slice none 0 0) ∧ Touch [] w w' := by
  go_enter Tryz.func12, Tryz.ntmps12
  go_wp2_with fail
  go_ret
  exact ⟨rfl, by first | exact Touch.refl _ _ | with_reducible exact HTB.out⟩
set_option maxRecDepth 100000 in
theorem safe_nil (w : World) : Calls Tryz.prog 13 #[.pointer none] w fun e w' => e = .returned (.bool false) ∧ Touch [] w w' := by
  go_enter Tryz.func13, Tryz.ntmps13
  go_wp2_with fail
  go_ret
  exact ⟨rfl, by first | exact Touch.refl _ _ | with_reducible exact HTB.out⟩
set_option maxRecDepth 100000 in
theorem stuck_nil (w : World) : Calls Tryz.prog 14 #[.pointer none] w fun e w' => e = .returned (.slice none 0 0) ∧ Touch [] w w' := by
  go_enter Tryz.func14, Tryz.ntmps14
  go_wp2_with fail
  go_ret
  exact ⟨rfl, by first | exact Touch.refl _ _ | with_reducible exact HTB.out⟩
set_option maxRecDepth 100000 in
theorem held_nil (w : World) (q : Int) : Calls Tryz.prog 15 #[.pointer none, .int .i64 q] w fun e w' => e = .returned (.slice none 0 0) ∧ Touch [] w w' := by
  go_enter Tryz.func15, Tryz.ntmps15
  go_wp2_with fail
  refine (isIn_nil _ _).mono ?_
  rintro e w' ⟨rfl, rfl⟩
  go_wp2_with fail
  go_ret
  exact ⟨rfl, by first | exact Touch.refl _ _ | with_reducible exact HTB.out⟩
set_option maxRecDepth 100000 in
theorem claim_nil (w : World) (q : Int) : Calls Tryz.prog 16 #[.pointer none, .int .i64 q] w fun e w' => e = .returned (.slice none 0 0) ∧ Touch [] w w' := by
  go_enter Tryz.func16, Tryz.ntmps16
  go_wp2_with fail
  refine (isIn_nil _ _).mono ?_
  rintro e w' ⟨rfl, rfl⟩
  go_wp2_with fail
  go_ret
  exact ⟨rfl, by first | exact Touch.refl _ _ | with_reducible exact HTB.out⟩
def mayF (xs : List Int) (i : Nat) : Bool := decide (xs.length ≤ 6) && (xs.take i).all (fun x => decide (1 ≤ x) && decide (x ≤ 1000))
theorem mayF_next (xs : List Int) {i : Nat} (h : i < xs.length) : mayF xs (i + 1) = (mayF xs i && (decide (1 ≤ xs.getD i 0) && decide (xs.getD i 0 ≤ 1000))) := by
  unfold mayF
  rw [List.take_succ_eq_append_getElem h, List.all_append]
  simp [h, Bool.and_assoc]
theorem mayF_end (xs : List Int) : mayF xs xs.length = newB xs := by
  rw [Bool.eq_iff_iff]
  unfold mayF newB
  rw [List.take_length]
  simp only [Bool.and_eq_true, decide_eq_true_eq, List.all_eq_true, Bool.not_eq_true', decide_eq_false_iff_not]
  constructor
  · rintro ⟨h1, h2⟩
    refine ⟨⟨h1, isB_iff.2 ⟨rfl, fun k hk => ?_⟩⟩, fun h => by have := (h2 0 h).1; omega⟩
    have := h2 (xs.getD k 0) (by rw [show xs.getD k 0 = xs[k] from by simp [hk]]; exact List.getElem_mem hk)
    omega
  · rintro ⟨⟨h1, h2⟩, h3⟩
    refine ⟨h1, fun x hx => ?_⟩
    obtain ⟨k, hk, e⟩ := List.getElem_of_mem hx
    have h4 := (isB_iff.1 h2).2 k hk
    rw [show xs.getD k 0 = xs[k] from by simp [hk], e] at h4
    have h5 : x ≠ 0 := fun e2 => h3 (by rw [← e2]; exact hx)
    omega
set_option maxRecDepth 100000 in
set_option maxHeartbeats 8000000 in
theorem nothing_any (clm : Bool) (q : Int) (a : Option Addr) (L c : Nat) (xs : List Int) (w : World) (h : Sl w (.slice a L c) xs) (h1 : L ≤ 9223372036854775807) :
    Calls Tryz.prog 3 #[.slice a L c, .bool clm, .int .i64 q] w (AwP w) := by
  have hL : L = xs.length := by obtain ⟨a, c, e, _⟩ := h; cases e; rfl
  have HL := Lib.hid hL
  have HS := Lib.hid h
  have HAW := Lib.hid (awake_any)
  clear h hL
  by_cases c1 : (100 : Int) < (L : Int)
  · go_enter Tryz.func3, Tryz.ntmps3
    go_wp2_with fail
    refine (HAW.out w).mono ?_
    rintro e w1 ⟨rfl, ht⟩
    have HT := Lib.hid ht
    clear ht
    go_wp2_with fail
    go_ret
    exact ⟨rfl, HT.out⟩
  · have hL100 : L ≤ 100 := by omega
    go_enter Tryz.func3, Tryz.ntmps3
    go_wp2_with fail
    refine (ask_nil _ q _).mono ?_
    rintro e w1 ⟨rfl, ht⟩
    have HT := Lib.hid ht
    clear ht
    go_wp2_with fail
    refine (give_nil _ q _).mono ?_
    rintro e w2 ⟨rfl, ht⟩
    have HT := Lib.hid (HT.out.trans ht)
    clear ht
    go_wp2_with fail
    refine (leave_nil _ q).mono ?_
    rintro e w3 ⟨rfl, ht⟩
    have HT := Lib.hid (HT.out.trans ht)
    clear ht
    go_wp2_with fail
    obtain ⟨W, hW⟩ : ∃ W, w3 = W := ⟨_, rfl⟩
    rw [hW] at HT ⊢
    have m0 : mayF xs 0 = decide (L ≤ 6) := by rw [HL.out]; simp [mayF]
    clear hW
    go_loopw [14, 15] (fun mv iv wr => ∃ i : Nat, i ≤ L ∧ iv = .int .i64 (i : Int) ∧ mv = .bool (mayF xs i) ∧ W = wr) (fun _ iv _ => L + 1 - (intOf iv).toNat)
    case atStart =>
      refine ⟨0, by omega, rfl, ?_, rfl⟩
      rw [m0]
      by_cases c6 : L ≤ 6
      · have d6 : decide (L ≤ 6) = true := dT c6
        simp [d6]
        try omega
      · have d6 : decide (L ≤ 6) = false := dF c6
        simp [d6]
        try omega
    case round =>
      clear m0
      obtain ⟨i, hi, rfl, rfl, rfl⟩ := hrel
      by_cases hk : i < L
      · have hlt : (i : Int) < (L : Int) := by omega
        have him : i < xs.length := by have := HL.out; omega
        obtain ⟨g, off, hg, xo⟩ := HS.out.ix (q := i) him
        cases hg
        have x1 := xo _ HT.out
        obtain ⟨y, hy⟩ : ∃ y, xs.getD i 0 = y := ⟨_, rfl⟩
        have hnx := mayF_next xs him
        rw [hy] at hnx x1
        have HNX := Lib.hid hnx
        obtain ⟨B, hB⟩ : ∃ B, mayF xs i = B := ⟨_, rfl⟩
        rw [hB]
        have HB := Lib.hid hB
        clear xo him hy hnx hB
        cases B with
        | false =>
          go_wp2_with fail
          go_roundw
          case rel => exact ⟨i + 1, by omega, by go_num, by rw [HNX.out, HB.out]; rfl, trivial⟩
          case measure => simp [intOf]; omega
        | true =>
          by_cases y1 : (1 : Int) ≤ y
          · by_cases y2 : y ≤ (1000 : Int)
            · go_wp2_with fail
              go_roundw
              case rel => exact ⟨i + 1, by omega, by go_num, by rw [HNX.out, HB.out, dT y1, dT y2]; rfl, trivial⟩
              case measure => simp [intOf]; omega
            · go_wp2_with fail
              go_roundw
              case rel => exact ⟨i + 1, by omega, by go_num, by rw [HNX.out, HB.out, dT y1, dF y2]; rfl, trivial⟩
              case measure => simp [intOf]; omega
          · go_wp2_with fail
            go_roundw
            case rel => exact ⟨i + 1, by omega, by go_num, by rw [HNX.out, HB.out, dF y1]; rfl, trivial⟩
            case measure => simp [intOf]; omega
      · have hlt : ¬ (i : Int) < (L : Int) := by omega
        have hiL : i = xs.length := by have := HL.out; omega
        have hme : mayF xs i = newB xs := by rw [hiL]; exact mayF_end xs
        rw [hme]
        have HN := Lib.hid (new_any W (.slice a L c) xs clm (HS.out.touch HT.out (fun _ _ => by simp)) (by have := HL.out; omega))
        obtain ⟨B, hB⟩ : ∃ B, newB xs = B := ⟨_, rfl⟩
        have HB := Lib.hid hB
        rw [hB]
        clear hiL hme hB
        go_wp2_with fail
        refine HN.out.mono ?_
        rintro e w1 ⟨ht1, ⟨hb, rfl⟩ | ⟨hb, b, F, rfl, _⟩⟩
        · have hb2 : B = false := by rw [← HB.out]; exact hb
          subst hb2
          have HT := Lib.hid (HT.out.trans ht1)
          clear ht1 hb HN
          go_wp2_with fail
          refine (admit_nil _ q _).mono ?_
          rintro e w4 ⟨rfl, ht⟩
          have HT := Lib.hid (HT.out.trans ht)
          clear ht
          go_wp2_with fail
          refine (avail_nil _).mono ?_
          rintro e w5 ⟨rfl, ht⟩
          have HT := Lib.hid (HT.out.trans ht)
          clear ht
          go_wp2_with fail
          refine (pids_nil _).mono ?_
          rintro e w6 ⟨rfl, ht⟩
          have HT := Lib.hid (HT.out.trans ht)
          clear ht
          go_wp2_with fail
          refine (pending_nil _).mono ?_
          rintro e w7 ⟨rfl, ht⟩
          have HT := Lib.hid (HT.out.trans ht)
          clear ht
          go_wp2_with fail
          refine (safe_nil _).mono ?_
          rintro e w8 ⟨rfl, ht⟩
          have HT := Lib.hid (HT.out.trans ht)
          clear ht
          go_wp2_with fail
          refine (stuck_nil _).mono ?_
          rintro e w9 ⟨rfl, ht⟩
          have HT := Lib.hid (HT.out.trans ht)
          clear ht
          go_wp2_with fail
          refine (held_nil _ q).mono ?_
          rintro e w10 ⟨rfl, ht⟩
          have HT := Lib.hid (HT.out.trans ht)
          clear ht
          go_wp2_with fail
          refine (claim_nil _ q).mono ?_
          rintro e w11 ⟨rfl, ht⟩
          have HT := Lib.hid (HT.out.trans ht)
          clear ht
          go_wp2_with fail
          refine (HAW.out _).mono ?_
          rintro e w12 ⟨rfl, ht⟩
          have HT := Lib.hid (HT.out.trans ht)
          clear ht
          go_wp2_with fail
          go_ret
          exact ⟨rfl, HT.out⟩
        · have hb2 : B = true := by rw [← HB.out]; exact hb
          subst hb2
          have HT := Lib.hid (HT.out.trans ht1)
          clear ht1 hb HN
          go_wp2_with fail
          refine (admit_nil _ q _).mono ?_
          rintro e w4 ⟨rfl, ht⟩
          have HT := Lib.hid (HT.out.trans ht)
          clear ht
          go_wp2_with fail
          refine (avail_nil _).mono ?_
          rintro e w5 ⟨rfl, ht⟩
          have HT := Lib.hid (HT.out.trans ht)
          clear ht
          go_wp2_with fail
          refine (pids_nil _).mono ?_
          rintro e w6 ⟨rfl, ht⟩
          have HT := Lib.hid (HT.out.trans ht)
          clear ht
          go_wp2_with fail
          refine (pending_nil _).mono ?_
          rintro e w7 ⟨rfl, ht⟩
          have HT := Lib.hid (HT.out.trans ht)
          clear ht
          go_wp2_with fail
          refine (safe_nil _).mono ?_
          rintro e w8 ⟨rfl, ht⟩
          have HT := Lib.hid (HT.out.trans ht)
          clear ht
          go_wp2_with fail
          refine (stuck_nil _).mono ?_
          rintro e w9 ⟨rfl, ht⟩
          have HT := Lib.hid (HT.out.trans ht)
          clear ht
          go_wp2_with fail
          refine (held_nil _ q).mono ?_
          rintro e w10 ⟨rfl, ht⟩
          have HT := Lib.hid (HT.out.trans ht)
          clear ht
          go_wp2_with fail
          refine (claim_nil _ q).mono ?_
          rintro e w11 ⟨rfl, ht⟩
          have HT := Lib.hid (HT.out.trans ht)
          clear ht
          go_wp2_with fail
          refine (HAW.out _).mono ?_
          rintro e w12 ⟨rfl, ht⟩
          have HT := Lib.hid (HT.out.trans ht)
          clear ht
          go_wp2_with fail
          go_ret
          exact ⟨rfl, HT.out⟩
theorem nothing_row (v : Value) (xs : List Int) (clm : Bool) (q : Int) (w : World) (h : Sl w v xs) (_ : ∀ y ∈ xs, InI y) (h1 : xs.length ≤ maxLen) (_ : (Lit.int .i64 q).wf = true) :
    Calls Tryz.prog 3 #[v, .bool clm, .int .i64 q] w fun e w' => e = .returned (.bool true) ∧ Below w.heap.size w w' := by
  obtain ⟨a, c, rfl⟩ := h.form
  exact (nothing_any clm q _ _ _ xs w h h1).mono fun _ _ ⟨he, ht⟩ => ⟨he, ht.below (Nat.le_refl _) (by simp)⟩
end Go.Proofs.YticglfmmjgnicabGreat

set_option linter.unusedVariables false
namespace Go.Proofs.YticglfmmjgnicabGreat
open Go.ChangeShapes Go.WideShapes Go.ChangeAt Go.RowKit
open Go.ChangeMaps (open_string shut_string)

theorem own : ownKnob Tryz.prog.godebug = none := by kernel_rfl
theorem laidOut : laidOutB Tryz.prog = true := by kernel_rfl

namespace allocNothing
set_option maxRecDepth 100000 in
theorem lifted (os : Os) (started : os.Started) (H : Type) (enc : TypeId × Value → H) :
    ReturnsInHanded {} Tryz.checked os 3 .any (Rows.allocNothingSpec.pre6 enc Tryz.prog Tryz.f3 Rows.allocNothingRow.domain false) (Rows.allocNothingSpec.post enc Tryz.prog Tryz.f3 false true false false) := by
  refine returnsInHanded_of_change (C := Tryz.checked) own started (by kernel_rfl) Tryz.func3
    (ChangeSpec.witness6 (enc := enc) (C := Tryz.checked) false ⟨#[], #[.slice none 0 0, .bool false, .int .i64 0], []⟩ 8 (by kernel_rfl) (by kernel_rfl) (by kernel_rfl) (by kernel_rfl)) ?_
  intro W base args ds gs before hval0 hW hcnd _
  have hval : ∀ (j : Nat) t v, Tryz.f3.params[j]? = some t → args[j]? = some v → Value.okWide Tryz.prog W .any base t v := hval0
  have hW' := hW
  obtain ⟨p, q, hA0, hV, rfl, hfz, hnd⟩ := hW
  have hA : DataW.TrodAll enc Tryz.prog W 0 (fun _ => true) true Tryz.f3.params.toList args.toList ds p := hA0
  rw [Tryz.params3] at hA hval
  obtain ⟨v0, vs0, d0, ds0, p0, q0, hargs, rfl, rfl, h0, r0⟩ := trodAll_cons hA
  obtain ⟨v1, vs1, d1, ds1, p1, q1, rfl, rfl, rfl, h1, r1⟩ := trodAll_cons r0
  obtain ⟨v2, vs2, d2, ds2, p2, q2, rfl, rfl, rfl, h2, r2⟩ := trodAll_cons r1
  obtain ⟨rfl, rfl, rfl⟩ := trodAll_nil r2
  obtain rfl : args = #[v0, v1, v2] := by cases args; simp_all
  obtain ⟨rfl, rfl⟩ := trodVars_none hV
  obtain ⟨a0, len0, cap0, rfl⟩ := okWide_slice Tryz.underlying22 (hval 0 22 v0 rfl rfl)
  have k0 := h0
  have lt0 : ∀ x ∈ p0, x.block < W.heap.size := by obtain ⟨m, hm⟩ := k0; exact DataW.trod_lt m _ _ _ hm
  obtain ⟨z0, hl0, w0, u0, x0⟩ := (by obtain ⟨fuel, hf⟩ := h0; exact arg_ints Tryz.underlying22 Tryz.underlying3 (by kernel_rfl) hf : ∃ xs : List Int, xs.length = len0 ∧ Sl W (.slice a0 len0 cap0) xs ∧ (∀ y ∈ xs, InI y) ∧ len0 ≤ maxLen)
  obtain ⟨a1, rfl, rfl, rfl⟩ := open_bool Tryz.underlying4 (hval 1 4 v1 rfl rfl) h1
  obtain ⟨a2, rfl, rfl, rfl, w2⟩ := open_int Tryz.underlying3 (hval 2 3 v2 rfl rfl) h2
  clear hA0 hval0
  refine (nothing_row _ z0 a1 a2 (w := W) w0 u0 (by rw [hl0]; exact x0) w2).mono fun e W' ⟨he, bel0⟩ => ?_
  subst he
  have bel : Below W.heap.size W W' := by first | exact bel0 | (subst bel0; exact Below.refl _ _)
  exact ⟨_, rfl, _, _, _, [], _, [], hW', trodAll_mk1 (shut_bool Tryz.underlying4 _), (trodAll_cons_mk (Below.trod laidOut (by kernel_rfl) (of_decide_eq_true (by kernel_rfl)) k0 bel lt0) (trodAll_cons_mk (shut_bool Tryz.underlying4 _) (trodAll_cons_mk (shut_int Tryz.underlying3 w2) trodAll_mk0))), rfl, bel.frame _, fun h => by cases h⟩

theorem over : Rows.allocNothingRow.holds Tryz.pinned (OpenSpec.ofChange Rows.allocNothingSpec) :=
  OpenClaim.holds_of_wide 3 Tryz.f3 rfl rfl rfl rfl rfl rfl rfl ⟨rfl, rfl, rfl, rfl, rfl⟩ rfl rfl rfl rfl rfl (by kernel_rfl) Tryz.func3 (by kernel_rfl)
    (of_decide_eq_true (by kernel_rfl)) (by unfold Func.isWrapper; first | (rw [if_pos (by decide +kernel)]; kernel_rfl) | (rw [if_neg (by decide +kernel)]; exact ⟨rfl, rfl⟩))
    (fun os started H enc _ => lifted os started H enc)
theorem proved : Rows.AllocNothingSaid := over
#print axioms proved
end allocNothing
end Go.Proofs.YticglfmmjgnicabGreat
