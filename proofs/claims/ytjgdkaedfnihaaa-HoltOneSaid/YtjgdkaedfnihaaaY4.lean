/-
  Units: does it fit?
-/
import Derived.Test.YtjgdkaedfnihaaaY3
set_option linter.unusedVariables false
namespace Go.Proofs.Ytjgdkaedfnihaaa
open Go.RowKit Go.Shelf

attribute [local go_sem] Oper.semAt_some

def leB (p : Int × Int) : Bool := decide (p.1 ≤ p.2)
def AllIs (f : Int × Int → Bool) (pre : List (Int × Int)) (b : Bool) : Prop := pre.all f = b
def fitsB (xs ys : List Int) : Bool := decide (xs.length = ys.length) && (upZ xs ys xs.length).all leB

theorem Sl.lt {w : World} {v : Value} {xs : List Int} (h : Sl w v xs) : ∀ k, v.ownBlock = some k → 0 < xs.length → k < w.heap.size := by
  intro k hk h0
  obtain ⟨a, cap, rfl, h | ⟨g, off, rfl, hlt, hr⟩⟩ := h
  · subst h; simp at h0
  · simp [Value.ownBlock] at hk; omega
/-- What the rounds must keep. -/
theorem keepS {w w' : World} {va vb : Value} {xs ys : List Int} (Bx By : Nat) (hx : Bx < w'.heap.size) (hy : By < w'.heap.size) (ha : Sl w va xs) (hb : Sl w vb ys) (hl : ys.length = xs.length) (hs : w.heap.size ≤ w'.heap.size) :
    ∃ S : List Nat, (∀ k, k ∈ S → k < w'.heap.size) ∧ Bx ∈ S ∧ By ∈ S ∧ (0 < xs.length → ∀ k, va.ownBlock = some k → k ∈ S) ∧ (0 < xs.length → ∀ k, vb.ownBlock = some k → k ∈ S) := by
  refine ⟨Bx :: By :: (if 0 < xs.length then va.ownBlock.toList ++ vb.ownBlock.toList else []), fun k hk => ?_, by simp, by simp, fun h k hk => by simp [h, hk], fun h k hk => by simp [h, hk]⟩
  simp only [List.mem_cons] at hk
  rcases hk with rfl | rfl | hk
  · exact hx
  · exact hy
  · split at hk
    · rw [List.mem_append, Option.mem_toList, Option.mem_toList] at hk
      rcases hk with hk | hk
      · have := ha.lt k hk (by assumption); omega
      · have := hb.lt k hk (by omega); omega
    · cases hk
/-- .. which is old, but for the two. -/
theorem keepS2 {w w' : World} {va vb : Value} {xs ys : List Int} (Bx By : Nat) (hx : Bx < w'.heap.size) (hy : By < w'.heap.size) (ha : Sl w va xs) (hb : Sl w vb ys) (hl : ys.length = xs.length) (hs : w.heap.size ≤ w'.heap.size) :
    ∃ S : List Nat, (∀ k, k ∈ S → k < w'.heap.size) ∧ Bx ∈ S ∧ By ∈ S ∧ (0 < xs.length → ∀ k, va.ownBlock = some k → k ∈ S) ∧ (0 < xs.length → ∀ k, vb.ownBlock = some k → k ∈ S) ∧ (∀ k, k ∈ S → k = Bx ∨ k = By ∨ k < w.heap.size) := by
  refine ⟨Bx :: By :: (if 0 < xs.length then va.ownBlock.toList ++ vb.ownBlock.toList else []), fun k hk => ?_, by simp, by simp, fun h k hk => by simp [h, hk], fun h k hk => by simp [h, hk], fun k hk => ?_⟩
  · simp only [List.mem_cons] at hk
    rcases hk with rfl | rfl | hk
    · exact hx
    · exact hy
    · split at hk
      · rw [List.mem_append, Option.mem_toList, Option.mem_toList] at hk
        rcases hk with hk | hk
        · have := ha.lt k hk (by assumption); omega
        · have := hb.lt k hk (by omega); omega
      · cases hk
  · simp only [List.mem_cons] at hk
    rcases hk with rfl | rfl | hk
    · exact .inl rfl
    · exact .inr (.inl rfl)
    · split at hk
      · rw [List.mem_append, Option.mem_toList, Option.mem_toList] at hk
        rcases hk with hk | hk
        · have := ha.lt k hk (by assumption); exact .inr (.inr this)
        · have := hb.lt k hk (by omega); exact .inr (.inr this)
      · cases hk
theorem upZ_no {f : Int × Int → Bool} {xs ys : List Int} {k m : Nat} (hk : k ≤ m) (h : (upZ xs ys k).all f = false) : (upZ xs ys m).all f = false := by
  rw [List.all_eq_false] at h ⊢
  obtain ⟨x, hx, hf⟩ := h
  refine ⟨x, ?_, hf⟩
  simp only [upZ, List.mem_map, List.mem_range] at hx ⊢
  obtain ⟨j, hj, e⟩ := hx
  exact ⟨j, by omega, e⟩
set_option maxRecDepth 100000 in
set_option maxHeartbeats 4000000 in
theorem fits_ne (n : Nat) (hn : 3 ≤ n) (va vb : Value) (xs ys : List Int) (w : World) (ha : Sl w va xs) (hb : Sl w vb ys) (hl : xs.length ≤ 1000000) (hl2 : ys.length ≤ 1000000) (hne : xs.length ≠ ys.length) :
    CallsIn Fence.wide n Try.prog 24 #[va, vb] w fun e W' => e = .returned (.bool false) ∧ Below w.heap.size w W' := by
  obtain ⟨aa, ca, rfl, _⟩ := ha
  obtain ⟨ab, cb, rfl, _⟩ := hb
  have e1 : ((xs.length : Int) != (ys.length : Int)) = true := bneT (by omega)
  have h1 : 1 ≤ n := by omega
  refine callsIn_of_wp_marks Try.func24 rfl trivial ?_ rfl
  simp only [Try.ntmps24, List.size_toArray, List.length_cons, List.length_nil, Nat.reduceAdd, Nat.reduceSub, Array.replicate_succ, Array.replicate_zero, List.push_toArray, List.append_toArray, List.nil_append, List.cons_append]
  gi_wp2
  have hc := (Boxed.new w 4 (.bool false)).cell
  exact ⟨.bool false, by simp [results, Try.f24, go_sem, hc], rfl, (Below.refl _ _).alloc (Nat.le_refl _) _⟩
set_option maxRecDepth 100000 in
set_option maxHeartbeats 4000000 in
theorem fits_eq (n : Nat) (hn : 3 ≤ n) (va vb : Value) (xs ys : List Int) (w : World) (ha : Sl w va xs) (hb : Sl w vb ys) (hl : xs.length ≤ 1000000) (heq : ys.length = xs.length) :
    CallsIn Fence.wide n Try.prog 24 #[va, vb] w fun e W' => e = .returned (.bool ((upZ xs ys xs.length).all leB)) ∧ Below w.heap.size w W' := by
  have SA := Lib.hid ha
  have SB := Lib.hid hb
  obtain ⟨aa, ca, rfl, _⟩ := ha
  obtain ⟨ab, cb, rfl, _⟩ := hb
  obtain ⟨len, hlen⟩ : ∃ len, xs.length = len := ⟨_, rfl⟩
  rw [heq] at SB ⊢
  rw [hlen] at hl heq SA SB ⊢
  have HL := Lib.hid hlen
  have HL2 := Lib.hid heq
  clear hlen heq
  have e1 : ((len : Int) != (len : Int)) = false := bneF rfl
  have h1 : 1 ≤ n := by omega
  refine callsIn_of_wp_marks Try.func24 rfl trivial ?_ rfl
  simp only [Try.ntmps24, List.size_toArray, List.length_cons, List.length_nil, Nat.reduceAdd, Nat.reduceSub, Array.replicate_succ, Array.replicate_zero, List.push_toArray, List.append_toArray, List.nil_append, List.cons_append]
  gi_wp2_with (refine ⟨trivial, ?_⟩; gi_at_call 34; refine (pairs_in (n - 1) _ _ len len ca cb aa ab rfl rfl _).mono ?_; rintro e w' ⟨rfl, rfl⟩)
  have bR := Boxed.new w 4 (.bool false)
  have bA := Boxed.new (w.alloc (.cells #[.bool false] 4)) 22 (.slice aa len ca)
  have bB := Boxed.new ((w.alloc (.cells #[.bool false] 4)).alloc (.cells #[.slice aa len ca] 22)) 22 (.slice ab len cb)
  simp only [World.size_alloc] at bA bB
  have hB0 : Below w.heap.size w (((w.alloc (.cells #[.bool false] 4)).alloc (.cells #[.slice aa len ca] 22)).alloc (.cells #[.slice ab len cb] 22)) := (((Below.refl _ w).alloc (Nat.le_refl _) _).alloc (by simp) _).alloc (by simp; omega) _
  have ht0 := Touch.of_below hB0
  obtain ⟨S, hS, m1, m2, m3, m4⟩ := keepS (w := w) (w' := ((w.alloc (.cells #[.bool false] 4)).alloc (.cells #[.slice aa len ca] 22)).alloc (.cells #[.slice ab len cb] 22)) (w.heap.size + 1) (w.heap.size + 1 + 1) (by simp) (by simp) SA.out SB.out (by rw [HL.out, HL2.out]) (by simp; omega)
  refine wpIn_rangeFunc_ownG rfl h1 (gf := 39) (lb := #[.pointer (some ⟨w.heap.size + 1, 0, none⟩), .pointer (some ⟨w.heap.size + 1 + 1, 0, none⟩)]) rfl trivial (enters_of Try.func39 (by kernel_rfl) rfl)
    (pairs_stops (n - 1) (by omega) (w.heap.size + 1) (w.heap.size + 1 + 1) _ _ xs ys (by rw [HL.out, HL2.out]) (by rw [HL.out]; exact hl) _ _ hS (bA.alloc _).cell bB.cell (SA.out.touch ht0 (fun _ _ => by simp)) (SB.out.touch ht0 (fun _ _ => by simp)) m1 m2 m3 m4)
    (fun h k => h.trans k) (same_kb hS) (Below.refl _ _) (fun _ => rfl)
    (fun pre W => (AllIs leB pre true ∧ W.cell? ⟨w.heap.size, 0, none⟩ = some (.bool false) ∧ W.frozen? ⟨w.heap.size, 0, none⟩ = false) ∧ Below w.heap.size w W)
    (fun c pre W => (c = .ret ∧ AllIs leB pre false ∧ W.cell? ⟨w.heap.size, 0, none⟩ = some (.bool false)) ∧ Below w.heap.size w W)
    (OwnFrom.and (Own.from (fun s A B row hs hg hr => ⟨hs.1, cell_kept hs.2.1 hg hr, (frozen_kept hs.2.1 hg hr).trans hs.2.2⟩) _) (ownFrom_below (Nat.le_refl _) (by simp; omega)))
    (fun c => OwnFrom.and (Own.from (fun s A B row hs hg hr => ⟨hs.1, hs.2.1, cell_kept hs.2.2 hg hr⟩) _) (ownFrom_below (Nat.le_refl _) (by simp; omega)))
    ⟨⟨rfl, ((bR.alloc _).alloc _).cell, ((bR.alloc _).alloc _).frozen⟩, hB0⟩
    (fun x => { tmps := #[.slice aa len ca, .slice ab len cb, undef, undef, .pointer (some ⟨w.heap.size, 0, none⟩), .int .i64 x.1, .int .i64 x.2, .slice aa len ca, .int .i64 len, .slice ab len cb, .int .i64 len, .bool false, .slice aa len ca, .slice ab len cb, .func (.func 39) #[] #[.pointer (some ⟨w.heap.size + 1, 0, none⟩), .pointer (some ⟨w.heap.size + 1 + 1, 0, none⟩)], .int .i64 x.1, .int .i64 x.2, undef, undef, undef], defers := [] }) ?assign ?body ?done ?stop
  case assign =>
    intro l x W K hK
    gi_wp2
    exact hK
  case body =>
    rintro l pre x W ⟨⟨hp, hcr, hfr⟩, hB⟩ _
    by_cases hx : x.1 ≤ x.2
    · have e2 : ¬ x.2 < x.1 := by omega
      have HX : Hid (leB x = true) := Lib.hid (dT hx)
      have HP := Lib.hid hp
      clear hx hp
      gi_wp2
      exact ⟨KeepsFrom.refl _ _, Same.refl _ _, ⟨by unfold AllIs; rw [List.all_append, HP.out]; simp [HX.out], hcr, hfr⟩, hB⟩
    · have e2 : x.2 < x.1 := by omega
      have HX : Hid (leB x = false) := Lib.hid (dF hx)
      clear hx hp
      gi_wp2
      exact ⟨(KeepsOthers.setCell _ _ _).from _, ⟨rfl, by unfold AllIs; rw [List.all_append]; simp [HX.out], World.cell?_setCell_same' _ _ _ (by rw [hcr]; rfl)⟩, hB.setCell (p := ⟨w.heap.size, 0, none⟩) (Nat.le_refl _) _⟩
  case done =>
    rintro D zs W hD rfl ⟨⟨hne, hcr, hfr⟩, hB⟩ hK
    have HN := Lib.hid hne
    clear hne
    gi_wp2
    have hK' := (KeepsOthers.setCell W ⟨w.heap.size, 0, none⟩ (.bool true)).same D _ hK rfl
    refine ⟨by simp, .inl ⟨_, _, rfl, run_takeDeferred hK', ?_⟩⟩
    have hc5 := cell_kept (World.cell?_setCell_same' W ⟨w.heap.size, 0, none⟩ (.bool true) (by rw [hcr]; rfl)) (grownBy_putObj' _ D (.deferred none)) (fun r e => by cases e; exact ⟨_, hK', rfl⟩)
    refine ⟨.bool true, ?_, ret_bool (by rw [← HN.out, HL.out]), (hB.setCell (p := ⟨w.heap.size, 0, none⟩) (Nat.le_refl _) _).trans (belowK_b (w := w) (Nat.le_refl _) _ D _ _ (by simp at hD; omega) hK' rfl rfl)⟩
    simp [results, Try.f24, go_sem, hc5]
  case stop =>
    rintro D c pre W hD ⟨k, hk, rfl⟩ ⟨⟨rfl, hp, hcr⟩, hB⟩ hK
    have HN := Lib.hid hp
    clear hp
    gi_wp2
    refine ⟨by simp, .inl ⟨_, _, rfl, run_takeDeferred hK, ?_⟩⟩
    have hc5 := cell_kept hcr (grownBy_putObj' _ D (.deferred none)) (fun r e => by cases e; exact ⟨_, hK, rfl⟩)
    refine ⟨.bool false, ?_, ret_bool ?_, hB.trans (belowK_b (w := w) (Nat.le_refl _) W D _ _ (by simp at hD; omega) hK rfl rfl)⟩
    · simp [results, Try.f24, go_sem, hc5]
    · exact (upZ_no (by rw [HL.out] at hk; exact hk) HN.out).symm
theorem fits_q (va vb : Value) (xs ys : List Int) (b : Bool) (w : World) (ha : Sl w va xs) (hb : Sl w vb ys) (hl : xs.length ≤ 1000000) (hl2 : ys.length ≤ 1000000) (he : fitsB xs ys = b) :
    Calls Try.prog 24 #[va, vb] w fun e w' => e = .returned (.bool b) ∧ Touch [] w w' := by
  subst he
  unfold fitsB
  by_cases h : ys.length = xs.length
  · refine ((callsIn_wide (n := 8)).1 (fits_eq 8 (by omega) va vb xs ys w ha hb hl h)).mono ?_
    rintro e w' ⟨rfl, hB⟩
    exact ⟨ret_bool (by rw [dT h.symm, Bool.true_and]), Touch.of_below hB⟩
  · refine ((callsIn_wide (n := 8)).1 (fits_ne 8 (by omega) va vb xs ys w ha hb hl hl2 (fun e => h e.symm))).mono ?_
    rintro e w' ⟨rfl, hB⟩
    exact ⟨ret_bool (by rw [dF (fun e => h e.symm), Bool.false_and]), Touch.of_below hB⟩
end Go.Proofs.Ytjgdkaedfnihaaa
