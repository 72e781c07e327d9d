/-
  The process table: who is live, the lists, the kids, an index.
-/
import Derived.Test.YtmkcclfjmpmniaaA
set_option linter.unusedVariables false
namespace Go.Proofs.Ytmkcclfjmpmniaa
open Go.RowKit

section
variable (b : Nat) (va vl : Value) (most : Int) (n : Nat) (ps : Nat → Nat → Int) (live : List Int) (w : World)
def isL (ps : Nat → Nat → Int) (n : Nat) (p : Int) : Bool := decide (fieldOf ps n p 0 = 1 ∨ fieldOf ps n p 0 = 2)
set_option maxHeartbeats 1000000 in
theorem isLive_any (p : Int) (h : Pv w b va vl most n ps live) (hn : n ≤ 9000000) : Calls Try.prog 31 #[.pointer (some ⟨b, 0, none⟩), .int .i64 p] w fun e w' => e = .returned (.bool (isL ps n p)) ∧ w = w' := by
  have HC := Lib.hid (state_any b va vl most n ps live w p h hn)
  clear h
  unfold isL
  obtain ⟨s, hs⟩ : ∃ s, fieldOf ps n p 0 = s := ⟨_, rfl⟩
  rw [hs] at HC ⊢
  clear hs
  by_cases h1 : s = 1
  · subst h1
    go_enter Try.func31, Try.ntmps31
    go_wp2_with fail
    refine HC.out.mono ?_
    rintro e w1 ⟨rfl, rfl⟩
    go_wp2
    go_ret
    exact ⟨rfl, rfl⟩
  · by_cases h2 : s = 2
    · subst h2
      go_enter Try.func31, Try.ntmps31
      go_wp2_with fail
      refine HC.out.mono ?_
      rintro e w1 ⟨rfl, rfl⟩
      go_wp2
      go_ret
      exact ⟨rfl, rfl⟩
    · rw [show decide (s = 1 ∨ s = 2) = false from dF (by omega)]
      have e1 : (s == 1) = false := beqF h1
      have e2 : (s == 2) = false := beqF h2
      clear h1 h2
      go_enter Try.func31, Try.ntmps31
      go_wp2_with fail
      refine HC.out.mono ?_
      rintro e w1 ⟨rfl, rfl⟩
      go_wp2
      go_ret
      exact ⟨rfl, rfl⟩

set_option maxHeartbeats 1000000 in
theorem live_any (h : Pv w b va vl most n ps live) : Calls Try.prog 19 #[.pointer (some ⟨b, 0, none⟩)] w fun e w' => e = .returned (.int .i64 (live.length : Nat)) ∧ w = w' := by
  have x3 := h.obj.cell (i := 3) rfl
  obtain ⟨a, c, hv, hm⟩ := h.live.shape
  unfold maxLen at hm
  simp only [List.length_map] at hv hm
  subst hv
  clear h
  go_enter Try.func19, Try.ntmps19
  go_wp2
  go_ret
  exact ⟨rfl, rfl⟩

/-- Those of a list whose number j is x. -/
def those (ps : Nat → Nat → Int) (n j : Nat) (x : Int) (l : List Int) : List Int := l.filter fun p => decide (fieldOf ps n p j = x)
theorem those_snoc (ps : Nat → Nat → Int) (n j : Nat) (x : Int) (l : List Int) (k : Nat) (h : k < l.length) : those ps n j x (l.take (k + 1)) = those ps n j x (l.take k) ++ if fieldOf ps n (l.getD k 0) j = x then [l.getD k 0] else [] := by
  unfold those
  rw [List.take_succ_eq_append_getElem h, List.filter_append]
  congr 1
  rw [List.getD_eq_getElem?_getD, List.getElem?_eq_getElem h]
  simp only [Option.getD_some, List.filter_cons, List.filter_nil]
  by_cases e : fieldOf ps n l[k] j = x
  · simp [e]
  · simp [e]
theorem those_len (ps : Nat → Nat → Int) (n j : Nat) (x : Int) (l : List Int) : (those ps n j x l).length ≤ l.length := List.length_filter_le _ _

set_option maxHeartbeats 4000000 in
theorem in_any (st : Int) (h : Pv w b va vl most n ps live) (hn : n ≤ 9000000) (hl : live.length ≤ 100000) : Calls Try.prog 44 #[.pointer (some ⟨b, 0, none⟩), .int .i64 st] w (Own (those ps n 0 st live) w) := by
  have HV := Lib.hid h
  have x3 := h.obj.cell (i := 3) rfl
  obtain ⟨ll, hll⟩ : ∃ ll, live.length = ll := ⟨_, rfl⟩
  obtain ⟨va2, vc2, hv⟩ := h.live.form
  rw [hll] at hv hl
  subst hv
  have HLL := Lib.hid hll
  clear h hll
  go_enter Try.func44, Try.ntmps44
  go_wp2
  go_loopw [5, 15] (fun v i wr => ∃ k : Nat, k ≤ ll ∧ i = .int .i64 k ∧ Qu wr w.heap.size 3 v ((those ps n 0 st (live.take k)).map (Value.int .i64)) ∧ Touch [] w wr) (fun _ i _ => ll + 1 - (intOf i).toNat)
  case atStart => exact ⟨0, by omega, rfl, Qu.nil _ _ _, Touch.refl _ _⟩
  case round =>
    obtain ⟨k, hk, rfl, hq, ht⟩ := hrel
    have HV1 := Lib.hid (HV.out.still ht)
    have HT := Lib.hid ht
    have HQ := Lib.hid hq
    have hlen : (those ps n 0 st (live.take k)).length ≤ 100000 := by
      have h1 := those_len ps n 0 st (live.take k)
      have h2 : (live.take k).length ≤ k := List.length_take_le _ _
      omega
    obtain ⟨qa, qc, rfl⟩ := Qu.form hq
    clear hq ht
    by_cases hkl : k < ll
    · have hlt : (k : Int) < (ll : Int) := by omega
      have hsl := HV1.out.live.sl
      obtain ⟨a', cap', he, hr⟩ := hsl
      rcases hr with h | ⟨g, off, rfl, hg, hrow⟩
      · exfalso; have h5 : live.length = 0 := (by rw [h]; rfl); have h6 := HLL.out; omega
      cases he
      have hc := hrow k (by have h6 := HLL.out; omega)
      have HS := Lib.hid (those_snoc ps n 0 st live k (by have h6 := HLL.out; omega))
      obtain ⟨p, hp⟩ : ∃ p, live.getD k 0 = p := ⟨_, rfl⟩
      rw [hp] at hc HS
      clear hp hrow
      obtain ⟨f, hf⟩ : ∃ f, fieldOf ps n p 0 = f := ⟨_, rfl⟩
      have HF := Lib.hid hf
      have HC := Lib.hid (state_any b va _ most n ps live _ p HV1.out hn)
      rw [hf] at HC HS
      clear hf
      by_cases hfs : f = st
      · have e1 : (f == st) = true := beqT hfs
        have HFS := Lib.hid hfs
        clear hfs
        obtain ⟨v', w2, hr, hq2, hg2, hn2⟩ := Qu.appendI (HQ.out.alloc (.cells #[.int .i64 p] 3)) (by have := HT.out.size; simp; omega) (show Sl (wr.alloc (.cells #[.int .i64 p] 3)) (.slice (some ⟨wr.heap.size, 0, none⟩) 1 1) [p] from ⟨_, 1, rfl, .inr ⟨wr.heap.size, 0, rfl, by simp, row1 wr p _ _ rfl⟩⟩) (by simp; omega)
        have HQ2 : Hid (Qu w2 w.heap.size 3 v' ((those ps n 0 st (live.take (k + 1))).map (Value.int .i64))) := Lib.hid (by rw [HS.out, if_pos HFS.out]; exact hq2)
        have HT2 : Hid (Touch [] w w2) := Lib.hid ((HT.out.alloc _).grown hg2 (fun k hk hlt => by have := (HQ.out.own k hk).1; omega))
        clear hq2 hg2 hn2
        go_wp2_with fail
        refine HC.out.mono ?_
        rintro e w1 ⟨rfl, rfl⟩
        go_wp2_with (at_builtin; refine Lib.wpList_append_run _ rfl _ _ _ _ rfl _ _ rfl rfl _ _ (hr _) ?_)
        go_roundw
        case rel => exact ⟨k + 1, by omega, by go_num, HQ2.out, HT2.out⟩
        case measure => simp [intOf]; omega
      · have e1 : (f == st) = false := beqF hfs
        have HFS := Lib.hid hfs
        clear hfs
        go_wp2_with fail
        refine HC.out.mono ?_
        rintro e w1 ⟨rfl, rfl⟩
        go_wp2
        go_roundw
        case rel => exact ⟨k + 1, by omega, by go_num, by rw [HS.out, if_neg HFS.out, List.append_nil]; exact HQ.out, HT.out⟩
        case measure => simp [intOf]; omega
    · have hlt : ¬ (k : Int) < (ll : Int) := by omega
      have HQ3 : Hid (Qu wr w.heap.size 3 (.slice qa (those ps n 0 st (live.take k)).length qc) ((those ps n 0 st live).map (Value.int .i64))) := Lib.hid (by have := HQ.out; rw [show live.take k = live from List.take_of_length_le (by have h6 := HLL.out; omega)] at this ⊢; exact this)
      go_wp2
      go_ret
      exact ⟨_, rfl, HQ3.out, HT.out⟩
end
end Go.Proofs.Ytmkcclfjmpmniaa
