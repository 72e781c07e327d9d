/-
  Critical regions: the queues within a region's cells.
-/
import Derived.Test.YtbbjnojipfnkoaaT
import Derived.Test.YtbbjnojipfnkoaaR
import Derived.RegionTactic
import Derived.Deep.RegionWith
import Derived.ChangeAlike
set_option linter.unusedVariables false
namespace Go.Proofs.Ytbbjnojipfnkoaa
open Go.RowKit

/-- What an owned slice touches, besides block b. -/
def PushP (b i : Nat) (c : Array Value) (T : TypeId) (v : Value) (xs : List Int) (w : World) (e : Ending) (w' : World) : Prop :=
  ∃ v', e = .returned (.tuple #[]) ∧ Blk w' b (c.setIfInBounds i v') T ∧ Qu w' 0 3 v' (xs.map (Value.int .i64)) ∧ Touch (b :: v.ownBlock.toList) w w' ∧ (∀ k, v'.ownBlock = some k → (v.ownBlock = some k ∨ w.heap.size ≤ k) ∧ k ≠ b)
theorem own_notin {b : Nat} {v : Value} (h : ∀ k, v.ownBlock = some k → k ≠ b) : b ∉ v.ownBlock.toList := by
  cases hv : v.ownBlock with
  | none => simp
  | some k => have := h k hv; simp; omega

set_option maxHeartbeats 2000000 in
theorem push_any (b i : Nat) (c : Array Value) (T : TypeId) (v : Value) (xs : List Int) (p : Int) (w : World) (hb : Blk w b c T) (hi : c[i]? = some v) (hq : Qu w 0 3 v (xs.map (Value.int .i64))) (hne : ∀ k, v.ownBlock = some k → k ≠ b) (hl : xs.length ≤ 1000000) :
    Calls Try.prog 21 #[.pointer (some ⟨b, i, none⟩), .int .i64 p] w (PushP b i c T v (xs ++ [p]) w) := by
  obtain ⟨v', w2, hr, hq2, hg, hn⟩ := Qu.appendI (hq.alloc (.cells #[.int .i64 p] 3)) (Nat.zero_le _) (show Sl (w.alloc (.cells #[.int .i64 p] 3)) (.slice (some ⟨w.heap.size, 0, none⟩) 1 1) [p] from ⟨_, 1, rfl, .inr ⟨w.heap.size, 0, rfl, by simp, row1 w p _ _ rfl⟩⟩) (by simp; omega)
  have hb2 : Blk w2 b c T := (hb.alloc (.cells #[.int .i64 p] 3)).touch (S := v.ownBlock.toList) ⟨hg.os, hg.tape, hg.output, hg.size, fun k hk hn => hg.block k hk (fun e => hn (by rw [← e]; simp))⟩ (own_notin hne)
  have ht : Touch (b :: v.ownBlock.toList) w w2 := ((Touch.refl _ w).alloc _).grown hg (fun k hk _ => by simp [hk])
  have hsz : w.heap.size ≤ w2.heap.size := ht.size
  have hlt := hb.lt
  have hnv : ∀ k, v'.ownBlock = some k → (v.ownBlock = some k ∨ w.heap.size ≤ k) ∧ k ≠ b := fun k hk => by
    rcases hn k hk with h | h
    · exact ⟨.inl h, hne k h⟩
    · simp at h; exact ⟨.inr (by omega), by omega⟩
  have x0 := hb.cell hi
  have x0a := (hb.alloc (.cells #[.int .i64 p] 3)).cell hi
  have x1 := hb2.cell hi
  have x2 := hb2.free i
  obtain ⟨va, vc, hv⟩ := Qu.form hq2
  rw [show (xs ++ [p]).length = xs.length + 1 from by simp] at hv
  subst hv
  obtain ⟨ua, uc, rfl⟩ := Qu.form hq
  have HB2 := Lib.hid hb2
  have HQ2 := Lib.hid hq2
  have HT := Lib.hid ht
  have HNV := Lib.hid hnv
  clear hb hi hq hne hb2 hq2 hg hn ht hnv
  go_enter Try.func21, Try.ntmps21
  go_wp2_with (at_builtin; refine Lib.wpList_append_run _ rfl _ _ _ _ rfl _ _ rfl rfl _ _ (hr _) ?_)
  go_end0
  refine ⟨_, rfl, HB2.out.set i _, ?_, HT.out.setCell (by simp) _, HNV.out⟩
  exact HQ2.out.touch (S := [b]) ((Touch.refl _ _).setCell (by simp) _) (fun k hk => by have := (HNV.out k hk).2; simpa using this)

set_option maxHeartbeats 1000000 in
theorem list_any (b i : Nat) (v : Value) (xs : List Int) (w : World) (hi : w.cell? ⟨b, i, none⟩ = some v) (hq : Qu w 0 3 v (xs.map (Value.int .i64))) (hl : xs.length ≤ 1000000) :
    Calls Try.prog 27 #[.pointer (some ⟨b, i, none⟩)] w (Own xs w) := by
  have HQ := Lib.hid hq
  obtain ⟨ua, uc, rfl⟩ := Qu.form hq
  clear hq
  go_enter Try.func27, Try.ntmps27
  go_wp2_with fail
  refine (clone_any _ xs _ HQ.out.sl hl).mono ?_
  rintro e w1 ⟨v, rfl, hq1, ht1⟩
  go_wp2
  go_ret
  exact ⟨_, rfl, hq1, ht1⟩

set_option maxHeartbeats 1000000 in
theorem pop_nil (b i : Nat) (v : Value) (w : World) (hi : w.cell? ⟨b, i, none⟩ = some v) (hq : Qu w 0 3 v []) :
    Calls Try.prog 28 #[.pointer (some ⟨b, i, none⟩)] w fun e w' => e = .returned (.tuple #[.int .i64 0, .bool false]) ∧ w = w' := by
  obtain ⟨ua, uc, rfl⟩ := Qu.form (xs := []) hq
  clear hq
  go_enter Try.func28, Try.ntmps28
  go_wp2
  go_ret2
  exact ⟨rfl, rfl⟩

def PopP (b i : Nat) (c : Array Value) (T : TypeId) (v : Value) (x : Int) (xs : List Int) (w : World) (e : Ending) (w' : World) : Prop :=
  ∃ v', e = .returned (.tuple #[.int .i64 x, .bool true]) ∧ Blk w' b (c.setIfInBounds i v') T ∧ Qu w' 0 3 v' (xs.map (Value.int .i64)) ∧ Touch [b] w w' ∧ v'.ownBlock = v.ownBlock
set_option maxHeartbeats 2000000 in
theorem pop_cons (b i : Nat) (c : Array Value) (T : TypeId) (v : Value) (x : Int) (xs : List Int) (w : World) (hb : Blk w b c T) (hi : c[i]? = some v) (hq : Qu w 0 3 v ((x :: xs).map (Value.int .i64))) (hne : ∀ k, v.ownBlock = some k → k ≠ b) (hl : xs.length ≤ 1000000) :
    Calls Try.prog 28 #[.pointer (some ⟨b, i, none⟩)] w (PopP b i c T v x xs w) := by
  obtain ⟨g, off, cap, rfl, hx, hle, hmax, hbg, hlt, hcase⟩ := hq.front
  have x0 := hb.cell hi
  have x1 := hb.free i
  have HB := Lib.hid hb
  have HNE := Lib.hid (hne g rfl)
  simp only [List.length_map] at hle hcase x0
  simp only [List.length_map]
  unfold maxLen at hmax
  clear hb hi hq hne
  rcases hcase with ⟨rfl, hxs, hq⟩ | ⟨h1, hq⟩
  · have hxs : xs = [] := by simpa using hxs
    subst hxs
    have HQ := Lib.hid hq
    clear hq
    go_enter Try.func28, Try.ntmps28
    go_wp2
    go_ret2
    exact ⟨_, rfl, HB.out.set i _, HQ.out.touch (S := [b]) ((Touch.refl _ _).setCell (by simp) _) (fun k hk => by simp [Value.ownBlock] at hk; have := HNE.out; simp; omega), (Touch.refl _ _).setCell (by simp) _, rfl⟩
  · have HQ := Lib.hid hq
    clear hq
    go_enter Try.func28, Try.ntmps28
    go_wp2
    go_ret2
    exact ⟨_, rfl, HB.out.set i _, HQ.out.touch (S := [b]) ((Touch.refl _ _).setCell (by simp) _) (fun k hk => by simp [Value.ownBlock] at hk; have := HNE.out; simp; omega), (Touch.refl _ _).setCell (by simp) _, rfl⟩

def PrecP (b : Nat) (occ : Int) (T : TypeId) (xs : List Int) (w : World) (e : Ending) (w' : World) : Prop :=
  ∃ v', e = .returned (.tuple #[]) ∧ Blk w' b #[.int .i64 occ, v', .slice none 0 0] T ∧ Qu w' w.heap.size 3 v' (xs.map (Value.int .i64)) ∧ Touch [b] w w'
set_option maxHeartbeats 4000000 in
theorem precede_any (b : Nat) (occ : Int) (T : TypeId) (ve vw : Value) (es ws : List Int) (w : World) (hb : Blk w b #[.int .i64 occ, ve, vw] T) (he : Qu w 0 3 ve (es.map (Value.int .i64))) (hw : Qu w 0 3 vw (ws.map (Value.int .i64))) (l1 : es.length ≤ 100000) (l2 : ws.length ≤ 100000) :
    Calls Try.prog 26 #[.pointer (some ⟨b, 1, none⟩), .pointer (some ⟨b, 2, none⟩)] w (PrecP b occ T (ws ++ es) w) := by
  have HB := Lib.hid hb
  have HE := Lib.hid he.sl
  have HW := Lib.hid hw.sl
  have hlt := hb.lt
  have x1 := hb.cell (i := 1) rfl
  have x2 := hb.cell (i := 2) rfl
  obtain ⟨ea, ec, rfl⟩ := Qu.form he
  obtain ⟨wa, wc, rfl⟩ := Qu.form hw
  obtain ⟨n1, hn1⟩ : ∃ n, es.length = n := ⟨_, rfl⟩
  obtain ⟨n2, hn2⟩ : ∃ n, ws.length = n := ⟨_, rfl⟩
  have N1 := Lib.hid hn1
  have N2 := Lib.hid hn2
  rw [hn1] at HB HE x1 l1
  rw [hn2] at HB HW x2 l2
  have HC := Lib.hid (fun (w1 : World) (ht : Touch [] w w1) (q : Nat) (hq : Blk w1 q #[.slice wa n2 wc, .slice ea n1 ec] 27) => concat_two q (.slice wa n2 wc) (.slice ea n1 ec) ws es w1 hq (HW.out.touch ht (by simp)) (HE.out.touch ht (by simp)) (by rw [hn2]; exact l2) (by rw [hn1]; exact l1))
  clear hb he hw hn1 hn2
  go_enter Try.func26, Try.ntmps26
  go_wp2_with fail
  go_region_with ((go_at_call 29; refine (HC.out _ ?_ w.heap.size ?_).mono ?_; (first | exact ((Touch.refl [] w).drew.alloc _) | exact ((Touch.refl [] w).alloc _).drew); (exact Blk.new rfl); rintro e w2 ⟨v', rfl, hq, ht⟩; obtain ⟨va, vc, hv⟩ := Qu.form hq; rw [List.length_append] at hv; subst hv; have HQ : Hid (Qu w2 w.heap.size 3 (.slice va (ws.length + es.length) vc) ((ws ++ es).map (Value.int .i64))) := Lib.hid (hq.mono (Touch.size (S := []) (by first | exact ((Touch.refl [] w).drew.alloc _) | exact ((Touch.refl [] w).alloc _).drew))); have HT : Hid (Touch [] w w2) := Lib.hid (Touch.trans (by first | exact ((Touch.refl [] w).drew.alloc _) | exact ((Touch.refl [] w).alloc _).drew) ht); have y0 := (HB.out.touch HT.out (by simp)).cell (i := 1) rfl; have y1 := (HB.out.touch HT.out (by simp)).free 1; clear hq ht))
  all_goals
    have hb3 := (HB.out.touch HT.out (by simp)).set 1 (.slice va (ws.length + es.length) vc)
    have z0 := hb3.cell (i := 2) rfl
    have z1 := hb3.free 2
    have HB3 := Lib.hid hb3
    clear hb3 y0 y1
    go_wp2
    go_end0
    refine ⟨_, rfl, HB3.out.set 2 _, ?_, ((HT.out.mono (by simp)).setCell (by simp) _).setCell (by simp) _⟩
    exact HQ.out.touch (S := [b]) (((Touch.refl _ _).setCell (by simp) _).setCell (by simp) _) (fun k hk => by have := (HQ.out.own k hk).1; simp; omega)
end Go.Proofs.Ytbbjnojipfnkoaa
