/-
  Units: what goes through two lists side by side.
-/
import Derived.Test.YtjgdkaedfnihaaaS
import Derived.RangeFuncNested
import Derived.RangeFuncBound
import Derived.RangeFuncCalls
import Derived.RangeFuncLeaves
import Derived.RangeFuncBox
import Derived.RangeFuncWrites
import Derived.Shelf.Abstract
import Derived.Shelf.RegionOpen
import Derived.OwnWalkIn
import Derived.TacticsInMore
import Derived.LoopNIn
import Derived.LoopIn
set_option linter.unusedVariables false
namespace Go.Proofs.Ytjgdkaedfnihaaa
open Go.RowKit Go.Shelf

attribute [local go_sem] Oper.semAt_some

/-- The blocks B are as they were. -/
def Same (B : List Nat) (w w' : World) : Prop := ∀ k, k ∈ B → w'.heap[k]? = w.heap[k]?
theorem Same.refl (B : List Nat) (w : World) : Same B w w := fun _ _ => rfl
theorem Same.trans {B : List Nat} {a b c : World} (h : Same B a b) (k : Same B b c) : Same B a c := fun i hi => (k i hi).trans (h i hi)
theorem Same.cell {B : List Nat} {w w' : World} (h : Same B w w') {g o : Nat} (hg : g ∈ B) : w'.cell? ⟨g, o, none⟩ = w.cell? ⟨g, o, none⟩ := World.cell?_of_block (h g hg)
theorem Same.touch {B S : List Nat} {w w' : World} (h : Touch S w w') (hs : ∀ k, k ∈ B → k ∉ S ∧ k < w.heap.size) : Same B w w' := fun k hk => h.block k (hs k hk).2 (hs k hk).1
theorem same_kb {B : List Nat} {w : World} (hB : ∀ k, k ∈ B → k < w.heap.size) (W : World) (l : Nat) (o o' : Obj) (hl : w.heap.size ≤ l) (h : W.heap[l]? = some o) (_ : o.isCells = false) (_ : o.isWalk = false) : Same B W (W.putObj l o') :=
  fun k hk => World.putObj_heap_other (by have := hB k hk; omega)
/-- The first k pairs of two lists. -/
def upZ (xs ys : List Int) (k : Nat) : List (Int × Int) := (List.range k).map fun j => (xs[j]?.getD 0, ys[j]?.getD 0)
theorem upZ_succ (xs ys : List Int) (k : Nat) : upZ xs ys (k + 1) = upZ xs ys k ++ [(xs[k]?.getD 0, ys[k]?.getD 0)] := by simp [upZ, List.range_succ]
theorem upZ_length (xs ys : List Int) (k : Nat) : (upZ xs ys k).length = k := by simp [upZ]
/-- A slice's cell, where its blocks are as they were. -/
theorem Sl.cellS {w w' : World} {v : Value} {xs : List Int} (h : Sl w v xs) {B : List Nat} (hs : Same B w w') (hb : ∀ k, v.ownBlock = some k → k ∈ B) {k : Nat} (hk : k < xs.length) :
    ∃ g off cap, v = .slice (some ⟨g, off, none⟩) xs.length cap ∧ w'.cell? ⟨g, off + k, none⟩ = some (.int .i64 (xs[k]?.getD 0)) := by
  obtain ⟨a, cap, rfl, h | ⟨g, off, rfl, hlt, hr⟩⟩ := h
  · subst h; simp at hk
  · refine ⟨g, off, cap, rfl, ?_⟩
    rw [hs.cell (hb g rfl), hr k hk]
    simp

set_option maxHeartbeats 1000000 in
theorem pairs_in (n : Nat) (va vb : Value) (la lb ca cb : Nat) (aa ab : Option Addr) (ea : va = .slice aa la ca) (eb : vb = .slice ab lb cb) (w : World) :
    CallsIn Fence.wide n Try.prog 34 #[va, vb] w fun e w' => e = .returned (.func (.func 39) #[] #[.pointer (some ⟨w.heap.size, 0, none⟩), .pointer (some ⟨w.heap.size + 1, 0, none⟩)]) ∧ w' = (w.alloc (.cells #[va] 22)).alloc (.cells #[vb] 22) := by
  subst ea eb
  refine callsIn_of_wp Try.func34 rfl trivial ?_ rfl
  simp only [Try.ntmps34, List.size_toArray, List.length_cons, List.length_nil, Nat.reduceAdd, Nat.reduceSub, Array.replicate_succ, Array.replicate_zero, List.push_toArray, List.append_toArray, List.nil_append, List.cons_append]
  gi_wp2
  go_ret
  exact ⟨rfl, rfl⟩
set_option maxRecDepth 100000 in
set_option maxHeartbeats 4000000 in
/-- The function that pairs hands back: every pair in turn, as long as the rounds go on. -/
theorem pairs1_in (n : Nat) (hn : 1 ≤ n) (l Bx By : Nat) (S : List Nat) (va vb : Value) (xs ys : List Int) (hl : ys.length = xs.length) (hm : xs.length ≤ 1000000) (J Jx : List (Int × Int) → World → Prop)
    (hY : ∀ pre x W, J pre W → pre.length < xs.length → YieldAt Fence.wide (n - 1) Try.prog l #[.int .i64 x.1, .int .i64 x.2] W fun e W' =>
      (e = .returned (.bool true) ∧ J (pre ++ [x]) W' ∧ Same S W W') ∨ (e = .returned (.bool false) ∧ Jx (pre ++ [x]) W'))
    (W : World) (hx : W.cell? ⟨Bx, 0, none⟩ = some va) (hy : W.cell? ⟨By, 0, none⟩ = some vb) (sa : Sl W va xs) (sb : Sl W vb ys) (mx : Bx ∈ S) (my : By ∈ S) (ma : 0 < xs.length → ∀ k, va.ownBlock = some k → k ∈ S) (mb : 0 < xs.length → ∀ k, vb.ownBlock = some k → k ∈ S) (h0 : J [] W) :
    CallsIn Fence.wide n Try.prog 39 #[.func (.yield l) #[] #[], .pointer (some ⟨Bx, 0, none⟩), .pointer (some ⟨By, 0, none⟩)] W fun e W' => (∃ v, e = .returned v) ∧
      ((∃ zs, zs = upZ xs ys xs.length ∧ J zs W') ∨ (∃ pre, (∃ k, k ≤ xs.length ∧ pre = upZ xs ys k) ∧ Jx pre W')) := by
  obtain ⟨len, hlen⟩ : ∃ len, xs.length = len := ⟨_, rfl⟩
  obtain ⟨a, ca, ea, _⟩ := id sa
  obtain ⟨b, cb, eb, _⟩ := id sb
  rw [hl] at eb
  rw [hlen] at hm hY ea eb ma mb ⊢
  have HL := Lib.hid hlen
  have HL2 := Lib.hid hl
  subst ea eb
  have SA := Lib.hid sa
  have SB := Lib.hid sb
  clear sa sb hlen hl
  refine callsIn_of_wp Try.func39 rfl trivial ?_ rfl
  simp only [Try.ntmps39, List.size_toArray, List.length_cons, List.length_nil, Nat.reduceAdd, Nat.reduceSub, Array.replicate_succ, Array.replicate_zero, List.push_toArray, List.append_toArray, List.nil_append, List.cons_append]
  gi_wp2
  gi_loopw [8] (fun i wr => ∃ k : Nat, k ≤ len ∧ i = .int .i64 k ∧ J (upZ xs ys k) wr ∧ Same S W wr) (fun i _ => len - (intOf i).toNat)
  case atStart => exact ⟨0, Nat.zero_le _, rfl, h0, Same.refl _ _⟩
  case round =>
    obtain ⟨k, hk, rfl, hJ, hs⟩ := hrel
    by_cases hlt : k < len
    · obtain ⟨ga, oa, ca2, e1, c1⟩ := SA.out.cellS hs (ma (by omega)) (k := k) (by rw [HL.out]; exact hlt)
      obtain ⟨gb, ob, cb2, e2, c2⟩ := SB.out.cellS hs (mb (by omega)) (k := k) (by rw [HL2.out, HL.out]; exact hlt)
      have hby : wr.cell? ⟨By, 0, none⟩ = some (.slice b len cb) := (hs.cell my).trans hy
      rw [HL.out] at e1
      rw [HL2.out, HL.out] at e2
      cases e1
      cases e2
      obtain ⟨fn, tmps, assign, body, hyy, hR⟩ := hY _ (xs[k]?.getD 0, ys[k]?.getD 0) wr hJ (by rw [upZ_length]; exact hlt)
      dsimp only at hyy
      gi_wp2
      refine hR.mono ?_
      rintro e W3 (⟨rfl, hJ3, hk3⟩ | ⟨rfl, hJx3⟩)
      · gi_wp2
        go_roundw
        case rel => exact ⟨k + 1, by omega, by simp, by rw [upZ_succ]; exact hJ3, hs.trans hk3⟩
        case measure => simp [intOf]; omega
      · gi_wp2
        refine bodyPost_ret (results_none rfl _ _ _) rfl ?_
        exact ⟨⟨_, rfl⟩, .inr ⟨_, ⟨k + 1, by omega, (upZ_succ _ _ _).symm⟩, hJx3⟩⟩
    · obtain rfl : k = len := by omega
      gi_wp2
      go_end0
      exact ⟨⟨_, rfl⟩, .inl ⟨_, rfl, hJ⟩⟩
theorem pairs_stops (n : Nat) (hn : 1 ≤ n) (Bx By : Nat) (va vb : Value) (xs ys : List Int) (hl : ys.length = xs.length) (hm : xs.length ≤ 1000000) (w : World) (S : List Nat) (hS : ∀ k, k ∈ S → k < w.heap.size)
    (hx : w.cell? ⟨Bx, 0, none⟩ = some va) (hy : w.cell? ⟨By, 0, none⟩ = some vb) (sa : Sl w va xs) (sb : Sl w vb ys) (mx : Bx ∈ S) (my : By ∈ S) (ma : 0 < xs.length → ∀ k, va.ownBlock = some k → k ∈ S) (mb : 0 < xs.length → ∀ k, vb.ownBlock = some k → k ∈ S) :
    SeqStopsK Fence.wide n Try.prog 39 #[.pointer (some ⟨Bx, 0, none⟩), .pointer (some ⟨By, 0, none⟩)] (fun x : Int × Int => #[Value.int .i64 x.1, Value.int .i64 x.2]) (Same S) (fun zs => zs = upZ xs ys xs.length)
      (fun pre => ∃ k, k ≤ xs.length ∧ pre = upZ xs ys k) xs.length w := fun l J Jx W hW _ _ hY h0 => by
  have ht : Touch [] w W := Touch.of_below hW
  have hs : Same S w W := Same.touch ht (fun k hk => ⟨by simp, hS k hk⟩)
  exact pairs1_in n hn l Bx By S va vb xs ys hl hm J Jx hY W ((hs.cell mx).trans hx) ((hs.cell my).trans hy) (sa.touch ht (fun _ _ => by simp)) (sb.touch ht (fun _ _ => by simp)) mx my ma mb h0
end Go.Proofs.Ytjgdkaedfnihaaa
