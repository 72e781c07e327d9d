/-
  Bytes put behind others while all that was there stays; what an element's numbers are.
-/
import Derived.Test.YtoedkomckgidiaaCC
import Derived.Test.YtoedkomckgidiaaCD
import Derived.Test.YtoedkomckgidiaaS
import Derived.Test.YtoedkomckgidiaaRW
set_option linter.unusedVariables false
namespace Go.Proofs.Ytoedkomckgidiaa
open Go Go.RowKit

/-- Bytes are handed back; of what was there in w0 nothing is turned. -/
def Wr (w0 : World) (bs : List Nat) (e : Ending) (w' : World) : Prop := ∃ v', e = .returned v' ∧ Qb w' w0.heap.size v' bs ∧ Touch [] w0 w'
theorem Bw.keep {w0 w w' : World} {v v' : Value} {bs bs' : List Nat} (h0 : Touch [] w0 w) (hq : Qb w w0.heap.size v bs) (h : Bw w w0.heap.size v w' v' bs') : Touch [] w0 w' :=
  h0.transF h.t (fun i hi hlt => by have := (Qu.own hq i (by simpa using hi)).1; omega)
theorem wnum_w (w0 : World) (v : Value) (bs : List Nat) (x : Int) (w : World) (h0 : Touch [] w0 w) (hq : Qb w w0.heap.size v bs) (hlen : bs.length ≤ 1000000) : Calls Try.prog 25 #[v, .int .i64 x] w (Wr w0 (bs ++ num8 x)) :=
  (wnum_any v bs x w _ hq h0.size hlen).mono fun e w' ⟨v', he, hb⟩ => ⟨v', he, hb.q, hb.keep h0 hq⟩
/-- The cells of a new block, as what an append takes. -/
theorem src_u8 {w : World} {g : Nat} {us : List Nat} {T : TypeId} (h : Blk w g (us.map u8v).toArray T) (c : Nat) : Src Try.prog 1 32 (.slice (some ⟨g, 0, none⟩) us.length c) (us.map u8v).length (us.map u8v) w := by
  have hl : (us.map u8v).length = us.length := by simp
  rw [hl]
  refine Src.ofSlice w Try.underlying32 ⟨g, 0, none⟩ us.length c _ (by simp) (fun j u hj => ?_) (fun u hu => by obtain ⟨x, _, rfl⟩ := List.mem_map.1 hu; rfl)
  have hc : w.cell? ⟨g, j, none⟩ = some u := h.cell (by rw [List.getElem?_toArray]; exact hj)
  by_cases h0 : j = 0
  · subst h0; simpa [Addr.add] using hc
  · simpa [Addr.add, h0] using hc
/-- Two bytes are put behind others: the run. -/
theorem Qb.two {w : World} {base : Nat} {v : Value} {bs : List Nat} (h : Qb w base v bs) (hbase : base ≤ w.heap.size) (a b : Nat) (hlen : bs.length ≤ 1000000) :
    ∃ v' w', (∀ ty, (Builtin.append_ #[32, 32] ty #[v, .slice (some ⟨w.heap.size, 0, none⟩) 2 2]).run Try.prog (w.alloc (.cells #[.int .u8 (a : Int), .int .u8 (b : Int)] 5)) = .ok v' w') ∧ Bw w base v w' v' (bs ++ [a, b]) := by
  obtain ⟨i0, hi, hz0, hz1, hz2⟩ := infoU
  have hq := Qu.alloc h (.cells #[.int .u8 (a : Int), .int .u8 (b : Int)] 5)
  have hs := src_u8 (w := w.alloc (.cells #[.int .u8 (a : Int), .int .u8 (b : Int)] 5)) (g := w.heap.size) (us := [a, b]) (T := 5) (Blk.new rfl) 2
  obtain ⟨v', w', hr, h2, h3, h4⟩ := Qu.appendL Try.underlying32 hi hz0 hz1 hz2 rfl hq (by simp; omega) _ _ hs (by simp; omega) (by simp; omega)
  refine ⟨v', w', hr, by unfold Qb; rw [List.map_append]; exact h2, ((Touch.refl v.ownBlock.toList w).alloc _).grown h3 (fun k hk _ => by simp [hk]), fun k hk => ?_⟩
  rcases h4 k hk with e | e
  · exact .inl e
  · exact .inr (by simp at e; omega)
/-- Two bytes can be put behind v's: of what was there in w0 nothing is turned. -/
def Ready2 (w0 w : World) (v : Value) (bs : List Nat) : Prop := (∃ a c, v = .slice a bs.length c) ∧ ∀ a b : Nat, ∃ v' w', (∀ ty, (Builtin.append_ #[32, 32] ty #[v, .slice (some ⟨w.heap.size, 0, none⟩) 2 2]).run Try.prog (w.alloc (.cells #[.int .u8 (a : Int), .int .u8 (b : Int)] 5)) = .ok v' w') ∧ Qb w' w0.heap.size v' (bs ++ [a, b]) ∧ Touch [] w0 w'
theorem Ready2.of {w0 w : World} {v : Value} {bs : List Nat} (h0 : Touch [] w0 w) (hq : Qb w w0.heap.size v bs) (hlen : bs.length ≤ 1000000) : Ready2 w0 w v bs :=
  ⟨hq.form, fun a b => by
    obtain ⟨v', w', hr, hb⟩ := Qb.two hq h0.size a b hlen
    exact ⟨v', w', hr, hb.q, hb.keep h0 hq⟩⟩
/-- The same of a row that is full: a literal's, which is marked. -/
theorem Ready2.full {w0 w : World} {g : Nat} (h0 : Touch [] w0 w) (x0 : w.cell? ⟨g, 0, none⟩ = some (.int .u8 83)) (x1 : w.cell? ⟨g, 1, none⟩ = some (.int .u8 66)) : Ready2 w0 w (.slice (some ⟨g, 0, none⟩) 2 2) [83, 66] :=
  ⟨⟨_, _, rfl⟩, fun a b => by
    obtain ⟨i0, hi, hz0, hz1, hz2⟩ := infoU
    obtain ⟨W, hW⟩ : ∃ W, w.alloc (.cells #[.int .u8 (a : Int), .int .u8 (b : Int)] 5) = W := ⟨_, rfl⟩
    have hg : g < w.heap.size := block_lt_of_cell x0
    have y0 : W.cell? ⟨g, 0, none⟩ = some (.int .u8 83) := by rw [← hW, World.cell?_alloc_past _ _ _ hg]; exact x0
    have y1 : W.cell? ⟨g, 1, none⟩ = some (.int .u8 66) := by rw [← hW, World.cell?_alloc_past _ _ _ hg]; exact x1
    have hs := src_u8 (w := W) (g := w.heap.size) (us := [a, b]) (T := 5) (by rw [← hW]; exact Blk.new rfl) 2
    have hsz : w.heap.size ≤ W.heap.size := by rw [← hW]; simp
    have t0 : Touch [] w0 W := by rw [← hW]; exact h0.alloc _
    have hold : (Builtin.firstCells i0.size 2 (.slice (some ⟨g, 0, none⟩) 2 2)).run Try.prog W.drew = .ok ([83, 66].map u8v).toArray W.drew := by
      rw [hz1]
      refine run_firstCells_some (w := W.drew) 1 2 ⟨g, 0, none⟩ 2 2 ([83, 66].map u8v) (by simp) (fun j u hu => ?_)
      show W.cell? _ = _
      rcases j with _ | _ | j
      · simp at hu; subst hu; simpa [Addr.add, u8v] using y0
      · simp at hu; subst hu; simpa [Addr.add, u8v] using y1
      · simp at hu
    have hsrc : Src Try.prog i0.size 32 (.slice (some ⟨w.heap.size, 0, none⟩) 2 2) ([a, b].map u8v).length ([a, b].map u8v) W := by rw [hz1]; exact hs
    have hfit : Builtin.nextslicecap (2 + ([a, b].map u8v).length) 2 * i0.bytes ≤ 281474976710656 := growslice_fits (by simp) (by rw [hz2]; simp)
    have hr := fun ty => run_append_grow_src (w := W) 32 32 ty 5 i0 _ Try.underlying32 hi hz0 (some ⟨g, 0, none⟩) 2 2 ([83, 66].map u8v) hold (.slice (some ⟨w.heap.size, 0, none⟩) 2 2) ([a, b].map u8v).length ([a, b].map u8v) hsrc (by simp) (by simp) hfit
    have hge := grownCap_ge W (2 + ([a, b].map u8v).length) 2 5
    have hmx := grownCap_le_maxLen W (2 + ([a, b].map u8v).length) 2 5 (by simp only [List.length_map, List.length_cons, List.length_nil]; unfold maxLen; omega)
    rw [hW]
    refine ⟨_, _, hr, ?_, ?_⟩
    · refine .inr ⟨W.heap.size, 0, grownCap W (2 + ([a, b].map u8v).length) 2 5, _, by simp, by have := t0.size; omega, Blk.new rfl, by simpa using hge, hmx, ?_, ?_⟩
      · have hz : (Value.int IntKind.u8 0).cells.size = 1 := rfl
        simp [size_zeroCells, hz]; simp at hge; omega
      · intro j hj
        rw [List.map_append]
        simp only [Nat.zero_add]
        rw [Array.getElem?_append_left (by simpa using hj), List.getElem?_toArray]
    · exact t0.transF (Touch.alloc (Touch.drew (Touch.refl [] W)) _) (fun _ h _ => h)⟩
theorem leN_two (n : Nat) : leN 2 n = [n % 256, n / 256 % 256] := by simp [leN]
/-- What a list's elements write, so far. -/
theorem secB_take (n k : Nat) (L : Nat → List Int) : (List.range (k + 1)).flatMap L = (List.range k).flatMap L ++ L k := by rw [List.range_succ, List.flatMap_append]; simp
theorem flat_take (ys : List Int) (j : Nat) (h : j < ys.length) : (ys.take (j + 1)).flatMap num8 = (ys.take j).flatMap num8 ++ num8 (ys.getD j 0) := by
  rw [List.take_add_one, List.flatMap_append, List.getElem?_eq_getElem h]
  simp [List.getD_eq_getElem?_getD, h]
theorem flatI_list (k n : Nat) (z : Nat → Nat → Int) : (List.range n).flatMap (fun i => (List.range k).map (z i)) = flatI k n z := by
  induction n with
  | zero => simp [flatI]
  | succ n ih => rw [secB_take n n, ih, flatI_succ]
set_option maxHeartbeats 4000000 in
theorem num3a (a b c : Int) (w : World) : Calls Try.prog 20 #[.agg #[.int .i64 a, .int .i64 b, .int .i64 c]] w (Own [a, b, c] w) := by
  go_enter Try.func20, Try.ntmps20
  go_wp2
  go_ret
  exact ⟨_, rfl, Qu.made (c := #[.int .i64 a, .int .i64 b, .int .i64 c]) (by simp) (by simp) rfl (by decide), ((Touch.refl [] w).alloc _).alloc _⟩
set_option maxHeartbeats 4000000 in
theorem num3b (a b c : Int) (w : World) : Calls Try.prog 22 #[.agg #[.int .i64 a, .int .i64 b, .int .i64 c]] w (Own [a, b, c] w) := by
  go_enter Try.func22, Try.ntmps22
  go_wp2
  go_ret
  exact ⟨_, rfl, Qu.made (c := #[.int .i64 a, .int .i64 b, .int .i64 c]) (by simp) (by simp) rfl (by decide), ((Touch.refl [] w).alloc _).alloc _⟩
set_option maxHeartbeats 4000000 in
theorem num2a (a b : Int) (w : World) : Calls Try.prog 24 #[.agg #[.int .i64 a, .int .i64 b]] w (Own [a, b] w) := by
  go_enter Try.func24, Try.ntmps24
  go_wp2
  go_ret
  exact ⟨_, rfl, Qu.made (c := #[.int .i64 a, .int .i64 b]) (by simp) (by simp) rfl (by decide), ((Touch.refl [] w).alloc _).alloc _⟩
set_option maxHeartbeats 4000000 in
theorem num2b (a b : Int) (w : World) : Calls Try.prog 31 #[.agg #[.int .i64 a, .int .i64 b]] w (Own [a, b] w) := by
  go_enter Try.func31, Try.ntmps31
  go_wp2
  go_ret
  exact ⟨_, rfl, Qu.made (c := #[.int .i64 a, .int .i64 b]) (by simp) (by simp) rfl (by decide), ((Touch.refl [] w).alloc _).alloc _⟩
set_option maxHeartbeats 4000000 in
theorem num1a (a : Int) (w : World) : Calls Try.prog 27 #[.int .i64 a] w (Own [a] w) := by
  go_enter Try.func27, Try.ntmps27
  go_wp2
  go_ret
  exact ⟨_, rfl, Qu.made (c := #[.int .i64 a]) (by simp) (by simp) rfl (by decide), (Touch.refl [] w).alloc _⟩
theorem numV (v : Value) (w : World) : Calls Try.prog 29 #[v] w (fun e w' => e = .returned v ∧ w = w') := by
  go_enter Try.func29, Try.ntmps29
  go_wp2
  go_ret
  exact ⟨rfl, rfl⟩
end Go.Proofs.Ytoedkomckgidiaa
