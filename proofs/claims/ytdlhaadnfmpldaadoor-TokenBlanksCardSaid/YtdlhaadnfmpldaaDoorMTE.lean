/-
  Bytes put together in a new slice, while a cell of zeros is made at any time: for a region that draws its order.
-/
import Derived.Test.YtdlhaadnfmpldaaDoorMTC
import Derived.Test.YtdlhaadnfmpldaaDoorR
import Derived.Deep.RegionLaw
set_option linter.unusedVariables false
namespace Go.Proofs.YtdlhaadnfmpldaaDoor
open Go Go.RowKit

structure Ap (W w : World) (v : Value) (D : List UInt8) (G : Option Nat) : Prop where
  q : Qu w W.heap.size 5 v (D.map bv)
  t : Touch [] W w
  g : ∀ k, G = some k → Blk w k #[.int .i64 0, .int .i64 0] 29 ∧ W.heap.size ≤ k ∧ v.ownBlock ≠ some k
theorem Ap.start (W : World) : Ap W W.drew (.slice none 0 0) [] none := ⟨Qu.nil _ _ _, (Touch.refl _ _).drew, fun k h => by cases h⟩
theorem Ap.alloc {W w : World} {v : Value} {D : List UInt8} {G : Option Nat} (h : Ap W w v D G) (o : Obj) : Ap W (w.alloc o) v D G := ⟨h.q.alloc _, h.t.alloc _, fun k hk => ⟨(h.g k hk).1.alloc _, (h.g k hk).2⟩⟩
theorem Ap.zeros {W w : World} {v : Value} {D : List UInt8} (h : Ap W w v D none) : Ap W (w.alloc (.cells #[.int .i64 0, .int .i64 0] 29)) v D (some w.heap.size) :=
  ⟨h.q.alloc _, h.t.alloc _, fun k hk => by cases hk; exact ⟨Blk.new rfl, h.t.size, fun e => by have := (h.q.own _ e).2; omega⟩⟩
theorem Ap.app {W w : World} {v x : Value} {D E : List UInt8} {G : Option Nat} (h : Ap W w v D G) (hx : Bt W x E) (hl : D.length + E.length ≤ 100000000) :
    ∃ a c w', (∀ ty, (Builtin.append_ #[23, 23] ty #[v, x]).run Tryd.prog w = .ok (.slice a (D.length + E.length) c) w') ∧ Ap W w' (.slice a (D.length + E.length) c) (D ++ E) G := by
  obtain ⟨a, c, w', r, k, u, n⟩ := bytes_cat h.q h.t.size (hx.touch h.t (by simp)) hl
  refine ⟨a, c, w', r, k, h.t.transF u (fun q hq hlt => by have := (h.q.own q (Option.mem_toList.1 hq)).1; omega), fun q hq => ?_⟩
  obtain ⟨g1, g2, g3⟩ := h.g q hq
  refine ⟨g1.touch u (fun hm => g3 (Option.mem_toList.1 hm)), g2, fun e => ?_⟩
  rcases n q e with n | n
  · exact g3 n
  · have := g1.lt; omega
/-- A step of the region: an append. -/
theorem step_ap {W : World} {ops : Array Oper} {o : Oper} {a : Act} {w : World} {K : Act → World → Prop} {Q : Exit → Act → World → Prop} {E0 : Prop} (hgd : o.guard = none) (s x : Operand)
    (ho : o.op = .call { callee := .builtin .append, args := #[s, x], argTypes := #[23, 23] }) {v vx : Value} {D E : List UInt8} {G : Option Nat} (hs : a.eval s = v) (hx : a.eval x = vx) (hb : Bt W vx E) (h : Ap W w v D G)
    {n : Nat} (hn : D.length + E.length = n) (hl : n ≤ 100000000) (hk : ∀ a' c w', Ap W w' (.slice a' n c) (D ++ E) G → K (a.put o.dst (.slice a' n c)) w') : if Region.wanted o (yielded ops a.tmps) = true then Oper.wp Tryd.prog o a w K Q else E0 := by
  have hw : Region.wanted o (yielded ops a.tmps) = true := by simp [Region.wanted, hgd]
  rw [if_pos hw]
  obtain ⟨a', c, w', hr, h2⟩ := h.app hb (by omega)
  rw [hn] at hr h2
  have hr' := hr o.type
  unfold Oper.wp execOp
  simp only [ho, resolve, invoke, builtin, Sem.run_bind, Sem.run_pure, Result.andThen_ok, List.map_toArray, List.map_cons, List.map_nil, hs, hx, hr']
  exact hk a' c w' h2
/-- An empty slice is made. -/
theorem Ap.empty {W w : World} {G : Option Nat} (h : Ap W w (.slice none 0 0) [] G) : Ap W (w.alloc (.cells #[] 5)) (.slice (some ⟨w.heap.size, 0, none⟩) 0 0) [] G :=
  ⟨.inr ⟨_, 0, 0, #[], rfl, h.t.size, Blk.new rfl, Nat.le_refl _, by unfold maxLen; omega, by simp, fun j hj => by simp at hj⟩, h.t.alloc _, fun k hk => ⟨(h.g k hk).1.alloc _, (h.g k hk).2.1, fun e => by
    have := (h.g k hk).1.lt
    simp [Value.ownBlock] at e
    omega⟩⟩
theorem Ap.start_empty (W : World) : Ap W (W.drew.alloc (.cells #[] 5)) (.slice (some ⟨W.heap.size, 0, none⟩) 0 0) [] none := (Ap.start W).empty
theorem Ap.empty_zeros (W : World) : Ap W ((W.drew.alloc (.cells #[] 5)).alloc (.cells #[.int .i64 0, .int .i64 0] 29)) (.slice (some ⟨W.heap.size, 0, none⟩) 0 0) [] (some (W.heap.size + 1)) := by
  have h := (Ap.start_empty W).zeros
  have e : (W.drew.alloc (.cells #[] 5)).heap.size = W.heap.size + 1 := by simp
  rw [e] at h
  exact h
theorem Ap.zeros_empty (W : World) : Ap W ((W.drew.alloc (.cells #[.int .i64 0, .int .i64 0] 29)).alloc (.cells #[] 5)) (.slice (some ⟨W.heap.size + 1, 0, none⟩) 0 0) [] (some W.heap.size) := by
  have h := ((Ap.start W).zeros).empty
  have e : (W.drew.alloc (.cells #[.int .i64 0, .int .i64 0] 29)).heap.size = W.heap.size + 1 := by simp
  rw [e] at h
  exact h
/-- All of what has been put together. -/
theorem all_ap {W w : World} {a : Option Addr} {n c : Nat} {D : List UInt8} {T : List Tok} {G : Option Nat} (hv : Vs W) (h : Ap W w (.slice a n c) D G) (hl : D.length ≤ 100000) (hT : allT D = .ok T) {m : Nat} (hm : T.length = m) : Calls Tryd.prog 7 #[.slice a n c] w fun e w' =>
    ∃ b1 bc, e = .returned (.tuple #[.slice b1 m bc, .agg #[.int .i64 0, .int .i64 0]]) ∧ Tks w' w.heap.size (.slice b1 m bc) T ∧ Touch [] W w' ∧ (∀ k, G = some k → Blk w' k #[.int .i64 0, .int .i64 0] 29 ∧ W.heap.size ≤ k ∧ k < w.heap.size) ∧ (∀ k, G = some k → w'.cell? ⟨k, 0, none⟩ = some (.int .i64 0) ∧ w'.cell? ⟨k, 1, none⟩ = some (.int .i64 0) ∧ ∀ i, w'.frozen? ⟨k, i, none⟩ = false) := by
  subst hm
  have hb := qu_bt h.q
  refine (all_any w _ D (hv.touch h.t) hb hl).mono ?_
  intro e w1 h1
  obtain ⟨v1, rfl, hk1, ht1⟩ := h1.ans
  rw [hT] at hk1
  have hk1 : Tks w1 w.heap.size v1 T := hk1
  obtain ⟨b1, bc, rfl⟩ := hk1.form
  have hG : ∀ k, G = some k → Blk w1 k #[.int .i64 0, .int .i64 0] 29 ∧ W.heap.size ≤ k ∧ k < w.heap.size := fun k hk => ⟨(h.g k hk).1.touch ht1 (by simp), (h.g k hk).2.1, (h.g k hk).1.lt⟩
  refine ⟨b1, bc, ?_, hk1, h.t.trans ht1, hG, fun k hk => ⟨(hG k hk).1.cell (i := 0) rfl, (hG k hk).1.cell (i := 1) rfl, (hG k hk).1.free⟩⟩
  rw [hT]
  rfl
/-- What stands behind the region. -/
def RelE (W : World) (T : List Tok) (n : Nat) (v13 v14 : Value) (wx : World) : Prop := ∃ (b1 : Option Addr) (bc base g2 : Nat), v13 = .slice b1 n bc ∧ v14 = .pointer (some ⟨g2, 0, none⟩) ∧ Tks wx base (.slice b1 n bc) T ∧ Blk wx g2 #[.int .i64 0, .int .i64 0] 29 ∧ Touch [] W wx
theorem rel_a {W w : World} {T : List Tok} {n k base : Nat} {b1 : Option Addr} {bc : Nat} (hk : Tks w base (.slice b1 n bc) T) (ht : Touch [] W w) (hb : Blk w k #[.int .i64 0, .int .i64 0] 29 ∧ W.heap.size ≤ k ∧ k < base) :
    RelE W T n (.slice b1 n bc) (.pointer (some ⟨k, 0, none⟩)) ((w.setCell ⟨k, 0, none⟩ (.int .i64 0)).setCell ⟨k, 1, none⟩ (.int .i64 0)) := by
  have t1 : Touch [k] w ((w.setCell ⟨k, 0, none⟩ (.int .i64 0)).setCell ⟨k, 1, none⟩ (.int .i64 0)) := ((Touch.refl [k] w).setCell (by simp) _).setCell (by simp) _
  refine ⟨b1, bc, base, k, rfl, rfl, hk.touch t1 (fun q hq hm => ?_), (hb.1.set 0 (.int .i64 0)).set 1 (.int .i64 0), ht.transF t1 (fun q hq hl => ?_)⟩
  · have := (hk.own q hq).1
    simp at hm
    omega
  · simp at hq
    omega
theorem rel_b {W w : World} {T : List Tok} {n base : Nat} {b1 : Option Addr} {bc : Nat} (hk : Tks w base (.slice b1 n bc) T) (ht : Touch [] W w) :
    RelE W T n (.slice b1 n bc) (.pointer (some ⟨w.heap.size, 0, none⟩)) (((w.alloc (.cells #[.int .i64 0, .int .i64 0] 29)).setCell ⟨w.heap.size, 0, none⟩ (.int .i64 0)).setCell ⟨w.heap.size, 1, none⟩ (.int .i64 0)) := by
  have hn : Blk (w.alloc (.cells #[.int .i64 0, .int .i64 0] 29)) w.heap.size #[.int .i64 0, .int .i64 0] 29 := Blk.new rfl
  have t0 : Touch [] w (((w.alloc (.cells #[.int .i64 0, .int .i64 0] 29)).setCell ⟨w.heap.size, 0, none⟩ (.int .i64 0)).setCell ⟨w.heap.size, 1, none⟩ (.int .i64 0)) := (((Touch.refl [] w).alloc _).setNew (Nat.le_refl _) _).setNew (Nat.le_refl _) _
  exact ⟨b1, bc, base, _, rfl, rfl, hk.touch t0 (fun _ _ => by simp), (hn.set 0 (.int .i64 0)).set 1 (.int .i64 0), ht.trans t0⟩
theorem rel_c {W w : World} {T : List Tok} {n base : Nat} {b1 : Option Addr} {bc : Nat} (hk : Tks w base (.slice b1 n bc) T) (ht : Touch [] W w) :
    RelE W T n (.slice b1 n bc) (.pointer (some ⟨w.heap.size, 0, none⟩)) (w.alloc (.cells #[.int .i64 0, .int .i64 0] 29)) :=
  ⟨b1, bc, base, _, rfl, rfl, hk.touch ((Touch.refl [] w).alloc _) (fun _ _ => by simp), Blk.new rfl, ht.alloc _⟩
end Go.Proofs.YtdlhaadnfmpldaaDoor
