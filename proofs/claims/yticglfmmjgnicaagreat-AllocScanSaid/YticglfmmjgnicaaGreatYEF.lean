/-
  While the state is built: its parts, and two lists to which one element each is appended in a region that draws its order.
  A region that draws its order, whose last operations are stores into cells that it reads: one condition on the world holds throughout, another one until the first of these stores; what yields under the first, or under the second and is waited for by the stores, may be taken first.
  The state is looked at: what the function does that is done once.
  The state as it is now.
  What is read of the allocator: what is to be had, who is in, whether it is safe.
-/
import Derived.OrdersHeld
import Derived.Deep.RegionHeld
import Derived.Deep.RegionHeld3
import Derived.Deep.RegionLaw
import Derived.Deep.RegionHeldLaw
import Derived.Deep.Cut
import Derived.Deep.CutBlock
import Derived.Test.YticglfmmjgnicaaGreatYEE
set_option linter.unusedVariables false
set_option linter.unusedSimpArgs false
namespace Go.Proofs.YticglfmmjgnicaaGreat
open Go Go.RowKit

theorem Own.im {W w' : World} {F S : List Nat} {v : Value} {xs : List Int} (h : Qu w' W.heap.size 3 v (xs.map (Value.int .i64))) (hS : ∀ k, k ∈ S → k < W.heap.size) : Im w' (grow F W w') S v xs :=
  ⟨h.sl, fun k hk => by
    have := h.own k hk
    exact ⟨grow_mem.2 (.inr ⟨this.1, this.2⟩), fun hm => by have := hS k hm; omega⟩⟩
/-- The state's cells while it is built. -/
def stC (x pv av hv cv : Value) : Array Value := #[.int .u32 0, .int .i32 1, x, pv, av, hv, cv]
structure LkI (W wr : World) (s : Nat) (x pv av hv cv : Value) (ps A : List Int) (rows : Nat → List Int) (vs us : List Value) : Prop where
  t : Touch [s] W wr
  sl : s < W.heap.size
  obj : Blk wr s (stC x pv av hv cv) 89
  p : Qu wr W.heap.size 3 pv (ps.map (Value.int .i64))
  a : Qu wr W.heap.size 3 av (A.map (Value.int .i64))
  h : Qu wr W.heap.size 22 hv vs
  c : Qu wr W.heap.size 22 cv us
  ap : ∀ k, av.ownBlock = some k → pv.ownBlock ≠ some k ∧ hv.ownBlock ≠ some k ∧ cv.ownBlock ≠ some k
  hp : ∀ k, hv.ownBlock = some k → pv.ownBlock ≠ some k ∧ cv.ownBlock ≠ some k
  cp : ∀ k, cv.ownBlock = some k → pv.ownBlock ≠ some k
  r : ∀ i, i < vs.length → Qu wr W.heap.size 3 (vs.getD i (.slice none 0 0)) ((rows i).map (Value.int .i64)) ∧ ∀ k, (vs.getD i (.slice none 0 0)).ownBlock = some k → av.ownBlock ≠ some k ∧ hv.ownBlock ≠ some k ∧ cv.ownBlock ≠ some k
section
variable {W wr w' : World} {s : Nat} {x pv av hv cv : Value} {ps A : List Int} {rows : Nat → List Int} {vs us : List Value}
theorem LkI.touch (h : LkI W wr s x pv av hv cv ps A rows vs us) (ht : Touch [] wr w') : LkI W w' s x pv av hv cv ps A rows vs us :=
  ⟨h.t.trans (ht.mono (by simp)), h.sl, h.obj.touch ht (by simp), h.p.touch ht (fun _ _ => by simp), h.a.touch ht (fun _ _ => by simp), h.h.touch ht (fun _ _ => by simp), h.c.touch ht (fun _ _ => by simp), h.ap, h.hp, h.cp, fun i hi => ⟨(h.r i hi).1.touch ht (fun _ _ => by simp), (h.r i hi).2⟩⟩
theorem LkI.start (ht : Touch [] W wr) (hs : s < W.heap.size) (ho : Blk wr s (stC x (.slice none 0 0) (.slice none 0 0) (.slice none 0 0) (.slice none 0 0)) 89) (hp : Qu wr W.heap.size 3 pv (ps.map (Value.int .i64))) :
    LkI W (wr.setCell ⟨s, 3, none⟩ pv) s x pv (.slice none 0 0) (.slice none 0 0) (.slice none 0 0) ps [] rows [] [] := by
  have t : Touch [s] wr (wr.setCell ⟨s, 3, none⟩ pv) := (Touch.refl [s] wr).setCell (by simp) _
  exact ⟨(ht.mono (by simp)).trans t, hs, ho.set 3 pv, hp.touch t (fun k hk hm => by have := (hp.own k hk).1; simp at hm; omega), Qu.nil _ _ _, Qu.nil _ _ _, Qu.nil _ _ _, fun k hk => by simp [Value.ownBlock] at hk, fun k hk => by simp [Value.ownBlock] at hk, fun k hk => by simp [Value.ownBlock] at hk, fun i hi => by simp at hi⟩
/-- What there is in all is laid. -/
theorem LkI.avail (h : LkI W wr s x pv (.slice none 0 0) (.slice none 0 0) (.slice none 0 0) ps [] rows [] []) {av' : Value} {A' : List Int} {w9 : World} (ht : Touch [] wr w9) (ha : Qu w9 wr.heap.size 3 av' (A'.map (Value.int .i64))) :
    LkI W (w9.setCell ⟨s, 4, none⟩ av') s x pv av' (.slice none 0 0) (.slice none 0 0) ps A' rows [] [] := by
  have h0 := h
  have h := h.touch ht
  have t : Touch [s] w9 (w9.setCell ⟨s, 4, none⟩ av') := (Touch.refl [s] w9).setCell (by simp) _
  have hWr : W.heap.size ≤ wr.heap.size := h0.t.size
  refine ⟨h.t.trans t, h.sl, h.obj.set 4 av', h.p.touch t (fun k hk hm => by have := (h.p.own k hk).1; have := h.sl; simp at hm; omega), (ha.mono hWr).touch t (fun k hk hm => by have := (ha.own k hk).1; have := h.sl; simp at hm; omega), Qu.nil _ _ _, Qu.nil _ _ _, fun k hk => ⟨fun e => ?_, by simp [Value.ownBlock], by simp [Value.ownBlock]⟩, fun k hk => by simp [Value.ownBlock] at hk, fun k hk => by simp [Value.ownBlock] at hk, fun i hi => by simp at hi⟩
  have h1 := (ha.own k hk).1
  have h2 := (h0.p.own k e).2
  omega
/-- One number of what there is turns. -/
theorem LkI.setAv (h : LkI W wr s x pv av hv cv ps A rows vs us) {k : Nat} (hk : k < A.length) : ∃ g off c, av = .slice (some ⟨g, off, none⟩) A.length c ∧ wr.cell? ⟨g, off + k, none⟩ = some (.int .i64 (A.getD k 0)) ∧ (∀ i, wr.frozen? ⟨g, i, none⟩ = false) ∧ W.heap.size ≤ g ∧ g < wr.heap.size ∧
    (∀ v zs, Qu wr W.heap.size 3 v zs → (∀ q, v.ownBlock = some q → av.ownBlock ≠ some q) → ∀ y, Qu (wr.setCell ⟨g, off + k, none⟩ (.int .i64 y)) W.heap.size 3 v zs) ∧ Touch [g] wr (wr.setCell ⟨g, off + k, none⟩ (.int .i64 0)) ∧
    ∀ y, LkI W (wr.setCell ⟨g, off + k, none⟩ (.int .i64 y)) s x pv av hv cv ps (A.set k y) rows vs us := by
  obtain ⟨g, off, c, e, hg, hgl, hf, hc, hset⟩ := h.a.setI k hk
  have hown : av.ownBlock = some g := by rw [e]; rfl
  have t : ∀ y, Touch [g] wr (wr.setCell ⟨g, off + k, none⟩ (.int .i64 y)) := fun y => (Touch.refl [g] wr).setCell (by simp) _
  obtain ⟨a1, a2, a3⟩ := h.ap g hown
  refine ⟨g, off, c, e, hc, hf, hg, hgl, fun v zs hv hq y => hv.touch (t y) (fun q hq' hm => hq q hq' (by simp at hm; rw [hm]; exact hown)), t 0, fun y => ⟨h.t.setNew hg _, h.sl, h.obj.other (by have := h.sl; simp; omega) _, h.p.touch (t y) (fun q hq hm => a1 (by simp at hm; rw [← hm]; exact hq)), hset y, h.h.touch (t y) (fun q hq hm => a2 (by simp at hm; rw [← hm]; exact hq)), h.c.touch (t y) (fun q hq hm => a3 (by simp at hm; rw [← hm]; exact hq)), h.ap, h.hp, h.cp, fun i hi => ⟨(h.r i hi).1.touch (t y) (fun q hq hm => by have := ((h.r i hi).2 q hq).1; simp at hm; rw [hm] at this; exact this hown), (h.r i hi).2⟩⟩⟩
end
/-- Two lists, to each of which one element is put: what was there first, what has been built for each. -/
structure Tw (W w : World) (base : Nat) (A0 B0 : List Nat) (va vb : Value) (xa xb : List Value) (ra rb : Value) (pa pb : Option Nat) : Prop where
  a : Qu w base 22 va xa
  b : Qu w base 22 vb xb
  d : ∀ k, va.ownBlock = some k → vb.ownBlock ≠ some k
  t : Touch (A0 ++ B0) W w
  na : ∀ k, va.ownBlock = some k → k ∈ A0 ∨ W.heap.size ≤ k
  nb : ∀ k, vb.ownBlock = some k → k ∈ B0 ∨ W.heap.size ≤ k
  ga : ∀ k, pa = some k → Blk w k #[ra] 22 ∧ W.heap.size ≤ k ∧ va.ownBlock ≠ some k ∧ vb.ownBlock ≠ some k
  gb : ∀ k, pb = some k → Blk w k #[rb] 22 ∧ W.heap.size ≤ k ∧ va.ownBlock ≠ some k ∧ vb.ownBlock ≠ some k
section
variable {W w : World} {base : Nat} {A0 B0 : List Nat} {va vb : Value} {xa xb : List Value} {ra rb : Value} {pa pb : Option Nat}
theorem Tw.start (ha : Qu W base 22 va xa) (hb : Qu W base 22 vb xb) (hd : ∀ k, va.ownBlock = some k → vb.ownBlock ≠ some k) : Tw W W.drew base va.ownBlock.toList vb.ownBlock.toList va vb xa xb ra rb none none :=
  ⟨ha, hb, hd, (Touch.refl _ _).drew, fun k hk => .inl (by simp [hk]), fun k hk => .inl (by simp [hk]), fun k h => (by cases h), fun k h => (by cases h)⟩
theorem Tw.alloc (h : Tw W w base A0 B0 va vb xa xb ra rb pa pb) (o : Obj) : Tw W (w.alloc o) base A0 B0 va vb xa xb ra rb pa pb :=
  ⟨h.a.alloc _, h.b.alloc _, h.d, h.t.alloc _, h.na, h.nb, fun k hk => ⟨(h.ga k hk).1.alloc _, (h.ga k hk).2⟩, fun k hk => ⟨(h.gb k hk).1.alloc _, (h.gb k hk).2⟩⟩
theorem Tw.bA (h : Tw W w base A0 B0 va vb xa xb ra rb none pb) {n : Nat} (hn : n = w.heap.size) : Tw W (w.alloc (.cells #[ra] 22)) base A0 B0 va vb xa xb ra rb (some n) pb := by
  have h1 := h.alloc (.cells #[ra] 22)
  refine ⟨h1.a, h1.b, h1.d, h1.t, h1.na, h1.nb, fun k hk => ?_, h1.gb⟩
  cases hk
  subst hn
  exact ⟨Blk.new rfl, h.t.size, fun e => by have := (h.a.own _ e).2; omega, fun e => by have := (h.b.own _ e).2; omega⟩
theorem Tw.bB (h : Tw W w base A0 B0 va vb xa xb ra rb pa none) {n : Nat} (hn : n = w.heap.size) : Tw W (w.alloc (.cells #[rb] 22)) base A0 B0 va vb xa xb ra rb pa (some n) := by
  have h1 := h.alloc (.cells #[rb] 22)
  refine ⟨h1.a, h1.b, h1.d, h1.t, h1.na, h1.nb, h1.ga, fun k hk => ?_⟩
  cases hk
  subst hn
  exact ⟨Blk.new rfl, h.t.size, fun e => by have := (h.a.own _ e).2; omega, fun e => by have := (h.b.own _ e).2; omega⟩
theorem Tw.swap (h : Tw W w base A0 B0 va vb xa xb ra rb pa pb) : Tw W w base B0 A0 vb va xb xa rb ra pb pa :=
  ⟨h.b, h.a, fun k hk e => h.d k e hk, h.t.mono (fun k hk => by rw [List.mem_append] at hk ⊢; exact hk.symm), h.nb, h.na, fun k hk => ⟨(h.gb k hk).1, (h.gb k hk).2.1, (h.gb k hk).2.2.2, (h.gb k hk).2.2.1⟩, fun k hk => ⟨(h.ga k hk).1, (h.ga k hk).2.1, (h.ga k hk).2.2.2, (h.ga k hk).2.2.1⟩⟩
theorem Tw.appA {k : Nat} (h : Tw W w base A0 B0 va vb xa xb ra rb (some k) pb) (hbase : base ≤ W.heap.size) (h1 : ra.oneCell' = true) (hl : xa.length ≤ 1000) (c : Nat) :
    ∃ v' w', (∀ ty, (Builtin.append_ #[45, 45] ty #[va, .slice (some ⟨k, 0, none⟩) 1 c]).run Tryz.prog w = .ok v' w') ∧ Tw W w' base A0 B0 v' vb (xa ++ [ra]) xb ra rb none pb := by
  obtain ⟨i0, hi, hz0, hz1, hz2⟩ := infoR
  obtain ⟨g1, g2, g3, g4⟩ := h.ga k rfl
  obtain ⟨v', w', hr, hq, hg, hn⟩ := h.a.append (t := 45) Tryz.underlying45 hi hz0 hz1 hz2 rfl (Nat.le_trans hbase h.t.size) ⟨k, 0, none⟩ c ra (g1.cell (i := 0) rfl) h1 (by omega) (by omega)
  have ht : Touch va.ownBlock.toList w w' := (Touch.refl _ w).grown hg (fun q hq _ => Option.mem_toList.2 hq)
  refine ⟨v', w', hr, hq, h.b.touch ht (fun q hq hm => h.d q (Option.mem_toList.1 hm) hq), fun q hq e => ?_, h.t.transF ht (fun q hq hlt => by rcases h.na q (Option.mem_toList.1 hq) with e | e; exact List.mem_append.2 (.inl e); omega), fun q hq => ?_, h.nb, fun q hq => (by cases hq), fun q hq => ?_⟩
  · rcases hn q hq with n | n
    · exact h.d q n e
    · have := (h.b.own q e).2; omega
  · rcases hn q hq with n | n
    · exact h.na q n
    · have := h.t.size; exact .inr (by omega)
  · obtain ⟨b1, b2, b3, b4⟩ := h.gb q hq
    refine ⟨b1.touch ht (fun hm => b3 (Option.mem_toList.1 hm)), b2, fun e => ?_, b4⟩
    rcases hn q e with n | n
    · exact b3 n
    · have := b1.lt; omega
theorem Tw.appB {k : Nat} (h : Tw W w base A0 B0 va vb xa xb ra rb pa (some k)) (hbase : base ≤ W.heap.size) (h1 : rb.oneCell' = true) (hl : xb.length ≤ 1000) (c : Nat) :
    ∃ v' w', (∀ ty, (Builtin.append_ #[45, 45] ty #[vb, .slice (some ⟨k, 0, none⟩) 1 c]).run Tryz.prog w = .ok v' w') ∧ Tw W w' base A0 B0 va v' xa (xb ++ [rb]) ra rb pa none := by
  obtain ⟨v', w', hr, h2⟩ := h.swap.appA hbase h1 hl c
  exact ⟨v', w', hr, h2.swap⟩
/-- The steps. -/
theorem step_twA {ops : Array Oper} {o : Oper} {a : Act} {K : Act → World → Prop} {Q : Exit → Act → World → Prop} {E : Prop} {k c : Nat} (hgd : o.guard = none) (s x : Operand)
    (ho : o.op = .call { callee := .builtin .append, args := #[s, x], argTypes := #[45, 45] }) (hs : a.eval s = va) (hx : a.eval x = .slice (some ⟨k, 0, none⟩) 1 c) (h : Tw W w base A0 B0 va vb xa xb ra rb (some k) pb) (hbase : base ≤ W.heap.size) (h1 : ra.oneCell' = true) (hl : xa.length ≤ 1000)
    (hk : ∀ v' w', Tw W w' base A0 B0 v' vb (xa ++ [ra]) xb ra rb none pb → K (a.put o.dst v') w') : if Region.wanted o (yielded ops a.tmps) = true then Oper.wp Tryz.prog o a w K Q else E := by
  have hw : Region.wanted o (yielded ops a.tmps) = true := by simp [Region.wanted, hgd]
  rw [if_pos hw]
  obtain ⟨v', w', hr, h2⟩ := h.appA hbase h1 hl c
  have hr' := hr o.type
  unfold Oper.wp execOp
  simp only [ho, resolve, invoke, builtin, Sem.run_bind, Sem.run_pure, Result.andThen_ok, List.map_toArray, List.map_cons, List.map_nil, hs, hx, hr']
  exact hk v' w' h2
theorem step_twB {ops : Array Oper} {o : Oper} {a : Act} {K : Act → World → Prop} {Q : Exit → Act → World → Prop} {E : Prop} {k c : Nat} (hgd : o.guard = none) (s x : Operand)
    (ho : o.op = .call { callee := .builtin .append, args := #[s, x], argTypes := #[45, 45] }) (hs : a.eval s = vb) (hx : a.eval x = .slice (some ⟨k, 0, none⟩) 1 c) (h : Tw W w base A0 B0 va vb xa xb ra rb pa (some k)) (hbase : base ≤ W.heap.size) (h1 : rb.oneCell' = true) (hl : xb.length ≤ 1000)
    (hk : ∀ v' w', Tw W w' base A0 B0 va v' xa (xb ++ [rb]) ra rb pa none → K (a.put o.dst v') w') : if Region.wanted o (yielded ops a.tmps) = true then Oper.wp Tryz.prog o a w K Q else E := by
  have hw : Region.wanted o (yielded ops a.tmps) = true := by simp [Region.wanted, hgd]
  rw [if_pos hw]
  obtain ⟨v', w', hr, h2⟩ := h.appB hbase h1 hl c
  have hr' := hr o.type
  unfold Oper.wp execOp
  simp only [ho, resolve, invoke, builtin, Sem.run_bind, Sem.run_pure, Result.andThen_ok, List.map_toArray, List.map_cons, List.map_nil, hs, hx, hr']
  exact hk v' w' h2
end
/-- Both lists have one more: the state goes on. -/
theorem LkI.both {W wr w' : World} {s : Nat} {x pv av hv cv hv' cv' ra rb : Value} {ps A : List Int} {rows : Nat → List Int} {vs us : List Value} (h : LkI W wr s x pv av hv cv ps A rows vs us) (ht : Tw wr w' W.heap.size hv.ownBlock.toList cv.ownBlock.toList hv' cv' (vs ++ [ra]) (us ++ [rb]) ra rb none none)
    (hr : Qu wr W.heap.size 3 ra ((rows vs.length).map (Value.int .i64))) (hra : ∀ k, ra.ownBlock = some k → av.ownBlock ≠ some k ∧ hv.ownBlock ≠ some k ∧ cv.ownBlock ≠ some k) :
    LkI W ((w'.setCell ⟨s, 5, none⟩ hv').setCell ⟨s, 6, none⟩ cv') s x pv av hv' cv' ps A rows (vs ++ [ra]) (us ++ [rb]) := by
  have ts : Touch [s] w' ((w'.setCell ⟨s, 5, none⟩ hv').setCell ⟨s, 6, none⟩ cv') := ((Touch.refl [s] w').setCell (by simp) _).setCell (by simp) _
  have hs0 := h.sl
  have nos : ∀ k, k ∈ hv.ownBlock.toList ++ cv.ownBlock.toList → W.heap.size ≤ k ∧ (hv.ownBlock = some k ∨ cv.ownBlock = some k) := fun k hk => by
    rcases List.mem_append.1 hk with hk | hk
    · exact ⟨(h.h.own k (Option.mem_toList.1 hk)).1, .inl (Option.mem_toList.1 hk)⟩
    · exact ⟨(h.c.own k (Option.mem_toList.1 hk)).1, .inr (Option.mem_toList.1 hk)⟩
  have kp : ∀ {v : Value} {e : TypeId} {zs : List Value}, Qu wr W.heap.size e v zs → (∀ k, v.ownBlock = some k → hv.ownBlock ≠ some k ∧ cv.ownBlock ≠ some k) → Qu ((w'.setCell ⟨s, 5, none⟩ hv').setCell ⟨s, 6, none⟩ cv') W.heap.size e v zs := fun {v e zs} hq hn =>
    (hq.touch ht.t (fun k hk hm => by rcases (nos k hm).2 with q | q; exact (hn k hk).1 q; exact (hn k hk).2 q)).touch ts (fun k hk hm => by have := (hq.own k hk).1; simp at hm; omega)
  have own' : ∀ k, hv'.ownBlock = some k → hv.ownBlock = some k ∨ wr.heap.size ≤ k := fun k hk => by rcases ht.na k hk with q | q; exact .inl (Option.mem_toList.1 q); exact .inr q
  have own2 : ∀ k, cv'.ownBlock = some k → cv.ownBlock = some k ∨ wr.heap.size ≤ k := fun k hk => by rcases ht.nb k hk with q | q; exact .inl (Option.mem_toList.1 q); exact .inr q
  have away : ∀ {v : Value} {e : TypeId} {zs : List Value}, Qu wr W.heap.size e v zs → (∀ k, v.ownBlock = some k → hv.ownBlock ≠ some k ∧ cv.ownBlock ≠ some k) → ∀ k, v.ownBlock = some k → hv'.ownBlock ≠ some k ∧ cv'.ownBlock ≠ some k := fun {v e zs} hq hn k hk => by
    have hlt := (hq.own k hk).2
    exact ⟨fun q => by rcases own' k q with q | q; exact (hn k hk).1 q; omega, fun q => by rcases own2 k q with q | q; exact (hn k hk).2 q; omega⟩
  have hpv : ∀ k, pv.ownBlock = some k → hv.ownBlock ≠ some k ∧ cv.ownBlock ≠ some k := fun k hk => ⟨fun e => (h.hp k e).1 hk, fun e => h.cp k e hk⟩
  have hav : ∀ k, av.ownBlock = some k → hv.ownBlock ≠ some k ∧ cv.ownBlock ≠ some k := fun k hk => (h.ap k hk).2
  refine ⟨(h.t.transF ht.t (fun k hk hl => by have := (nos k hk).1; omega)).trans ts, h.sl, ((h.obj.touch ht.t (fun hm => by have := (nos s hm).1; omega)).set 5 hv').set 6 cv', kp h.p hpv, kp h.a hav, ht.a.touch ts (fun k hk hm => ?_), ht.b.touch ts (fun k hk hm => ?_), fun k hk => ⟨(h.ap k hk).1, away h.a hav k hk⟩, fun k hk => ⟨fun e => (away h.p hpv k e).1 hk, ht.d k hk⟩, fun k hk e => (away h.p hpv k e).2 hk, fun i hi => ?_⟩
  · have := (ht.a.own k hk).1; simp at hm; omega
  · have := (ht.b.own k hk).1; simp at hm; omega
  · rw [List.length_append, List.length_singleton] at hi
    by_cases e : i < vs.length
    · rw [show (vs ++ [ra]).getD i (.slice none 0 0) = vs.getD i (.slice none 0 0) from by rw [List.getD_eq_getElem?_getD, List.getD_eq_getElem?_getD, List.getElem?_append_left e]]
      obtain ⟨r1, r2⟩ := h.r i e
      exact ⟨kp r1 (fun k hk => (r2 k hk).2), fun k hk => ⟨(r2 k hk).1, away r1 (fun k hk => (r2 k hk).2) k hk⟩⟩
    · obtain rfl : i = vs.length := by omega
      rw [show (vs ++ [ra]).getD vs.length (.slice none 0 0) = ra from by rw [List.getD_eq_getElem?_getD, List.getElem?_append_right (Nat.le_refl _)]; simp]
      exact ⟨kp hr (fun k hk => (hra k hk).2), fun k hk => ⟨(hra k hk).1, away hr (fun k hk => (hra k hk).2) k hk⟩⟩
/-- Between: some numbers have been taken off. -/
def partS (A h : List Int) (j : Nat) : List Int := (List.range A.length).map fun c => if c < j then A.getD c 0 - h.getD c 0 else A.getD c 0
theorem partS_length (A h : List Int) (j : Nat) : (partS A h j).length = A.length := by simp [partS]
theorem partS_zero (A h : List Int) : partS A h 0 = A := by
  apply List.ext_getElem?
  intro k
  by_cases hk : k < A.length
  · simp [partS, hk]
  · rw [List.getElem?_eq_none (by rw [partS_length]; omega), List.getElem?_eq_none (by omega)]
theorem partS_all (A h : List Int) : partS A h A.length = subW A h := by
  unfold partS subW
  apply List.map_congr_left
  intro k hk
  rw [if_pos (List.mem_range.1 hk)]
theorem partS_get (A h : List Int) (j : Nat) (hj : j < A.length) : (partS A h j).getD j 0 = A.getD j 0 := by simp [partS, hj]
theorem partS_set (A h : List Int) (j : Nat) : (partS A h j).set j (A.getD j 0 - h.getD j 0) = partS A h (j + 1) := by
  apply List.ext_getElem?
  intro k
  by_cases hk : k < A.length
  · by_cases e : j = k
    · subst e
      simp [partS, hk]
    · rw [List.getElem?_set_ne e]
      simp only [partS, List.getElem?_map, List.getElem?_range hk, Option.map_some]
      by_cases h2 : k < j
      · rw [if_pos h2, if_pos (by omega)]
      · rw [if_neg h2, if_neg (by omega)]
  · rw [List.getElem?_eq_none (by simp [partS]; omega), List.getElem?_eq_none (by simp [partS]; omega)]
theorem avlL_nil (tot : List Int) (held : Int → List Int) : avlL tot [] held = tot := by
  apply List.ext_getElem?
  intro k
  by_cases hk : k < tot.length
  · simp [avlL, hk, sumF]
  · rw [List.getElem?_eq_none (by rw [avlL_length]; omega), List.getElem?_eq_none (by omega)]
theorem take_snocA {l : List Int} {k : Nat} (hk : k < l.length) : l.take (k + 1) = l.take k ++ [l.getD k 0] := by
  rw [List.take_add_one, List.getElem?_eq_getElem hk, List.getD_eq_getElem?_getD, List.getElem?_eq_getElem hk]
  rfl
theorem avlL_step {tot ps : List Int} {held : Int → List Int} {k : Nat} (hk : k < ps.length) : subW (avlL tot (ps.take k) held) (held (ps.getD k 0)) = avlL tot (ps.take (k + 1)) held := by
  rw [take_snocA hk]
  unfold subW
  rw [avlL_length]
  conv => rhs; unfold avlL
  apply List.map_congr_left
  intro c hc
  rw [List.mem_range] at hc
  rw [avlL_get _ _ _ hc, sumF_snoc]
  omega
theorem Am.Ok.take_bd {m : Am} (h : m.Ok) {k c : Nat} (hc : c < m.tot.length) : 0 ≤ (avlL m.tot (m.ps.take k) m.held).getD c 0 ∧ (avlL m.tot (m.ps.take k) m.held).getD c 0 ≤ 1000 := by
  have h1 := sumF_sub (f := fun q => (m.held q).getD c 0) (fun q => h.h0 q c) (m.ps.take k) m.ps ((rise_nd h.rise).sublist (List.take_sublist _ _)) (fun i hi => List.mem_of_mem_take hi)
  have h2 := sumF_nonneg (f := fun q => (m.held q).getD c 0) (fun q => h.h0 q c) (m.ps.take k)
  have h3 := h.av c hc
  have h4 := h.tb c hc
  unfold Am.avl at h3
  rw [avlL_get _ _ _ hc] at h3 ⊢
  omega
end Go.Proofs.YticglfmmjgnicaaGreat

set_option linter.unusedVariables false
namespace Go.Proofs.YticglfmmjgnicaaGreat
open Go Go.RowKit

section
variable {P : Program} {ops : Array Oper} {Q : Exit → Act → World → Prop} {md : Region.Mode} {S T : World → Prop} {st : List Nat}
def freshT (st : List Nat) (listed : Array Bool) : Bool := st.all fun k => !listed.getD k true
/-- Operation k waits for i, by whichever others. -/
def waits (md : Region.Mode) (ops : Array Oper) : Nat → Nat → Nat → Bool
  | 0, _, _ => false
  | f + 1, k, i => match ops[k]? with
    | some o => o.after.any fun e => Region.binds md e && (e.on == i || waits md ops f e.on i)
    | none => false
def waitT (md : Region.Mode) (ops : Array Oper) (st : List Nat) (i : Nat) : Bool := st.all fun k => waits md ops 8 k i
/-- What has come up has come up behind all that it waits for. -/
def shutT (md : Region.Mode) (ops : Array Oper) (l : Array Bool) : Bool := (List.range ops.size).all fun k => !l.getD k false || match ops[k]? with
  | some o => o.after.all fun e => !Region.binds md e || l.getD e.on false
  | none => true
theorem shutT_at {l : Array Bool} (h : shutT md ops l = true) {k : Nat} {o : Oper} (ho : ops[k]? = some o) (hk : l.getD k false = true) {e : Edge} (he : e ∈ o.after) (hb : Region.binds md e = true) : l.getD e.on false = true := by
  have hlt : k < ops.size := by
    rcases Nat.lt_or_ge k ops.size with h' | h'
    · exact h'
    · rw [Array.getElem?_eq_none h'] at ho; cases ho
  have h1 := List.all_eq_true.1 h k (List.mem_range.2 hlt)
  rw [hk, ho] at h1
  simp only [Bool.not_true, Bool.false_or] at h1
  have h2 := Array.all_eq_true'.1 h1 e he
  rw [hb] at h2
  simpa using h2
theorem waits_not {l : Array Bool} (h : shutT md ops l = true) {i : Nat} (hi : l.getD i false = false) : ∀ (f k : Nat), waits md ops f k i = true → l.getD k false = false
  | 0, _, hw => by cases hw
  | f + 1, k, hw => by
    unfold waits at hw
    cases ho : ops[k]? with
    | none => rw [ho] at hw; cases hw
    | some o =>
      rw [ho] at hw
      obtain ⟨e, he, h2⟩ := Array.any_eq_true'.1 hw
      rw [Bool.and_eq_true, Bool.or_eq_true] at h2
      cases hk : l.getD k false with
      | false => rfl
      | true =>
        have h3 := shutT_at h ho hk he h2.1
        rcases h2.2 with h4 | h4
        · rw [show e.on = i by simpa using h4, hi] at h3; cases h3
        · rw [waits_not h hi f e.on h4] at h3; cases h3
theorem shutT_set {l : Array Bool} (h : shutT md ops l = true) {j : Nat} (hj : j ∈ Region.ready md ops l) : shutT md ops (l.setIfInBounds j true) = true := by
  refine List.all_eq_true.2 fun k hk => ?_
  obtain ⟨_, oj, hoj, hall⟩ := mem_ready.1 hj
  cases ho : ops[k]? with
  | none => simp
  | some o =>
    by_cases hkj : k = j
    · subst hkj
      rw [ho] at hoj
      cases hoj
      simp only [Bool.or_eq_true]
      refine .inr (Array.all_eq_true'.2 fun e he => ?_)
      cases hb : Region.binds md e with
      | false => rfl
      | true => simp [getD_set_true (hall e he hb)]
    · cases hl : l.getD k false with
      | false => rw [getD_set_ne false (Ne.symm hkj), hl]; rfl
      | true =>
        simp only [Bool.or_eq_true]
        refine .inr (Array.all_eq_true'.2 fun e he => ?_)
        cases hb : Region.binds md e with
        | false => rfl
        | true => simp [getD_set_true (shutT_at h ho hl he hb)]
theorem freshT_set {l : Array Bool} {j : Nat} (h : freshT st l = true) (hj : j ∉ st) : freshT st (l.setIfInBounds j true) = true := by
  refine List.all_eq_true.2 fun k hk => ?_
  have := List.all_eq_true.1 h k hk
  rw [getD_set_ne true (fun e => hj (by rw [e]; exact hk))]
  exact this
theorem unlisted {i : Nat} {l : Array Bool} (hr : i ∈ Region.ready md ops l) : l.getD i false = false := by
  have h0 := (mem_ready.1 hr).1
  rcases Nat.lt_or_ge i l.size with h' | h'
  · simpa [h'] using h0
  · simp [Array.getElem?_eq_none h'] at h0
theorem not_waits {i j : Nat} {l : Array Bool} (hsh : shutT md ops l = true) (hw : waitT md ops st i = true) (hr : i ∈ Region.ready md ops l) (hj : j ∈ Region.ready md ops l) : j ∉ st := fun hm => by
  have h1 := List.all_eq_true.1 hw j hm
  unfold waits at h1
  obtain ⟨_, o, ho, hall⟩ := mem_ready.1 hj
  rw [ho] at h1
  obtain ⟨e, he, h2⟩ := Array.any_eq_true'.1 h1
  rw [Bool.and_eq_true, Bool.or_eq_true] at h2
  have h3 := hall e he h2.1
  rcases h2.2 with h4 | h4
  · rw [show e.on = i by simpa using h4, unlisted hr] at h3; cases h3
  · rw [waits_not hsh (unlisted hr) _ _ h4] at h3; cases h3
/-- In whatever order: S holds behind each operation, T until one of st has come up. -/
def wpTill (P : Program) (md : Region.Mode) (ops : Array Oper) (Q : Exit → Act → World → Prop) (S T : World → Prop) (st : List Nat) : Nat → Array Bool → Act → World → Prop
  | 0, l, a, w => Region.ready md ops l = [] ∧ Q .normal a w
  | f + 1, l, a, w => (Region.ready md ops l = [] → Q .normal a w) ∧ ∀ i ∈ Region.ready md ops l, wpOp P ops Q i (fun a' w' => (S w' ∧ (freshT st (l.setIfInBounds i true) = true → T w')) ∧ wpTill P md ops Q S T st f (l.setIfInBounds i true) a' w') a w
theorem wpTill.any : ∀ (f : Nat) (l : Array Bool) (a : Act) (w : World), wpTill P md ops Q S T st f l a w → wpAny P md ops Q f l a w
  | 0, _, _, _, h => h
  | f + 1, _, _, _, h => ⟨h.1, fun i hi => wpOp_mono (fun a' w' k => wpTill.any f _ a' w' k.2) (h.2 i hi)⟩
/-- What one operation yields, under U: U is S, or it is T and the stores wait for it. -/
theorem wpTill.first {U : World → Prop} {i : Nat} {oi : Oper} {v : Value} (hi : ops[i]? = some oi) (hsel : ∀ (j : Nat) (o : Oper) cs b, ops[j]? = some o → o.op ≠ .select cs b)
    (hQ : ∀ c a w, Q (.panic c) (a.put oi.dst v) w → Q (.panic c) a w) (his : i ∉ st) (hU : (∀ w, S w → U w) ∨ ((∀ w, T w → U w) ∧ waitT md ops st i = true)) :
    ∀ (f : Nat) (l : Array Bool) (a : Act) (w : World),
      (∀ j oj, ops[j]? = some oj → j ≠ i → l.getD j true = false → (∀ e ∈ oj.after, Region.binds md e = true → e.on ≠ i) → oi.apart ops oj = true) →
      i ∈ Region.ready md ops l → YieldsIf P ops U oi v a → S w → (freshT st l = true → T w) → shutT md ops l = true → (waitT md ops st i = true → freshT st l = true) →
      wpTill P md ops Q S T st f (l.setIfInBounds i true) (a.put oi.dst v) w → wpTill P md ops Q S T st (f + 1) l a w := by
  have use : ∀ w, S w → (waitT md ops st i = true → T w) → U w := fun w hS hT => by
    rcases hU with h | ⟨h, hw⟩
    · exact h w hS
    · exact h w (hT hw)
  have back : ∀ {l : Array Bool}, freshT st (l.setIfInBounds i true) = true → freshT st l = true := fun {l} hfr => List.all_eq_true.2 fun k hk => by
    have := List.all_eq_true.1 hfr k hk
    rw [getD_set_ne true (fun e => his (by rw [e]; exact hk))] at this
    exact this
  intro f
  induction f with
  | zero =>
    intro l a w _ hr hy hS hT hsh hf H
    refine ⟨fun h => (by rw [h] at hr; cases hr), fun j hj => ?_⟩
    by_cases hji : j = i
    · subst hji
      exact hy.wpOp hi (use w hS fun hw => hT (hf hw)) ⟨⟨hS, fun hfr => hT (back hfr)⟩, H⟩
    · have := ready_mono hj hji
      rw [H.1] at this
      cases this
  | succ f ih =>
    intro l a w hfree hr hy hS hT hsh hf H
    refine ⟨fun h => (by rw [h] at hr; cases hr), fun j hj => ?_⟩
    by_cases hji : j = i
    · subst hji; exact hy.wpOp hi (use w hS fun hw => hT (hf hw)) ⟨⟨hS, fun hfr => hT (back hfr)⟩, H⟩
    · have h1 := H.2 j (ready_mono hj hji)
      obtain ⟨hjun, oj, hoj, hall⟩ := mem_ready.1 hj
      have hnot : ∀ e ∈ oj.after, Region.binds md e = true → e.on ≠ i := fun e he hb heq => by
        have h1 := hall e he hb
        rw [heq, unlisted hr] at h1
        cases h1
      have h2 := wpOp_putIf hoj (hfree j oj hoj hji hjun hnot) (fun cs b => hsel i oi cs b hi) (fun cs b => hsel j oj cs b hoj) hQ hy h1
      have sh2 : shutT md ops (l.setIfInBounds j true) = true := shutT_set hsh hj
      have fr2 : waitT md ops st i = true → freshT st (l.setIfInBounds j true) = true := fun hw => freshT_set (hf hw) (not_waits hsh hw hr hj)
      have fij : freshT st (l.setIfInBounds j true) = true → freshT st ((l.setIfInBounds i true).setIfInBounds j true) = true := fun h => by
        rw [Array.setIfInBounds_comm _ _ (Ne.symm hji)]
        exact freshT_set h his
      have hfree' : ∀ k ok, ops[k]? = some ok → k ≠ i → (l.setIfInBounds j true).getD k true = false →
          (∀ e ∈ ok.after, Region.binds md e = true → e.on ≠ i) → oi.apart ops ok = true := fun k ok hk hki hun hno => by
        refine hfree k ok hk hki ?_ hno
        by_cases hjk : j = k
        · subst hjk; exact hjun
        · rw [getD_set_ne true hjk] at hun; exact hun
      refine wpOp_mono (fun a' w' h3 => ⟨⟨h3.2.1.1, fun hfr => h3.2.1.2 (fij hfr)⟩, ih (l.setIfInBounds j true) a' w' hfree' (ready_mono hr (Ne.symm hji)) h3.1 h3.2.1.1 (fun hfr => h3.2.1.2 (fij hfr)) sh2 fr2 ?_⟩) h2
      rw [Array.setIfInBounds_comm _ _ hji]
      exact h3.2.2
theorem wpTill.takeT {i : Nat} {oi : Oper} {v : Value} {f : Nat} {l : Array Bool} {a : Act} {w : World} (d : Option Tmp) (hi0 : ops.toList[i]? = some oi) (hd : oi.dst = d)
    (hc : (Region.noSelect ops && (Region.free md ops l i && ((Region.ready md ops l).contains i && (waitT md ops st i && (freshT st l && (shutT md ops l && !st.contains i)))))) = true)
    (hQ : ∀ c a w, Q (.panic c) (a.put d v) w → Q (.panic c) a w) (hy : YieldsIf P ops T oi v a) (hS : S w ∧ T w)
    (h : wpTill P md ops Q S T st f (l.setIfInBounds i true) (a.put d v) w) : wpTill P md ops Q S T st (f + 1) l a w := by
  have hi : ops[i]? = some oi := by rw [← Array.getElem?_toList]; exact hi0
  subst hd
  simp only [Bool.and_eq_true] at hc
  obtain ⟨c1, c2, c3, c4, c5, c6, c7⟩ := hc
  exact wpTill.first (U := T) hi (Region.noSelect_spec c1) hQ (by simpa using c7) (.inr ⟨fun _ h => h, c4⟩) f l a w (Region.free_spec hi c2) (by simpa using c3) hy hS.1 (fun _ => hS.2) c6 (fun _ => c5) h
theorem wpTill.takeS {i : Nat} {oi : Oper} {v : Value} {f : Nat} {l : Array Bool} {a : Act} {w : World} (d : Option Tmp) (hi0 : ops.toList[i]? = some oi) (hd : oi.dst = d)
    (hc : (Region.noSelect ops && (Region.free md ops l i && ((Region.ready md ops l).contains i && (shutT md ops l && (!st.contains i && (!waitT md ops st i || freshT st l)))))) = true)
    (hQ : ∀ c a w, Q (.panic c) (a.put d v) w → Q (.panic c) a w) (hy : YieldsIf P ops S oi v a) (hS : S w) (hT : freshT st l = true → T w)
    (h : wpTill P md ops Q S T st f (l.setIfInBounds i true) (a.put d v) w) : wpTill P md ops Q S T st (f + 1) l a w := by
  have hi : ops[i]? = some oi := by rw [← Array.getElem?_toList]; exact hi0
  subst hd
  simp only [Bool.and_eq_true] at hc
  obtain ⟨c1, c2, c3, c6, c7, c8⟩ := hc
  exact wpTill.first (U := S) hi (Region.noSelect_spec c1) hQ (by simpa using c7) (.inl fun _ h => h) f l a w (Region.free_spec hi c2) (by simpa using c3) hy hS hT c6 (fun hw => by rw [hw] at c8; simpa using c8) h
/-- Each of rs comes up next. -/
def AllTill (P : Program) (md : Region.Mode) (ops : Array Oper) (Q : Exit → Act → World → Prop) (S T : World → Prop) (st : List Nat) (f : Nat) (l : Array Bool) (a : Act) (w : World) (rs : List Nat) : Prop :=
  ∀ i ∈ rs, wpOp P ops Q i (fun a' w' => (S w' ∧ (freshT st (l.setIfInBounds i true) = true → T w')) ∧ wpTill P md ops Q S T st f (l.setIfInBounds i true) a' w') a w
theorem AllTill.nil {f : Nat} {l : Array Bool} {a : Act} {w : World} : AllTill P md ops Q S T st f l a w [] := fun _ h => by cases h
theorem AllTill.cons {f : Nat} {l : Array Bool} {a : Act} {w : World} {i : Nat} {o : Oper} {rs : List Nat} (ho : ops.toList[i]? = some o)
    (h : ∀ K' : Act → World → Prop, Shut (∀ a w, S w → (freshT st (l.setIfInBounds i true) = true → T w) → wpTill P md ops Q S T st f (l.setIfInBounds i true) a w → K' a w) → if Region.wanted o (yielded ops a.tmps) = true then Oper.wp P o a w K' Q else K' (a.put o.dst undef) w)
    (hs : AllTill P md ops Q S T st f l a w rs) : AllTill P md ops Q S T st f l a w (i :: rs) := fun j hj => by
  rcases List.mem_cons.1 hj with rfl | hj
  · exact wpOp_step (by rw [← Array.getElem?_toList]; exact ho) (fun K' hK => h K' (fun a w hS hT hW => hK a w ⟨⟨hS, hT⟩, hW⟩))
  · exact hs j hj
theorem wpTill.ready {rs : List Nat} {f : Nat} {l : Array Bool} {a : Act} {w : World} (hr : Region.ready md ops l = rs) (hne : rs ≠ []) (h : AllTill P md ops Q S T st f l a w rs) : wpTill P md ops Q S T st (f + 1) l a w :=
  ⟨fun h0 => absurd (hr ▸ h0) hne, hr ▸ h⟩
theorem wpTill.done {l : Array Bool} {a : Act} {w : World} (hr : Region.ready md ops l = []) (h : Q .normal a w) : ∀ f, wpTill P md ops Q S T st f l a w
  | 0 => ⟨hr, h⟩
  | _ + 1 => ⟨fun _ => h, by rw [hr]; simp⟩
theorem wp_region_till {id : Nat} {a : Act} {w : World} (S T : World → Prop) (st : List Nat) (hm : P.follows .mixedOrders = true) (h : wpTill P .any ops Q S T st ops.size (Array.replicate ops.size false) a w.drew) : (Code.region id ops true).wp P Q a w :=
  wp_region_any hm (wpTill.any _ _ _ _ h)
end
end Go.Proofs.YticglfmmjgnicaaGreat

set_option linter.unusedVariables false
namespace Go.Proofs.YticglfmmjgnicaaGreat
open Go Go.RowKit

/-- What the loads of the last statement of a round find. -/
def LF (w : World) (qa qn b s : Nat) (bc : Nat) (q : Int) (hv cv cl : Value) : Prop :=
  w.cell? ⟨qa, 0, none⟩ = some (.pointer (some ⟨b, 0, none⟩)) ∧ w.cell? ⟨qn, 0, none⟩ = some (.pointer (some ⟨s, 0, none⟩)) ∧ w.cell? ⟨b, 2, none⟩ = some (.map (some bc)) ∧ w.cell? ⟨s, 5, none⟩ = some hv ∧ w.cell? ⟨s, 6, none⟩ = some cv ∧ (∀ k, w.frozen? ⟨s, k, none⟩ = false) ∧
  (Instr.lookup 69 (.map (some bc)) (.int .i64 q) false).run Tryz.prog w = .ok cl w ∧ (Instr.lookup 69 (.map (some bc)) (.int .i64 q) false).run Tryz.prog w.drew = .ok cl w.drew
theorem LF.of {W w : World} {F : List Nat} {b s qa qn : Nat} {m : Am} {p : PaP} {x pv av hv cv cl : Value} {q : Int} {T : List Nat} (hp : Pb W F b m p) (ha : Blk W qa #[.pointer (some ⟨b, 0, none⟩)] 26) (hn : Blk W qn #[.pointer (some ⟨s, 0, none⟩)] 71)
    (hs : Blk W s (stC x pv av hv cv) 89) (hc : p.mc q = some cl) (ht : Touch T W w) (hT : ∀ k, k ∈ T → k ≠ s ∧ k ≠ qa ∧ k ≠ qn ∧ k ≠ b ∧ k ≠ p.bc) : LF w qa qn b s p.bc q hv cv cl := by
  have hm := hp.mc.touch ht (fun hm => (hT _ hm).2.2.2.2 rfl)
  have h1 := hs.touch ht (fun hm => (hT _ hm).1 rfl)
  refine ⟨(ha.touch ht (fun hm => (hT _ hm).2.1 rfl)).cell (i := 0) rfl, (hn.touch ht (fun hm => (hT _ hm).2.2.1 rfl)).cell (i := 0) rfl, (hp.obj.touch ht (fun hm => (hT _ hm).2.2.2.1 rfl)).cell (i := 2) rfl, h1.cell (i := 5) rfl, h1.cell (i := 6) rfl, h1.free, ?_, ?_⟩
  · have := hm.lookR q; rw [hc] at this; exact this
  · have := (show Mp (Value.int .i64) w.drew p.bc p.mc m.ps.length from hm).lookR q; rw [hc] at this; exact this
set_option maxRecDepth 100000 in
set_option maxHeartbeats 16000000 in
theorem lk_any (W : World) (F : List Nat) (b s qa qn : Nat) (m : Am) (p : PaP) (x : Value) (hp : Pb W F b m p) (ok : m.Ok) (ha : Blk W qa #[.pointer (some ⟨b, 0, none⟩)] 26) (hn : Blk W qn #[.pointer (some ⟨s, 0, none⟩)] 71)
    (hs : Blk W s (stC x (.slice none 0 0) (.slice none 0 0) (.slice none 0 0) (.slice none 0 0)) 89) (sF : s ∉ F) (sa : qa ≠ s) (sn : qn ≠ s) :
    Calls Tryz.prog 78 #[.pointer (some ⟨qa, 0, none⟩), .pointer (some ⟨qn, 0, none⟩)] W fun e w' => e = .returned (.tuple #[]) ∧ ∃ pv av hv cv vs us, LkI W w' s x pv av hv cv m.ps m.avl (fun i => m.held (m.ps.getD i 0)) vs us ∧ vs.length = m.ps.length ∧ us.length = m.ps.length ∧ ∀ i, i < m.ps.length → p.mc (m.ps.getD i 0) = some (us.getD i (.slice none 0 0)) := by
  have HP := Lib.hid hp
  have HOK := Lib.hid ok
  have HA := Lib.hid ha
  have HN := Lib.hid hn
  have HS := Lib.hid hs
  have bF : b ∈ F := hp.fw b (by simp [PaP.W])
  have cF : p.bc ∈ F := hp.fw p.bc (by simp [PaP.W])
  have hbs : b ≠ s := fun e => sF (e ▸ bF)
  have HD : Hid ((s ∉ F ∧ b ≠ s) ∧ qa ≠ s ∧ qn ≠ s) := Lib.hid ⟨⟨sF, hbs⟩, sa, sn⟩
  have HLT : Hid (s < W.heap.size ∧ qa < W.heap.size ∧ qn < W.heap.size ∧ b < W.heap.size ∧ p.bc < W.heap.size) := Lib.hid ⟨hs.lt, ha.lt, hn.lt, hp.lt b bF, hp.lt _ cF⟩
  obtain ⟨ta, tc, htv⟩ := hp.tot.1.form
  have HTO : Hid (∀ T w', Touch T W w' → (∀ k, k ∈ T → k ∉ F) → Sl w' p.tv m.tot) := Lib.hid (fun T w' h hT => HP.out.tot.1.touch h (fun k hk hm => hT k hm (HP.out.tot.2 k hk).1))
  obtain ⟨n, hnn⟩ : ∃ n, m.tot.length = n := ⟨_, rfl⟩
  rw [hnn] at htv
  rw [htv] at HTO
  have HTV := Lib.hid htv
  have HNN := Lib.hid hnn
  have HN6 : Hid (n ≤ 6) := Lib.hid (by rw [← hnn]; exact ok.nt)
  obtain ⟨N, hN⟩ : ∃ N, m.ps.length = N := ⟨_, rfl⟩
  have HNL := Lib.hid hN
  have HN32 : Hid (N ≤ 32) := Lib.hid (by rw [← hN]; exact ok.few)
  have HX : Hid (∀ T w', Touch T W w' → (∀ k, k ∈ T → k = s) → w'.cell? ⟨qa, 0, none⟩ = some (.pointer (some ⟨b, 0, none⟩)) ∧ w'.cell? ⟨qn, 0, none⟩ = some (.pointer (some ⟨s, 0, none⟩)) ∧ w'.cell? ⟨b, 0, none⟩ = some (.slice ta n tc) ∧ w'.cell? ⟨b, 2, none⟩ = some (.map (some p.bc))) :=
    Lib.hid (fun T w' h hT => ⟨(HA.out.touch h (fun hm => HD.out.2.1 (hT _ hm))).cell (i := 0) rfl, (HN.out.touch h (fun hm => HD.out.2.2 (hT _ hm))).cell (i := 0) rfl, by rw [← HTV.out]; exact (HP.out.blk.touch h (fun hm => HD.out.1.2 (hT _ hm))).cell (i := 0) rfl, (HP.out.blk.touch h (fun hm => HD.out.1.2 (hT _ hm))).cell (i := 2) rfl⟩)
  have HSRT : Hid (∀ o, o = Obj.cells #[.map (some p.bc)] 69 → Calls Tryz.prog 79 #[.func (.func 97) #[] #[.pointer (some ⟨W.heap.size, 0, none⟩)]] (World.drew (W.alloc o)) (Own m.ps (World.drew (W.alloc o)))) :=
    Lib.hid (fun o ho => by
      subst ho
      have hb : Blk (World.drew (W.alloc (.cells #[.map (some p.bc)] 69))) W.heap.size #[.map (some p.bc)] 69 := Blk.new rfl
      refine sorted_any W.heap.size p.bc m.ps.length p.mc m.ps _ hb (HP.out.mc.touch (((Touch.refl [] W).alloc _).drew) (by simp)) (by have := HOK.out.few; omega) (fun k => by rw [HP.out.isIn k]; simp) HOK.out.rise (fun k hk => wf_of (by have := HOK.out.pos k hk; unfold InI; omega)))
  have HTW : Hid (∀ o, Touch [] W (World.drew (W.alloc o))) := Lib.hid (fun o => ((Touch.refl [] W).alloc o).drew)
  obtain ⟨y0, y1, y2, y3⟩ := HX.out [] W (Touch.refl _ _) (by simp)
  clear hp ok ha hn hs bF hbs sF sa sn htv hnn hN cF
  go_enter Tryz.func78, Tryz.ntmps78
  go_upto_region 0 with fail
  go_region_held3 (fun w' => w'.cell? ⟨qa, 0, none⟩ = some (.pointer (some ⟨b, 0, none⟩)) ∧ w'.cell? ⟨qn, 0, none⟩ = some (.pointer (some ⟨s, 0, none⟩)) ∧ w'.cell? ⟨b, 0, none⟩ = some (.slice ta n tc) ∧ w'.cell? ⟨b, 2, none⟩ = some (.map (some p.bc))) (first | (with_reducible exact HX.out [] _ HTU.out (by simp)) | (exact HX.out [] _ (HTW.out _) (by simp)) | (exact HX.out [s] _ ((HTU.out.mono (by simp)).setCell (by simp) _) (by simp)) | go_keep)
    ((first
      | (go_at_call 80; refine (keys_any _ _).mono ?_; rintro e w6 ⟨rfl, rfl⟩)
      | (go_at_call 79; refine (HSRT.out _ rfl).mono ?_; rintro e w7 ⟨pv, rfl, hq7, ht7⟩; obtain ⟨pa, pc, rfl⟩ := Qu.form hq7; have HTU := Lib.hid ((HTW.out _).trans ht7); have HQ7 := Lib.hid hq7; have z3 := (HS.out.touch HTU.out (by simp)).cell (i := 3) rfl; have z4 := (HS.out.touch HTU.out (by simp)).free 3)))
  have HL0 : Hid (LkI W (w7.setCell ⟨s, 3, none⟩ (.slice pa m.ps.length pc)) s x (.slice pa m.ps.length pc) (.slice none 0 0) (.slice none 0 0) (.slice none 0 0) m.ps [] (fun i => m.held (m.ps.getD i 0)) [] []) := Lib.hid (LkI.start HTU.out HLT.out.1 (HS.out.touch HTU.out (by simp)) (HQ7.out.mono (by simp)))
  obtain ⟨w8, hw8⟩ : ∃ z, w7.setCell ⟨s, 3, none⟩ (.slice pa m.ps.length pc) = z := ⟨_, rfl⟩
  rw [hw8] at HL0 ⊢
  rw [HNL.out] at HL0 ⊢
  have HT8 := Lib.hid HL0.out.t
  clear hw8 hq7 ht7 HQ7 HTU HSRT HTW HS y0 y1 y2 y3 z3 z4
  try clear hHeld
  obtain ⟨y0, y1, y2, y3⟩ := HX.out [s] w8 HT8.out (by simp)
  go_upto_region 1 with fail
  go_region_held3 (fun w' => w'.cell? ⟨qa, 0, none⟩ = some (.pointer (some ⟨b, 0, none⟩)) ∧ w'.cell? ⟨qn, 0, none⟩ = some (.pointer (some ⟨s, 0, none⟩)) ∧ w'.cell? ⟨b, 0, none⟩ = some (.slice ta n tc) ∧ w'.cell? ⟨b, 2, none⟩ = some (.map (some p.bc))) (first | (with_reducible exact HX.out [s] _ HTU.out (by simp)) | (exact HX.out [s] _ (HTU.out.setCell (by simp) _) (by simp)) | go_keep)
    ((first
      | (go_at_call 40; refine (clone_any _ m.tot _ (HTO.out [s] _ HT8.out.drew (by simp; exact HD.out.1.1)) (by rw [HNN.out]; have := HN6.out; omega)).mono ?_; rintro e w9 ⟨av, rfl, hq9, ht9⟩; obtain ⟨aa, ac, hav⟩ := Qu.form hq9; rw [HNN.out] at hav; subst hav; have HTU := Lib.hid (HT8.out.trans (((Touch.refl [s] w8).drew).trans (ht9.mono (by simp)))); have HL9 := Lib.hid (HL0.out.avail (((Touch.refl [] w8).drew).trans ht9) hq9); have z3 := (HL0.out.touch (((Touch.refl [] w8).drew).trans ht9)).obj.cell (i := 4) rfl; have z4 := (HL0.out.touch (((Touch.refl [] w8).drew).trans ht9)).obj.free 4)))
  obtain ⟨w10, hw10⟩ : ∃ z, w9.setCell ⟨s, 4, none⟩ (.slice aa n ac) = z := ⟨_, rfl⟩
  rw [hw10] at HL9 ⊢
  have HL1 : Hid (LkI W w10 s x (.slice pa N pc) (.slice aa n ac) (.slice none 0 0) (.slice none 0 0) m.ps (avlL m.tot (m.ps.take 0) m.held) (fun i => m.held (m.ps.getD i 0)) [] []) := Lib.hid (by rw [List.take_zero, avlL_nil]; exact HL9.out)
  obtain ⟨y4, y5, y6, y7⟩ := HX.out [s] w10 HL9.out.t (by simp)
  have z5 : w10.cell? ⟨s, 3, none⟩ = some (.slice pa N pc) := HL9.out.obj.cell (i := 3) rfl
  clear hw10 hq9 ht9 HTU HL0 HT8 HL9 y0 y1 y2 y3 z3 z4
  try clear hHeld
  go_wp2_with fail
  clear y4 y5 y6 y7 z5
  go_loopw [29] (fun iv wr => ∃ k : Nat, k ≤ N ∧ iv = .int .i64 (k : Int) ∧ ∃ av hv cv vs us, LkI W wr s x (.slice pa N pc) av hv cv m.ps (avlL m.tot (m.ps.take k) m.held) (fun i => m.held (m.ps.getD i 0)) vs us ∧ vs.length = k ∧ us.length = k ∧ ∀ i, i < k → p.mc (m.ps.getD i 0) = some (us.getD i (.slice none 0 0))) (fun iv _ => N + 1 - (intOf iv).toNat)
  case atStart => exact ⟨0, by omega, rfl, _, _, _, _, _, HL1.out, rfl, rfl, fun i hi => by omega⟩
  case round =>
    clear HL1
    obtain ⟨k, hk, rfl, av, hv, cv, vs, us, hl, hvl, hul, hus⟩ := hrel
    have HL := Lib.hid hl
    have HVL := Lib.hid hvl
    have HUL := Lib.hid hul
    have HUS := Lib.hid hus
    by_cases hkN : k < N
    · have hlt : (k : Int) < (N : Int) := by omega
      obtain ⟨q, hq⟩ : ∃ q, m.ps.getD k 0 = q := ⟨_, rfl⟩
      have hqm : q ∈ m.ps := by rw [← hq, List.getD_eq_getElem?_getD, List.getElem?_eq_getElem (by rw [HNL.out]; exact hkN)]; exact List.getElem_mem _
      have HQ := Lib.hid hq
      have HQM := Lib.hid hqm
      obtain ⟨gp, op, hgp, xp⟩ := hl.p.sl.ix (q := k) (by rw [HNL.out]; exact hkN)
      cases hgp
      have c0 := xp wr (Touch.refl _ _)
      rw [hq] at c0
      have hwr : ∀ k, k ∈ [s] → k ∉ F := fun k hk => by simp at hk; rw [hk]; exact HD.out.1.1
      have HPW : Hid (Pb wr F b m p) := Lib.hid (HP.out.touch hl.t hwr (fun k hk => hk) (fun k hk => Nat.lt_of_lt_of_le (HP.out.lt k hk) hl.t.size))
      have HROW := Lib.hid (row_any wr F b m p q HPW.out (by rw [HNN.out]; exact HN6.out) hqm (HOK.out.hl q hqm) (by have := HOK.out.pos q hqm; unfold InI; omega))
      have hkn : (k : Int) < (N : Int) := hlt
      have hn6 : n ≤ 6 := HN6.out
      have hN32 : N ≤ 32 := HN32.out
      obtain ⟨y0, y1, y2, y3⟩ := HX.out [s] wr HL.out.t (by simp)
      clear hl hvl hul hus hq hqm xp
      go_wp2_with fail
      refine HROW.out.mono ?_
      rintro e w2 ⟨rv, rfl, hqr, htr⟩
      obtain ⟨ra, rc, hrv⟩ := Qu.form hqr
      have hrl : (m.held q).length = n := by rw [HOK.out.hl q HQM.out]; exact HNN.out
      rw [hrl] at hrv
      subst hrv
      have HRL := Lib.hid hrl
      have HL2 : Hid (LkI W w2 s x (.slice (some ⟨gp, op, none⟩) N pc) av hv cv m.ps (partS (avlL m.tot (m.ps.take k) m.held) (m.held q) 0) (fun i => m.held (m.ps.getD i 0)) vs us) := Lib.hid (by rw [partS_zero]; exact HL.out.touch htr)
      have HRV : Hid (Qu w2 W.heap.size 3 (.slice ra n rc) ((m.held q).map (Value.int .i64))) := Lib.hid (hqr.mono HL.out.t.size)
      have HRA : Hid (∀ z, (Value.slice ra n rc).ownBlock = some z → av.ownBlock ≠ some z ∧ hv.ownBlock ≠ some z ∧ cv.ownBlock ≠ some z) := Lib.hid (fun z hz => by
        have h1 := (hqr.own z hz).1
        exact ⟨fun e => by have := (HL.out.a.own z e).2; omega, fun e => by have := (HL.out.h.own z e).2; omega, fun e => by have := (HL.out.c.own z e).2; omega⟩)
      have HABD : Hid (∀ c, c < n → (0 ≤ (avlL m.tot (m.ps.take k) m.held).getD c 0 ∧ (avlL m.tot (m.ps.take k) m.held).getD c 0 ≤ 1000) ∧ 0 ≤ (m.held q).getD c 0 ∧ (m.held q).getD c 0 ≤ 1000) := Lib.hid (fun c hc => by
        have h1 := HOK.out.take_bd (k := k) (c := c) (by rw [HNN.out]; exact hc)
        have h2 := HOK.out.le HQM.out (k := c) (by rw [HNN.out]; exact hc)
        have h3 := HOK.out.tb c (by rw [HNN.out]; exact hc)
        have h4 := HOK.out.av c (by rw [HNN.out]; exact hc)
        exact ⟨h1, h2.1, by omega⟩)
      obtain ⟨A, hA⟩ : ∃ A, avlL m.tot (m.ps.take k) m.held = A := ⟨_, rfl⟩
      have hAl : A.length = n := by rw [← hA, avlL_length, HNN.out]
      have HAE := Lib.hid hA
      have HAL := Lib.hid hAl
      rw [hA] at HL2 HABD
      obtain ⟨h, hh⟩ : ∃ h, m.held q = h := ⟨_, rfl⟩
      have HHE := Lib.hid hh
      rw [hh] at HL2 HRV HABD HRL
      clear hqr htr hrl HROW HPW HL y0 y1 y2 y3 c0 hA hAl hh
      go_wp2_with fail
      go_loopw [38] (fun jv wr => ∃ j : Nat, j ≤ n ∧ jv = .int .i64 (j : Int) ∧ LkI W wr s x (.slice (some ⟨gp, op, none⟩) N pc) av hv cv m.ps (partS A h j) (fun i => m.held (m.ps.getD i 0)) vs us ∧ Qu wr W.heap.size 3 (.slice ra n rc) (h.map (Value.int .i64))) (fun jv _ => n + 1 - (intOf jv).toNat)
      case atStart => exact ⟨0, by omega, rfl, HL2.out, HRV.out⟩
      case round =>
        clear HL2 HRV
        obtain ⟨j, hj, rfl, hl, hrv⟩ := hrel
        have HLj := Lib.hid hl
        have HRVj := Lib.hid hrv
        by_cases hjn : j < n
        · have hltj : (j : Int) < (n : Int) := by omega
          obtain ⟨g, off, c, e, hca, hfz, hg1, hg2, hkeep, htg, hset⟩ := hl.setAv (k := j) (by rw [partS_length, HAL.out]; exact hjn)
          rw [partS_length, HAL.out] at e
          subst e
          obtain ⟨gr, or', hgr, xr⟩ := hrv.sl.ix (q := j) (by rw [HRL.out]; exact hjn)
          cases hgr
          have cr := xr wr (Touch.refl _ _)
          rw [partS_get _ _ _ (by rw [HAL.out]; exact hjn)] at hca
          obtain ⟨⟨b1, b2⟩, b3, b4⟩ := HABD.out j hjn
          have HS2 : Hid (LkI W (wr.setCell ⟨g, off + j, none⟩ (.int .i64 (A.getD j 0 - h.getD j 0))) s x (.slice (some ⟨gp, op, none⟩) N pc) (.slice (some ⟨g, off, none⟩) n c) hv cv m.ps (partS A h (j + 1)) (fun i => m.held (m.ps.getD i 0)) vs us) := Lib.hid (by rw [← partS_set]; exact hset _)
          have HR2 : Hid (Qu (wr.setCell ⟨g, off + j, none⟩ (.int .i64 (A.getD j 0 - h.getD j 0))) W.heap.size 3 (.slice (some ⟨gr, or', none⟩) n rc) (h.map (Value.int .i64))) := Lib.hid (hkeep _ _ hrv (fun z hz => (HRA.out z hz).1) _)
          obtain ⟨y, hy⟩ : ∃ z, A.getD j 0 = z := ⟨_, rfl⟩
          obtain ⟨z, hz⟩ : ∃ y, h.getD j 0 = y := ⟨_, rfl⟩
          rw [hy] at hca b1 b2 HS2 HR2
          rw [hz] at cr b3 b4 HS2 HR2
          have hf := hfz (off + j)
          have v1 : IntKind.i64.wrap (y - z) = y - z := IntWalk.i64_in _ (by omega)
          obtain ⟨y0, y1, y2, y3⟩ := HX.out [s] wr HLj.out.t (by simp)
          have z4 : wr.cell? ⟨s, 4, none⟩ = some (.slice (some ⟨g, off, none⟩) n c) := HLj.out.obj.cell (i := 4) rfl
          clear hl hrv hy hz xr hset hfz hkeep htg
          go_wp2
          go_roundw
          case rel => exact ⟨j + 1, by omega, by go_num, HS2.out, HR2.out⟩
          case measure => simp [intOf]; omega
        · have hltj : ¬ (j : Int) < (n : Int) := by omega
          obtain rfl : n = j := by omega
          have HL3 : Hid (LkI W wr s x (.slice (some ⟨gp, op, none⟩) N pc) av hv cv m.ps (avlL m.tot (m.ps.take (k + 1)) m.held) (fun i => m.held (m.ps.getD i 0)) vs us) := Lib.hid (by rw [← avlL_step (by rw [HNL.out]; exact hkN), HQ.out, HHE.out, HAE.out, ← partS_all, HAL.out]; exact hl)
          clear hl
          obtain ⟨cl, hcl, him⟩ := (HP.out.mcv q).1 HQM.out
          obtain ⟨ca, cc, hclf⟩ := him.1.form
          obtain ⟨cn, hcn⟩ : ∃ z, (m.claim q).length = z := ⟨_, rfl⟩
          rw [hcn] at hclf
          subst hclf
          obtain ⟨ha, hn', hc, rfl⟩ : ∃ a z c, hv = Value.slice a z c := by obtain ⟨a, c, e, _⟩ := HL3.out.h.shape; exact ⟨a, _, c, e⟩
          obtain ⟨va, vn, vc, rfl⟩ : ∃ a z c, cv = Value.slice a z c := by obtain ⟨a, c, e, _⟩ := HL3.out.c.shape; exact ⟨a, _, c, e⟩
          have hwr2 : ∀ k, k ∈ [s] → k ∉ F := fun k hk => by simp at hk; rw [hk]; exact HD.out.1.1
          have HPW2 : Hid (Pb wr F b m p) := Lib.hid (HP.out.touch HL3.out.t hwr2 (fun k hk => hk) (fun k hk => Nat.lt_of_lt_of_le (HP.out.lt k hk) HL3.out.t.size))
          have HLF : Hid (∀ w', Touch ((Value.slice ha hn' hc).ownBlock.toList ++ (Value.slice va vn vc).ownBlock.toList) wr w' → LF w' qa qn b s p.bc q (.slice ha hn' hc) (.slice va vn vc) (.slice ca cn cc)) := Lib.hid (fun w' h => LF.of HPW2.out (HA.out.touch HL3.out.t (by simp; exact HD.out.2.1)) (HN.out.touch HL3.out.t (by simp; exact HD.out.2.2)) HL3.out.obj hcl h (fun z hz => by
            have hW : W.heap.size ≤ z := by
              rcases List.mem_append.1 hz with hz | hz
              · exact (HL3.out.h.own z (Option.mem_toList.1 hz)).1
              · exact (HL3.out.c.own z (Option.mem_toList.1 hz)).1
            have := HLT.out
            omega))
          have HCL := Lib.hid hcl
          have HTW : Hid (Tw wr wr.drew W.heap.size (Value.slice ha hn' hc).ownBlock.toList (Value.slice va vn vc).ownBlock.toList (.slice ha hn' hc) (.slice va vn vc) vs us (.slice ra n rc) (.slice ca cn cc) none none) := Lib.hid (Tw.start HL3.out.h HL3.out.c (fun z hz => (HL3.out.hp z hz).2))
          have HB : Hid (W.heap.size ≤ wr.heap.size ∧ vs.length ≤ 1000 ∧ us.length ≤ 1000) := Lib.hid ⟨HL3.out.t.size, by rw [HVL.out]; omega, by rw [HUL.out]; omega⟩
          have HFT : Hid (∀ w', LF w' qa qn b s p.bc q (.slice ha hn' hc) (.slice va vn vc) (.slice ca cn cc) → w'.cell? ⟨s, 5, none⟩ = some (.slice ha hn' hc) ∧ w'.cell? ⟨s, 6, none⟩ = some (.slice va vn vc) ∧ (∀ k, w'.frozen? ⟨s, k, none⟩ = false)) := Lib.hid (fun w' h => ⟨h.2.2.2.1, h.2.2.2.2.1, h.2.2.2.2.2.1⟩)
          have HSL : Hid (∀ w', LF w' qa qn b s p.bc q (.slice ha hn' hc) (.slice va vn vc) (.slice ca cn cc) → w'.cell? ⟨qa, 0, none⟩ = some (.pointer (some ⟨b, 0, none⟩)) ∧ w'.cell? ⟨qn, 0, none⟩ = some (.pointer (some ⟨s, 0, none⟩)) ∧ w'.cell? ⟨b, 2, none⟩ = some (.map (some p.bc)) ∧ (Instr.lookup 69 (.map (some p.bc)) (.int .i64 q) false).run Tryz.prog w' = .ok (.slice ca cn cc) w' ∧ (Instr.lookup 69 (.map (some p.bc)) (.int .i64 q) false).run Tryz.prog w'.drew = .ok (.slice ca cn cc) w'.drew) := Lib.hid (fun w' h => ⟨h.1, h.2.1, h.2.2.1, h.2.2.2.2.2.2.1, h.2.2.2.2.2.2.2⟩)
          clear hcl him hcn hrv HPW2
          have HQN : Hid (s ≠ qn) := Lib.hid (Ne.symm HD.out.2.2)
          have HNN2 : Hid (∀ z, z ∈ (Value.slice ha hn' hc).ownBlock.toList ++ (Value.slice va vn vc).ownBlock.toList → z ≠ qn) := Lib.hid (fun z hz => by
            have hW : W.heap.size ≤ z := by
              rcases List.mem_append.1 hz with hz | hz
              · exact (HL3.out.h.own z (Option.mem_toList.1 hz)).1
              · exact (HL3.out.c.own z (Option.mem_toList.1 hz)).1
            have := HLT.out
            omega)
          have HNN3 : Hid (∀ z, z ∈ ((Value.slice ha hn' hc).ownBlock.toList ++ (Value.slice va vn vc).ownBlock.toList) ++ [s] → z ≠ qn) := Lib.hid (fun z hz => by
            rcases List.mem_append.1 hz with h | h
            · exact HNN2.out z h
            · simp at h; rw [h]; exact HQN.out)
          have HRW : Hid (Qu wr W.heap.size 3 (.slice ra n rc) ((m.held (m.ps.getD vs.length 0)).map (Value.int .i64))) := Lib.hid (by rw [HVL.out, HQ.out, HHE.out]; exact HRVj.out)
          have HU2 : Hid (∀ i, i < k + 1 → p.mc (m.ps.getD i 0) = some ((us ++ [Value.slice ca cn cc]).getD i (.slice none 0 0))) := Lib.hid (fun i hi => by
            by_cases e : i < k
            · rw [show (us ++ [Value.slice ca cn cc]).getD i (.slice none 0 0) = us.getD i (.slice none 0 0) from by rw [List.getD_eq_getElem?_getD, List.getD_eq_getElem?_getD, List.getElem?_append_left (by rw [HUL.out]; exact e)]]
              exact HUS.out i e
            · obtain rfl : i = k := by omega
              rw [show (us ++ [Value.slice ca cn cc]).getD i (.slice none 0 0) = .slice ca cn cc from by rw [List.getD_eq_getElem?_getD, List.getElem?_append_right (by rw [HUL.out]; exact Nat.le_refl _), HUL.out, Nat.sub_self]; rfl, HQ.out]
              exact HCL.out)
          have HSS : Hid (∀ (T' : List Nat) (w' : World), Touch T' wr w' → (∀ z, z ∈ T' → z ≠ qn) → w'.cell? ⟨qn, 0, none⟩ = some (.pointer (some ⟨s, 0, none⟩))) := Lib.hid (fun T' w' h hT => ((HN.out.touch HL3.out.t (by simp; exact HD.out.2.2)).touch h (fun hm => hT _ hm rfl)).cell (i := 0) rfl)
          go_upto_region 11 with fail
          refine wp_region_till (fun w' => w'.cell? ⟨qn, 0, none⟩ = some (.pointer (some ⟨s, 0, none⟩))) (fun w' => LF w' qa qn b s p.bc q (.slice ha hn' hc) (.slice va vn vc) (.slice ca cn cc)) [23, 26] (by kernel_rfl) ?_
          refine wpTill.takeT (i := 0) (v := ?v1) (some 54) rfl rfl (by kernel_rfl) (fun _ _ _ h => h) (Or.inl ⟨by rfl, ?hy1⟩) ⟨(HSS.out _ _ HTW.out.t HNN2.out), HLF.out _ HTW.out.t⟩ ?rest1
          case hy1 => (intro w hSw; obtain ⟨q1, q2, q3, q4, q5, q6, q7, q8⟩ := hSw); go_simp; try with_reducible rfl
          simp only [Act.put, List.setIfInBounds_toArray, List.set_cons_zero, List.set_cons_succ]
          refine wpTill.takeS (i := 1) (v := ?v2) (some 55) rfl rfl (by kernel_rfl) (fun _ _ _ h => h) (Or.inl ⟨by rfl, ?hy2⟩) (HSS.out _ _ HTW.out.t HNN2.out) (fun _ => HLF.out _ HTW.out.t) ?rest2
          case hy2 => (intro w hSw; try dsimp only at hSw); go_simp; try with_reducible rfl
          simp only [Act.put, List.setIfInBounds_toArray, List.set_cons_zero, List.set_cons_succ]
          refine wpTill.takeT (i := 2) (v := ?v3) (some 56) rfl rfl (by kernel_rfl) (fun _ _ _ h => h) (Or.inl ⟨by rfl, ?hy3⟩) ⟨(HSS.out _ _ HTW.out.t HNN2.out), HLF.out _ HTW.out.t⟩ ?rest3
          case hy3 => (intro w hSw; obtain ⟨q1, q2, q3, q4, q5, q6, q7, q8⟩ := hSw); go_simp; try with_reducible rfl
          simp only [Act.put, List.setIfInBounds_toArray, List.set_cons_zero, List.set_cons_succ]
          refine wpTill.takeT (i := 3) (v := ?v4) (some 57) rfl rfl (by kernel_rfl) (fun _ _ _ h => h) (Or.inl ⟨by rfl, ?hy4⟩) ⟨(HSS.out _ _ HTW.out.t HNN2.out), HLF.out _ HTW.out.t⟩ ?rest4
          case hy4 => (intro w hSw; obtain ⟨q1, q2, q3, q4, q5, q6, q7, q8⟩ := hSw); go_simp; try with_reducible rfl
          simp only [Act.put, List.setIfInBounds_toArray, List.set_cons_zero, List.set_cons_succ]
          refine wpTill.takeT (i := 4) (v := ?v5) (some 58) rfl rfl (by kernel_rfl) (fun _ _ _ h => h) (Or.inl ⟨by rfl, ?hy5⟩) ⟨(HSS.out _ _ HTW.out.t HNN2.out), HLF.out _ HTW.out.t⟩ ?rest5
          case hy5 => (intro w hSw; obtain ⟨q1, q2, q3, q4, q5, q6, q7, q8⟩ := hSw); go_simp; try with_reducible rfl
          simp only [Act.put, List.setIfInBounds_toArray, List.set_cons_zero, List.set_cons_succ]
          refine wpTill.takeT (i := 5) (v := ?v6) (some 59) rfl rfl (by kernel_rfl) (fun _ _ _ h => h) (Or.inl ⟨by rfl, ?hy6⟩) ⟨(HSS.out _ _ HTW.out.t HNN2.out), HLF.out _ HTW.out.t⟩ ?rest6
          case hy6 => (intro w hSw; obtain ⟨q1, q2, q3, q4, q5, q6, q7, q8⟩ := hSw); go_simp; try with_reducible rfl
          simp only [Act.put, List.setIfInBounds_toArray, List.set_cons_zero, List.set_cons_succ]
          refine wpTill.takeT (i := 6) (v := ?v7) (some 60) rfl rfl (by kernel_rfl) (fun _ _ _ h => h) (Or.inl ⟨by rfl, ?hy7⟩) ⟨(HSS.out _ _ HTW.out.t HNN2.out), HLF.out _ HTW.out.t⟩ ?rest7
          case hy7 => (intro w hSw; obtain ⟨q1, q2, q3, q4, q5, q6, q7, q8⟩ := hSw); go_simp; try with_reducible rfl
          simp only [Act.put, List.setIfInBounds_toArray, List.set_cons_zero, List.set_cons_succ]
          refine wpTill.takeT (i := 9) (v := ?v8) (some 63) rfl rfl (by kernel_rfl) (fun _ _ _ h => h) (Or.inl ⟨by rfl, ?hy8⟩) ⟨(HSS.out _ _ HTW.out.t HNN2.out), HLF.out _ HTW.out.t⟩ ?rest8
          case hy8 => (intro w hSw; obtain ⟨q1, q2, q3, q4, q5, q6, q7, q8⟩ := hSw); go_simp; try with_reducible rfl
          simp only [Act.put, List.setIfInBounds_toArray, List.set_cons_zero, List.set_cons_succ]
          refine wpTill.takeT (i := 10) (v := ?v9) (some 64) rfl rfl (by kernel_rfl) (fun _ _ _ h => h) (Or.inl ⟨by rfl, ?hy9⟩) ⟨(HSS.out _ _ HTW.out.t HNN2.out), HLF.out _ HTW.out.t⟩ ?rest9
          case hy9 => (intro w hSw; obtain ⟨q1, q2, q3, q4, q5, q6, q7, q8⟩ := hSw); go_simp; try with_reducible rfl
          simp only [Act.put, List.setIfInBounds_toArray, List.set_cons_zero, List.set_cons_succ]
          refine wpTill.takeT (i := 11) (v := ?v10) (some 65) rfl rfl (by kernel_rfl) (fun _ _ _ h => h) (Or.inl ⟨by rfl, ?hy10⟩) ⟨(HSS.out _ _ HTW.out.t HNN2.out), HLF.out _ HTW.out.t⟩ ?rest10
          case hy10 => (intro w hSw; obtain ⟨q1, q2, q3, q4, q5, q6, q7, q8⟩ := hSw); go_simp; try with_reducible rfl
          simp only [Act.put, List.setIfInBounds_toArray, List.set_cons_zero, List.set_cons_succ]
          refine wpTill.takeT (i := 12) (v := ?v11) (some 66) rfl rfl (by kernel_rfl) (fun _ _ _ h => h) (Or.inl ⟨by rfl, ?hy11⟩) ⟨(HSS.out _ _ HTW.out.t HNN2.out), HLF.out _ HTW.out.t⟩ ?rest11
          case hy11 => (intro w hSw; obtain ⟨q1, q2, q3, q4, q5, q6, q7, q8⟩ := hSw); go_simp; try with_reducible rfl
          simp only [Act.put, List.setIfInBounds_toArray, List.set_cons_zero, List.set_cons_succ]
          refine wpTill.takeT (i := 13) (v := ?v12) (some 67) rfl rfl (by kernel_rfl) (fun _ _ _ h => h) (Or.inl ⟨by rfl, ?hy12⟩) ⟨(HSS.out _ _ HTW.out.t HNN2.out), HLF.out _ HTW.out.t⟩ ?rest12
          case hy12 => (intro w hSw; obtain ⟨q1, q2, q3, q4, q5, q6, q7, q8⟩ := hSw); go_simp; try with_reducible rfl
          simp only [Act.put, List.setIfInBounds_toArray, List.set_cons_zero, List.set_cons_succ]
          refine wpTill.takeT (i := 14) (v := ?v13) (some 68) rfl rfl (by kernel_rfl) (fun _ _ _ h => h) (Or.inl ⟨by rfl, ?hy13⟩) ⟨(HSS.out _ _ HTW.out.t HNN2.out), HLF.out _ HTW.out.t⟩ ?rest13
          case hy13 => (intro w hSw; obtain ⟨q1, q2, q3, q4, q5, q6, q7, q8⟩ := hSw); go_simp; try with_reducible rfl
          simp only [Act.put, List.setIfInBounds_toArray, List.set_cons_zero, List.set_cons_succ]
          refine wpTill.takeT (i := 15) (v := ?v14) (some 69) rfl rfl (by kernel_rfl) (fun _ _ _ h => h) (Or.inl ⟨by rfl, ?hy14⟩) ⟨(HSS.out _ _ HTW.out.t HNN2.out), HLF.out _ HTW.out.t⟩ ?rest14
          case hy14 => (intro w hSw; obtain ⟨q1, q2, q3, q4, q5, q6, q7, q8⟩ := hSw); go_simp; try with_reducible rfl
          simp only [Act.put, List.setIfInBounds_toArray, List.set_cons_zero, List.set_cons_succ]
          refine wpTill.takeT (i := 16) (v := ?v15) (some 70) rfl rfl (by kernel_rfl) (fun _ _ _ h => h) (Or.inl ⟨by rfl, ?hy15⟩) ⟨(HSS.out _ _ HTW.out.t HNN2.out), HLF.out _ HTW.out.t⟩ ?rest15
          case hy15 => (intro w hSw; obtain ⟨q1, q2, q3, q4, q5, q6, q7, q8⟩ := hSw); go_simp; try with_reducible rfl
          simp only [Act.put, List.setIfInBounds_toArray, List.set_cons_zero, List.set_cons_succ]
          refine wpTill.takeT (i := 17) (v := ?v16) (some 71) rfl rfl (by kernel_rfl) (fun _ _ _ h => h) (Or.inl ⟨by rfl, ?hy16⟩) ⟨(HSS.out _ _ HTW.out.t HNN2.out), HLF.out _ HTW.out.t⟩ ?rest16
          case hy16 => (intro w hSw; obtain ⟨q1, q2, q3, q4, q5, q6, q7, q8⟩ := hSw); go_simp; try with_reducible rfl
          simp only [Act.put, List.setIfInBounds_toArray, List.set_cons_zero, List.set_cons_succ]
          refine wpTill.takeT (i := 18) (v := ?v17) (some 72) rfl rfl (by kernel_rfl) (fun _ _ _ h => h) (Or.inl ⟨by rfl, ?hy17⟩) ⟨(HSS.out _ _ HTW.out.t HNN2.out), HLF.out _ HTW.out.t⟩ ?rest17
          case hy17 => (intro w hSw; obtain ⟨q1, q2, q3, q4, q5, q6, q7, q8⟩ := hSw); go_simp; try with_reducible rfl
          simp only [Act.put, List.setIfInBounds_toArray, List.set_cons_zero, List.set_cons_succ]
          refine wpTill.ready (rs := [7, 19]) (by kernel_rfl) (by simp) ?_
          refine AllTill.cons (i := 7) (rs := [19]) (by rfl) (fun K hK => ?_) ?_
          · go_simp
            have HTW := Lib.hid (HTW.out.bA (n := wr.heap.size) (by simp))
            refine hK.out _ _ (HSS.out _ _ HTW.out.t HNN2.out) (fun _ => HLF.out _ HTW.out.t) ?_
            clear hK K
            refine wpTill.ready (rs := [8, 19]) (by kernel_rfl) (by simp) ?_
            refine AllTill.cons (i := 8) (rs := [19]) (by rfl) (fun K hK => ?_) ?_
            · refine step_twA rfl _ _ rfl (by rfl) (by rfl) HTW.out HB.out.1 rfl HB.out.2.1 ?_
              intro v8 w28 h1
              obtain ⟨xa8, xn8, xc8, rfl⟩ : ∃ a z c, v8 = Value.slice a z c := (by obtain ⟨a, c, e, _⟩ := h1.a.shape; exact ⟨a, _, c, e⟩)
              have HTW := Lib.hid h1
              clear h1
              simp only [Act.put, List.setIfInBounds_toArray, List.set_cons_zero, List.set_cons_succ]
              refine hK.out _ _ (HSS.out _ _ HTW.out.t HNN2.out) (fun _ => HLF.out _ HTW.out.t) ?_
              clear hK K
              refine wpTill.ready (rs := [19]) (by kernel_rfl) (by simp) ?_
              refine AllTill.cons (i := 19) (rs := []) (by rfl) (fun K hK => ?_) ?_
              · go_simp
                have HTW := Lib.hid (HTW.out.bB (n := w28.heap.size) (by simp))
                refine hK.out _ _ (HSS.out _ _ HTW.out.t HNN2.out) (fun _ => HLF.out _ HTW.out.t) ?_
                clear hK K
                refine wpTill.ready (rs := [20]) (by kernel_rfl) (by simp) ?_
                refine AllTill.cons (i := 20) (rs := []) (by rfl) (fun K hK => ?_) ?_
                · refine step_twB rfl _ _ rfl (by rfl) (by rfl) HTW.out HB.out.1 rfl HB.out.2.2 ?_
                  intro v20 w40 h1
                  obtain ⟨xa20, xn20, xc20, rfl⟩ : ∃ a z c, v20 = Value.slice a z c := (by obtain ⟨a, c, e, _⟩ := h1.b.shape; exact ⟨a, _, c, e⟩)
                  have HTW := Lib.hid h1
                  clear h1
                  simp only [Act.put, List.setIfInBounds_toArray, List.set_cons_zero, List.set_cons_succ]
                  refine hK.out _ _ (HSS.out _ _ HTW.out.t HNN2.out) (fun _ => HLF.out _ HTW.out.t) ?_
                  clear hK K
                  refine wpTill.takeS (i := 21) (v := ?v18) (some 75) rfl rfl (by kernel_rfl) (fun _ _ _ h => h) (Or.inl ⟨by rfl, ?hy18⟩) (HSS.out _ _ HTW.out.t HNN2.out) (fun _ => HLF.out _ HTW.out.t) ?rest18
                  case hy18 => (intro w hSw; try dsimp only at hSw); go_simp; try with_reducible rfl
                  simp only [Act.put, List.setIfInBounds_toArray, List.set_cons_zero, List.set_cons_succ]
                  refine wpTill.takeS (i := 22) (v := ?v19) (some 76) rfl rfl (by kernel_rfl) (fun _ _ _ h => h) (Or.inl ⟨by rfl, ?hy19⟩) (HSS.out _ _ HTW.out.t HNN2.out) (fun _ => HLF.out _ HTW.out.t) ?rest19
                  case hy19 => (intro w hSw; try dsimp only at hSw); go_simp; try with_reducible rfl
                  simp only [Act.put, List.setIfInBounds_toArray, List.set_cons_zero, List.set_cons_succ]
                  refine wpTill.ready (rs := [23]) (by kernel_rfl) (by simp) ?_
                  refine AllTill.cons (i := 23) (rs := []) (by rfl) (fun K hK => ?_) ?_
                  · obtain ⟨q1, q2, q3, q4, q5, q6, q7, q8⟩ := HLF.out _ HTW.out.t
                    go_simp
                    have HTT := Lib.hid ((HTW.out.t.mono (fun z hz => List.mem_append.2 (.inl hz) : ∀ z, z ∈ (Value.slice ha hn' hc).ownBlock.toList ++ (Value.slice va vn vc).ownBlock.toList → z ∈ ((Value.slice ha hn' hc).ownBlock.toList ++ (Value.slice va vn vc).ownBlock.toList) ++ [s])).setCell (p := ⟨s, 5, none⟩) (by simp) (.slice xa8 xn8 xc8))
                    refine hK.out _ _ (HSS.out _ _ HTT.out HNN3.out) (fun h => absurd h (by decide +kernel)) ?_
                    clear hK K
                    refine wpTill.takeS (i := 24) (v := ?v20) (some 77) rfl rfl (by kernel_rfl) (fun _ _ _ h => h) (Or.inl ⟨by rfl, ?hy20⟩) (HSS.out _ _ HTT.out HNN3.out) (fun h => absurd h (by decide +kernel)) ?rest20
                    case hy20 => (intro w hSw; try dsimp only at hSw); go_simp; try with_reducible rfl
                    simp only [Act.put, List.setIfInBounds_toArray, List.set_cons_zero, List.set_cons_succ]
                    refine wpTill.takeS (i := 25) (v := ?v21) (some 78) rfl rfl (by kernel_rfl) (fun _ _ _ h => h) (Or.inl ⟨by rfl, ?hy21⟩) (HSS.out _ _ HTT.out HNN3.out) (fun h => absurd h (by decide +kernel)) ?rest21
                    case hy21 => (intro w hSw; try dsimp only at hSw); go_simp; try with_reducible rfl
                    simp only [Act.put, List.setIfInBounds_toArray, List.set_cons_zero, List.set_cons_succ]
                    refine wpTill.ready (rs := [26]) (by kernel_rfl) (by simp) ?_
                    refine AllTill.cons (i := 26) (rs := []) (by rfl) (fun K hK => ?_) ?_
                    · go_simp
                      have HTT := Lib.hid (HTT.out.setCell (p := ⟨s, 6, none⟩) (by simp) (.slice xa20 xn20 xc20))
                      refine hK.out _ _ (HSS.out _ _ HTT.out HNN3.out) (fun h => absurd h (by decide +kernel)) ?_
                      clear hK K q1 q2 q3 q4 q5 q6 q7 q8
                      refine wpTill.done (by kernel_rfl) ?_ _
                      have HL4 := Lib.hid (HL3.out.both HTW.out HRW.out HRA.out)
                      go_wp2
                      go_roundw
                      case rel =>
                        exact ⟨k + 1, by omega, by go_num, _, _, _, _, _, HL4.out, by rw [List.length_append, HVL.out]; rfl, by rw [List.length_append, HUL.out]; rfl, HU2.out⟩
                      case measure => simp [intOf]; omega
                    exact AllTill.nil
                  exact AllTill.nil
                exact AllTill.nil
              exact AllTill.nil
            refine AllTill.cons (i := 19) (rs := []) (by rfl) (fun K hK => ?_) ?_
            · go_simp
              have HTW := Lib.hid (HTW.out.bB (n := wr.heap.size + 1) (by simp))
              refine hK.out _ _ (HSS.out _ _ HTW.out.t HNN2.out) (fun _ => HLF.out _ HTW.out.t) ?_
              clear hK K
              refine wpTill.ready (rs := [8]) (by kernel_rfl) (by simp) ?_
              refine AllTill.cons (i := 8) (rs := []) (by rfl) (fun K hK => ?_) ?_
              · refine step_twA rfl _ _ rfl (by rfl) (by rfl) HTW.out HB.out.1 rfl HB.out.2.1 ?_
                intro v8 w28 h1
                obtain ⟨xa8, xn8, xc8, rfl⟩ : ∃ a z c, v8 = Value.slice a z c := (by obtain ⟨a, c, e, _⟩ := h1.a.shape; exact ⟨a, _, c, e⟩)
                have HTW := Lib.hid h1
                clear h1
                simp only [Act.put, List.setIfInBounds_toArray, List.set_cons_zero, List.set_cons_succ]
                refine hK.out _ _ (HSS.out _ _ HTW.out.t HNN2.out) (fun _ => HLF.out _ HTW.out.t) ?_
                clear hK K
                refine wpTill.ready (rs := [20]) (by kernel_rfl) (by simp) ?_
                refine AllTill.cons (i := 20) (rs := []) (by rfl) (fun K hK => ?_) ?_
                · refine step_twB rfl _ _ rfl (by rfl) (by rfl) HTW.out HB.out.1 rfl HB.out.2.2 ?_
                  intro v20 w40 h1
                  obtain ⟨xa20, xn20, xc20, rfl⟩ : ∃ a z c, v20 = Value.slice a z c := (by obtain ⟨a, c, e, _⟩ := h1.b.shape; exact ⟨a, _, c, e⟩)
                  have HTW := Lib.hid h1
                  clear h1
                  simp only [Act.put, List.setIfInBounds_toArray, List.set_cons_zero, List.set_cons_succ]
                  refine hK.out _ _ (HSS.out _ _ HTW.out.t HNN2.out) (fun _ => HLF.out _ HTW.out.t) ?_
                  clear hK K
                  refine wpTill.takeS (i := 21) (v := ?v22) (some 75) rfl rfl (by kernel_rfl) (fun _ _ _ h => h) (Or.inl ⟨by rfl, ?hy22⟩) (HSS.out _ _ HTW.out.t HNN2.out) (fun _ => HLF.out _ HTW.out.t) ?rest22
                  case hy22 => (intro w hSw; try dsimp only at hSw); go_simp; try with_reducible rfl
                  simp only [Act.put, List.setIfInBounds_toArray, List.set_cons_zero, List.set_cons_succ]
                  refine wpTill.takeS (i := 22) (v := ?v23) (some 76) rfl rfl (by kernel_rfl) (fun _ _ _ h => h) (Or.inl ⟨by rfl, ?hy23⟩) (HSS.out _ _ HTW.out.t HNN2.out) (fun _ => HLF.out _ HTW.out.t) ?rest23
                  case hy23 => (intro w hSw; try dsimp only at hSw); go_simp; try with_reducible rfl
                  simp only [Act.put, List.setIfInBounds_toArray, List.set_cons_zero, List.set_cons_succ]
                  refine wpTill.ready (rs := [23]) (by kernel_rfl) (by simp) ?_
                  refine AllTill.cons (i := 23) (rs := []) (by rfl) (fun K hK => ?_) ?_
                  · obtain ⟨q1, q2, q3, q4, q5, q6, q7, q8⟩ := HLF.out _ HTW.out.t
                    go_simp
                    have HTT := Lib.hid ((HTW.out.t.mono (fun z hz => List.mem_append.2 (.inl hz) : ∀ z, z ∈ (Value.slice ha hn' hc).ownBlock.toList ++ (Value.slice va vn vc).ownBlock.toList → z ∈ ((Value.slice ha hn' hc).ownBlock.toList ++ (Value.slice va vn vc).ownBlock.toList) ++ [s])).setCell (p := ⟨s, 5, none⟩) (by simp) (.slice xa8 xn8 xc8))
                    refine hK.out _ _ (HSS.out _ _ HTT.out HNN3.out) (fun h => absurd h (by decide +kernel)) ?_
                    clear hK K
                    refine wpTill.takeS (i := 24) (v := ?v24) (some 77) rfl rfl (by kernel_rfl) (fun _ _ _ h => h) (Or.inl ⟨by rfl, ?hy24⟩) (HSS.out _ _ HTT.out HNN3.out) (fun h => absurd h (by decide +kernel)) ?rest24
                    case hy24 => (intro w hSw; try dsimp only at hSw); go_simp; try with_reducible rfl
                    simp only [Act.put, List.setIfInBounds_toArray, List.set_cons_zero, List.set_cons_succ]
                    refine wpTill.takeS (i := 25) (v := ?v25) (some 78) rfl rfl (by kernel_rfl) (fun _ _ _ h => h) (Or.inl ⟨by rfl, ?hy25⟩) (HSS.out _ _ HTT.out HNN3.out) (fun h => absurd h (by decide +kernel)) ?rest25
                    case hy25 => (intro w hSw; try dsimp only at hSw); go_simp; try with_reducible rfl
                    simp only [Act.put, List.setIfInBounds_toArray, List.set_cons_zero, List.set_cons_succ]
                    refine wpTill.ready (rs := [26]) (by kernel_rfl) (by simp) ?_
                    refine AllTill.cons (i := 26) (rs := []) (by rfl) (fun K hK => ?_) ?_
                    · go_simp
                      have HTT := Lib.hid (HTT.out.setCell (p := ⟨s, 6, none⟩) (by simp) (.slice xa20 xn20 xc20))
                      refine hK.out _ _ (HSS.out _ _ HTT.out HNN3.out) (fun h => absurd h (by decide +kernel)) ?_
                      clear hK K q1 q2 q3 q4 q5 q6 q7 q8
                      refine wpTill.done (by kernel_rfl) ?_ _
                      have HL4 := Lib.hid (HL3.out.both HTW.out HRW.out HRA.out)
                      go_wp2
                      go_roundw
                      case rel =>
                        exact ⟨k + 1, by omega, by go_num, _, _, _, _, _, HL4.out, by rw [List.length_append, HVL.out]; rfl, by rw [List.length_append, HUL.out]; rfl, HU2.out⟩
                      case measure => simp [intOf]; omega
                    exact AllTill.nil
                  exact AllTill.nil
                exact AllTill.nil
              exact AllTill.nil
            exact AllTill.nil
          refine AllTill.cons (i := 19) (rs := []) (by rfl) (fun K hK => ?_) ?_
          · go_simp
            have HTW := Lib.hid (HTW.out.bB (n := wr.heap.size) (by simp))
            refine hK.out _ _ (HSS.out _ _ HTW.out.t HNN2.out) (fun _ => HLF.out _ HTW.out.t) ?_
            clear hK K
            refine wpTill.ready (rs := [7]) (by kernel_rfl) (by simp) ?_
            refine AllTill.cons (i := 7) (rs := []) (by rfl) (fun K hK => ?_) ?_
            · go_simp
              have HTW := Lib.hid (HTW.out.bA (n := wr.heap.size + 1) (by simp))
              refine hK.out _ _ (HSS.out _ _ HTW.out.t HNN2.out) (fun _ => HLF.out _ HTW.out.t) ?_
              clear hK K
              refine wpTill.ready (rs := [8]) (by kernel_rfl) (by simp) ?_
              refine AllTill.cons (i := 8) (rs := []) (by rfl) (fun K hK => ?_) ?_
              · refine step_twA rfl _ _ rfl (by rfl) (by rfl) HTW.out HB.out.1 rfl HB.out.2.1 ?_
                intro v8 w28 h1
                obtain ⟨xa8, xn8, xc8, rfl⟩ : ∃ a z c, v8 = Value.slice a z c := (by obtain ⟨a, c, e, _⟩ := h1.a.shape; exact ⟨a, _, c, e⟩)
                have HTW := Lib.hid h1
                clear h1
                simp only [Act.put, List.setIfInBounds_toArray, List.set_cons_zero, List.set_cons_succ]
                refine hK.out _ _ (HSS.out _ _ HTW.out.t HNN2.out) (fun _ => HLF.out _ HTW.out.t) ?_
                clear hK K
                refine wpTill.ready (rs := [20]) (by kernel_rfl) (by simp) ?_
                refine AllTill.cons (i := 20) (rs := []) (by rfl) (fun K hK => ?_) ?_
                · refine step_twB rfl _ _ rfl (by rfl) (by rfl) HTW.out HB.out.1 rfl HB.out.2.2 ?_
                  intro v20 w40 h1
                  obtain ⟨xa20, xn20, xc20, rfl⟩ : ∃ a z c, v20 = Value.slice a z c := (by obtain ⟨a, c, e, _⟩ := h1.b.shape; exact ⟨a, _, c, e⟩)
                  have HTW := Lib.hid h1
                  clear h1
                  simp only [Act.put, List.setIfInBounds_toArray, List.set_cons_zero, List.set_cons_succ]
                  refine hK.out _ _ (HSS.out _ _ HTW.out.t HNN2.out) (fun _ => HLF.out _ HTW.out.t) ?_
                  clear hK K
                  refine wpTill.takeS (i := 21) (v := ?v26) (some 75) rfl rfl (by kernel_rfl) (fun _ _ _ h => h) (Or.inl ⟨by rfl, ?hy26⟩) (HSS.out _ _ HTW.out.t HNN2.out) (fun _ => HLF.out _ HTW.out.t) ?rest26
                  case hy26 => (intro w hSw; try dsimp only at hSw); go_simp; try with_reducible rfl
                  simp only [Act.put, List.setIfInBounds_toArray, List.set_cons_zero, List.set_cons_succ]
                  refine wpTill.takeS (i := 22) (v := ?v27) (some 76) rfl rfl (by kernel_rfl) (fun _ _ _ h => h) (Or.inl ⟨by rfl, ?hy27⟩) (HSS.out _ _ HTW.out.t HNN2.out) (fun _ => HLF.out _ HTW.out.t) ?rest27
                  case hy27 => (intro w hSw; try dsimp only at hSw); go_simp; try with_reducible rfl
                  simp only [Act.put, List.setIfInBounds_toArray, List.set_cons_zero, List.set_cons_succ]
                  refine wpTill.ready (rs := [23]) (by kernel_rfl) (by simp) ?_
                  refine AllTill.cons (i := 23) (rs := []) (by rfl) (fun K hK => ?_) ?_
                  · obtain ⟨q1, q2, q3, q4, q5, q6, q7, q8⟩ := HLF.out _ HTW.out.t
                    go_simp
                    have HTT := Lib.hid ((HTW.out.t.mono (fun z hz => List.mem_append.2 (.inl hz) : ∀ z, z ∈ (Value.slice ha hn' hc).ownBlock.toList ++ (Value.slice va vn vc).ownBlock.toList → z ∈ ((Value.slice ha hn' hc).ownBlock.toList ++ (Value.slice va vn vc).ownBlock.toList) ++ [s])).setCell (p := ⟨s, 5, none⟩) (by simp) (.slice xa8 xn8 xc8))
                    refine hK.out _ _ (HSS.out _ _ HTT.out HNN3.out) (fun h => absurd h (by decide +kernel)) ?_
                    clear hK K
                    refine wpTill.takeS (i := 24) (v := ?v28) (some 77) rfl rfl (by kernel_rfl) (fun _ _ _ h => h) (Or.inl ⟨by rfl, ?hy28⟩) (HSS.out _ _ HTT.out HNN3.out) (fun h => absurd h (by decide +kernel)) ?rest28
                    case hy28 => (intro w hSw; try dsimp only at hSw); go_simp; try with_reducible rfl
                    simp only [Act.put, List.setIfInBounds_toArray, List.set_cons_zero, List.set_cons_succ]
                    refine wpTill.takeS (i := 25) (v := ?v29) (some 78) rfl rfl (by kernel_rfl) (fun _ _ _ h => h) (Or.inl ⟨by rfl, ?hy29⟩) (HSS.out _ _ HTT.out HNN3.out) (fun h => absurd h (by decide +kernel)) ?rest29
                    case hy29 => (intro w hSw; try dsimp only at hSw); go_simp; try with_reducible rfl
                    simp only [Act.put, List.setIfInBounds_toArray, List.set_cons_zero, List.set_cons_succ]
                    refine wpTill.ready (rs := [26]) (by kernel_rfl) (by simp) ?_
                    refine AllTill.cons (i := 26) (rs := []) (by rfl) (fun K hK => ?_) ?_
                    · go_simp
                      have HTT := Lib.hid (HTT.out.setCell (p := ⟨s, 6, none⟩) (by simp) (.slice xa20 xn20 xc20))
                      refine hK.out _ _ (HSS.out _ _ HTT.out HNN3.out) (fun h => absurd h (by decide +kernel)) ?_
                      clear hK K q1 q2 q3 q4 q5 q6 q7 q8
                      refine wpTill.done (by kernel_rfl) ?_ _
                      have HL4 := Lib.hid (HL3.out.both HTW.out HRW.out HRA.out)
                      go_wp2
                      go_roundw
                      case rel =>
                        exact ⟨k + 1, by omega, by go_num, _, _, _, _, _, HL4.out, by rw [List.length_append, HVL.out]; rfl, by rw [List.length_append, HUL.out]; rfl, HU2.out⟩
                      case measure => simp [intOf]; omega
                    exact AllTill.nil
                  exact AllTill.nil
                exact AllTill.nil
              exact AllTill.nil
            exact AllTill.nil
          exact AllTill.nil
    · have hlt : ¬ (k : Int) < (N : Int) := by omega
      obtain rfl : k = N := by omega
      have HF : Hid (LkI W wr s x (.slice pa k pc) av hv cv m.ps m.avl (fun i => m.held (m.ps.getD i 0)) vs us) := Lib.hid (by rw [List.take_of_length_le (by rw [HNL.out]; exact Nat.le_refl _)] at hl; exact hl)
      clear hl hvl hul hus HL
      go_wp2
      go_end0
      exact ⟨rfl, _, _, _, _, _, _, HF.out, HVL.out.trans HNL.out.symm, HUL.out.trans HNL.out.symm, fun i hi => HUS.out i (by rw [← HNL.out]; exact hi)⟩
end Go.Proofs.YticglfmmjgnicaaGreat

set_option linter.unusedVariables false
namespace Go.Proofs.YticglfmmjgnicaaGreat
open Go Go.RowKit

def LookP (w : World) (F : List Nat) (b : Nat) (m : Am) (p : PaP) (e : Ending) (w' : World) : Prop :=
  ∃ s pv av hv cv, e = .returned (.pointer (some ⟨s, 0, none⟩)) ∧ Touch [b] w w' ∧ Pa w' (grow F w w') b m { p with sv := .pointer (some ⟨s, 0, none⟩) } ∧ StP w' (grow F w w') (p.W b) s pv av hv cv m
theorem StP.more {w w' : World} {F W : List Nat} {s : Nat} {pv av hv cv : Value} {m : Am} (h : StP w F W s pv av hv cv m) (ht : Touch [] w w') : StP w' (grow F w w') W s pv av hv cv m :=
  h.to ht (by simp) (fun k hk => grow_mem.2 (.inl hk)) (fun k _ hk => hk)
set_option maxHeartbeats 8000000 in
theorem look_seen (w : World) (F : List Nat) (b : Nat) (m : Am) (p : PaP) (s : Nat) (pv av hv cv : Value) (h : Pa w F b m p) (hsv : p.sv = .pointer (some ⟨s, 0, none⟩)) (hst : StP w F (p.W b) s pv av hv cv m) :
    Calls Tryz.prog 50 #[.pointer (some ⟨b, 0, none⟩)] w (LookP w F b m p) := by
  have hmf : ∀ (fn : Fn) (first cap : Array Value) (w : World), (Instr.makeFunc fn first cap).run Tryz.prog w = .ok (.func fn first cap) w := fun _ _ _ _ => rfl
  have HP := Lib.hid h
  have HS := Lib.hid hst
  have HSV := Lib.hid hsv
  have HT : Hid (Touch [] w ((w.alloc (.cells #[.pointer (some ⟨b, 0, none⟩)] 26)).alloc (.cells #[.pointer (some ⟨s, 0, none⟩)] 71))) := Lib.hid (((Touch.refl [] w).alloc _).alloc _)
  have c5 : (w.alloc (.cells #[.pointer (some ⟨b, 0, none⟩)] 26)).cell? ⟨b, 5, none⟩ = some (.pointer (some ⟨s, 0, none⟩)) := by
    rw [← hsv]; exact (h.blk.touch ((Touch.refl [] w).alloc _) (by simp)).cell (i := 5) rfl
  have s0 : ((w.alloc (.cells #[.pointer (some ⟨b, 0, none⟩)] 26)).alloc (.cells #[.pointer (some ⟨s, 0, none⟩)] 71)).cell? ⟨s, 0, none⟩ = some (.int .u32 1) := by
    obtain ⟨x, hx⟩ := hst.obj
    exact (hx.touch HT.out (by simp)).cell (i := 0) rfl
  have HO := Lib.hid (fun fv => once_done ⟨s, 0, none⟩ 1 (by omega) fv _ s0)
  clear h hst hsv s0
  go_enter Tryz.func50, Tryz.ntmps50
  go_wp2_with fail
  refine (HO.out _).mono ?_
  rintro e w' ⟨rfl, rfl⟩
  have HF : Hid (LookP w F b m p (.returned (.pointer (some ⟨s, 0, none⟩))) ((w.alloc (.cells #[.pointer (some ⟨b, 0, none⟩)] 26)).alloc (.cells #[.pointer (some ⟨s, 0, none⟩)] 71))) :=
    Lib.hid ⟨s, pv, av, hv, cv, rfl, HT.out.mono (by simp), by
      have := HP.out.more HT.out
      rw [show ({ p with sv := .pointer (some ⟨s, 0, none⟩) } : PaP) = p from by rw [← HSV.out]]
      exact this, HS.out.more HT.out⟩
  clear c5
  go_wp2
  go_ret
  exact HF.out
theorem enters {P : Program} {f : FuncId} {fn : Func} {c : Code} (hf : P.funcs[f]? = some fn) (hname : (fn.name == "runtime.NumGoroutine") = false) (hb : fn.body = some c) (args : Array Value) (w : World) : (callFunc f args).run P w = .ok (.enter f args) w := by
  have h1 : fn.name ≠ "runtime.NumGoroutine" := by simpa using hname
  simp [callFunc, go_sem, hf, h1, hb]
theorem look1_enters (args : Array Value) (w : World) : (callFunc 78 args).run Tryz.prog w = .ok (.enter 78 args) w := enters Tryz.func78 (by kernel_rfl) rfl args w
theorem Pb.see {w : World} {F : List Nat} {b : Nat} {m : Am} {p : PaP} (h : Pb w F b m p) (v : Value) : Pb (w.setCell ⟨b, 5, none⟩ v) F b m { p with sv := v } := by
  have ht : Touch [b] w (w.setCell ⟨b, 5, none⟩ v) := (Touch.refl [b] w).setCell (by simp) _
  have hw : ∀ k, k ∈ [b] → k ∈ F → k ∈ p.W b := fun k h1 _ => by simp at h1; subst h1; simp [PaP.W]
  have hs : ∀ k, k ∈ F → k ∈ p.W b → k ∈ p.W b := fun k _ hk => hk
  have hnd := h.nd
  have n1 : p.bc ∉ [b] := by simp [PaP.W] at hnd ⊢; exact fun e => hnd.1.1 e.symm
  have n2 : p.bh ∉ [b] := by simp [PaP.W] at hnd ⊢; exact fun e => hnd.1.2.1 e.symm
  have n3 : ∀ k, p.pv.ownBlock = some k → k ∉ [b] := by intro k hk; simp [PaP.W, hk] at hnd ⊢; exact fun e => hnd.1.2.2 e.symm
  obtain ⟨base, hp⟩ := h.pend
  refine ⟨h.obj.set 5 v, fun k hk => Nat.lt_of_lt_of_le (h.lt k hk) ht.size, h.fw, h.nd, h.tot.to ht hw (fun k hk => hk) hs, h.mc.touch ht n1, fun q => ⟨fun hq => ?_, (h.mcv q).2⟩, h.mh.touch ht n2, h.mhv, ⟨base, hp.touch ht n3⟩, fun i hi => (h.pu i hi).to ht hw (fun k hk => hk) hs⟩
  obtain ⟨v, h1, h2⟩ := (h.mcv q).1 hq
  exact ⟨v, h1, h2.to ht hw (fun k hk => hk) hs⟩
set_option maxHeartbeats 4000000 in
theorem look_do (w W2 : World) (F : List Nat) (b s qa qn : Nat) (m : Am) (p : PaP) (ok : m.Ok) (sn : w.heap.size ≤ s) (an : w.heap.size ≤ qa) (nn : w.heap.size ≤ qn) (sa : qa ≠ s) (sq : qn ≠ s) (hl : ∀ k, k ∈ F → k < w.heap.size)
    (ht : Touch [b] w W2) (hp : Pb W2 F b m { p with sv := .pointer (some ⟨s, 0, none⟩) }) (ha : Blk W2 qa #[.pointer (some ⟨b, 0, none⟩)] 26) (hn : Blk W2 qn #[.pointer (some ⟨s, 0, none⟩)] 71)
    (hs : Blk W2 s #[.int .u32 0, .int .i32 0, .int .u32 0, .slice none 0 0, .slice none 0 0, .slice none 0 0, .slice none 0 0] 89) :
    Calls Tryz.prog 77 #[.pointer (some ⟨s, 0, none⟩), .func (.func 78) #[] #[.pointer (some ⟨qa, 0, none⟩), .pointer (some ⟨qn, 0, none⟩)]] W2 fun e w' => e = .returned (.tuple #[]) ∧ w'.cell? ⟨qn, 0, none⟩ = some (.pointer (some ⟨s, 0, none⟩)) ∧ LookP w F b m p (.returned (.pointer (some ⟨s, 0, none⟩))) w' := by
  have sF : s ∉ F := fun h => by have := hl s h; omega
  have bF : b ∈ F := hp.fw b (by simp [PaP.W])
  have t1 : Touch [s] W2 (W2.setCell ⟨s, 1, none⟩ (.int .i32 1)) := (Touch.refl [s] W2).setCell (by simp) _
  have hk := lk_any (W2.setCell ⟨s, 1, none⟩ (.int .i32 1)) F b s qa qn m _ (.int .u32 0) (hp.touch t1 (fun k hk => by simp at hk; rw [hk]; exact sF) (fun k hk => hk) (fun k hk => Nat.lt_of_lt_of_le (hp.lt k hk) t1.size)) ok
    (ha.touch t1 (by simpa using sa)) (hn.touch t1 (by simpa using sq)) (hs.set 1 (.int .i32 1)) sF sa sq
  refine (once_first s 0 78 _ W2 _ look1_enters (hs.cell (i := 0) rfl) (hs.cell (i := 1) rfl) (hs.free 1) hk ?_).mono ?_
  · rintro w' ⟨pv, av, hv, cv, vs, us, h, _, _, _⟩
    exact ⟨h.obj.cell (i := 0) rfl, h.obj.cell (i := 1) rfl, h.obj.free 0, h.obj.free 1⟩
  · rintro e w' ⟨rfl, w1, ⟨pv, av, hv, cv, vs, us, h, hvl, hul, hus⟩, rfl⟩
    have t2 : Touch [s] w1 ((w1.drew.setCell ⟨s, 0, none⟩ (.int .u32 1)).setCell ⟨s, 0 + 1, none⟩ (.int .i32 0)) := (((Touch.refl [s] w1).drew).setCell (by simp) _).setCell (by simp) _
    have ob : Blk ((w1.drew.setCell ⟨s, 0, none⟩ (.int .u32 1)).setCell ⟨s, 0 + 1, none⟩ (.int .i32 0)) s #[.int .u32 1, .int .i32 0, .int .u32 0, pv, av, hv, cv] 89 := ((h.obj.touch ((Touch.refl [] w1).drew) (by simp)).set 0 (.int .u32 1)).set 1 (.int .i32 0)
    obtain ⟨w', hw'⟩ : ∃ w', ((w1.drew.setCell ⟨s, 0, none⟩ (.int .u32 1)).setCell ⟨s, 0 + 1, none⟩ (.int .i32 0)) = w' := ⟨_, rfl⟩
    rw [hw'] at t2 ob ⊢
    obtain ⟨Wx, hWx⟩ : ∃ Wx, W2.setCell ⟨s, 1, none⟩ (.int .i32 1) = Wx := ⟨_, rfl⟩
    rw [hWx] at h t1
    have t12 := t1.trans (h.t.trans t2)
    have hsz : w.heap.size ≤ Wx.heap.size := Nat.le_trans ht.size t1.size
    have hall : Touch [b] w w' := ht.transF t12 (fun i hi hlt => by simp at hi; omega)
    have hT : ∀ k, k ∈ [s] → k ∉ F := fun k hk => by simp at hk; rw [hk]; exact sF
    have hF : ∀ k, k ∈ F → k ∈ grow F w w' := fun k hk => grow_mem.2 (.inl hk)
    have hW : ∀ k, k ∈ p.W b → k < w.heap.size := fun k hk => hl k (hp.fw k hk)
    have own : ∀ v (zs : List Value) t, Qu w1 Wx.heap.size t v zs → Qu w' w.heap.size t v zs := fun v zs t hq => (hq.mono hsz).touch t2 (fun k hk hm => by have := (hq.own k hk).1; have := h.sl; simp at hm; omega)
    have im : ∀ v xs, Qu w1 Wx.heap.size 3 v (xs.map (Value.int .i64)) → Im w' (grow F w w') (p.W b) v xs := fun v xs hq => Own.im (own _ _ _ hq) hW
    have gm : ∀ v (zs : List Value) t, Qu w1 Wx.heap.size t v zs → ∀ k, v.ownBlock = some k → k ∈ grow F w w' ∧ k ∉ p.W b := fun v zs t hq k hk => by
      have := (own v zs t hq).own k hk
      exact ⟨grow_mem.2 (.inr ⟨this.1, this.2⟩), fun hm => by have := hW k hm; omega⟩
    have st : StP w' (grow F w w') (p.W b) s pv av hv cv m := by
      refine ⟨⟨_, ob⟩, ⟨grow_mem.2 (.inr ⟨sn, ob.lt⟩), fun hm => sF (hp.fw s hm)⟩, im _ _ h.p, im _ _ h.a, ⟨vs, by rw [hvl, Am.hs, List.length_map], gm _ _ _ h.h, ⟨_, own _ _ _ h.h⟩, fun i hi => ?_⟩, ⟨us, by rw [hul, Am.cs, List.length_map], gm _ _ _ h.c, ⟨_, own _ _ _ h.c⟩, fun i hi => ?_⟩⟩
      · rw [Am.hs, List.length_map] at hi
        rw [show rw_ m.hs i = m.held (m.ps.getD i 0) from by simp [rw_, Am.hs, hi]]
        exact im _ _ (h.r i (by rw [hvl]; exact hi)).1
      · rw [Am.cs, List.length_map] at hi
        rw [show rw_ m.cs i = m.claim (m.ps.getD i 0) from by simp [rw_, Am.cs, hi]]
        have hq : m.ps.getD i 0 ∈ m.ps := by rw [show m.ps.getD i 0 = m.ps[i] from by simp [hi]]; exact List.getElem_mem hi
        obtain ⟨v, h1, h2⟩ := (hp.mcv _).1 hq
        have h3 := hus i hi
        rw [h1] at h3
        cases h3
        exact h2.to t12 (fun k hk h => absurd h (hT k hk)) hF (fun k _ hk => hk)
    exact ⟨rfl, (hn.touch t12 (by simpa using sq)).cell (i := 0) rfl, s, pv, av, hv, cv, rfl, hall, ⟨hp.touch t12 hT hF (fun k hk => by rcases grow_mem.1 hk with e | e; exact Nat.lt_of_lt_of_le (hl k e) hall.size; exact e.2), .inr ⟨s, pv, av, hv, cv, rfl, st⟩⟩, st⟩
set_option maxHeartbeats 8000000 in
theorem look_nil (w : World) (F : List Nat) (b : Nat) (m : Am) (p : PaP) (h : Pb w F b m p) (ok : m.Ok) (hsv : p.sv = .pointer none) :
    Calls Tryz.prog 50 #[.pointer (some ⟨b, 0, none⟩)] w (LookP w F b m p) := by
  have hmf : ∀ (fn : Fn) (first cap : Array Value) (w : World), (Instr.makeFunc fn first cap).run Tryz.prog w = .ok (.func fn first cap) w := fun _ _ _ _ => rfl
  have hbl := h.blk.lt
  have c5 : (w.alloc (.cells #[.pointer (some ⟨b, 0, none⟩)] 26)).cell? ⟨b, 5, none⟩ = some (.pointer none) := by
    rw [← hsv]; exact (h.blk.touch ((Touch.refl [] w).alloc _) (by simp)).cell (i := 5) rfl
  have c5' : w.cell? ⟨b, 5, none⟩ = some (.pointer none) := by rw [← hsv]; exact h.blk.cell (i := 5) rfl
  have x5 : (w.setCell ⟨b, 5, none⟩ (.pointer (some ⟨w.heap.size + 1, 0, none⟩))).cell? ⟨b, 5, none⟩ = some (.pointer (some ⟨w.heap.size + 1, 0, none⟩)) := World.cell?_setCell_same w _ _ c5'
  have f5 := h.blk.free 5
  have HD := Lib.hid (look_do w ((((w.setCell ⟨b, 5, none⟩ (.pointer (some ⟨w.heap.size + 1, 0, none⟩))).alloc (.cells #[.pointer (some ⟨b, 0, none⟩)] 26)).alloc (.cells #[.int .u32 0, .int .i32 0, .int .u32 0, .slice none 0 0, .slice none 0 0, .slice none 0 0, .slice none 0 0] 89)).alloc (.cells #[.pointer (some ⟨w.heap.size + 1, 0, none⟩)] 71))
    F b (w.heap.size + 1) w.heap.size (w.heap.size + 1 + 1) m p ok (by omega) (by omega) (by omega) (by omega) (by omega) h.lt (((((Touch.refl [b] w).setCell (by simp) _).alloc _).alloc _).alloc _)
    ((h.see _).same ((((Touch.refl [] _).alloc _).alloc _).alloc _)) (((Blk.new (by simp)).alloc _).alloc _) (Blk.new (by simp)) ((Blk.new (by simp)).alloc _))
  clear h hsv ok
  go_enter Tryz.func50, Tryz.ntmps50
  go_wp2_with fail
  refine HD.out.mono ?_
  rintro e w' ⟨rfl, hc, hL⟩
  have HL := Lib.hid hL
  clear hL HD c5 c5' x5 f5
  go_wp2
  go_ret
  exact HL.out
theorem look_any (w : World) (F : List Nat) (b : Nat) (m : Am) (p : PaP) (h : Pa w F b m p) (ok : m.Ok) :
    Calls Tryz.prog 50 #[.pointer (some ⟨b, 0, none⟩)] w (LookP w F b m p) := by
  rcases h.seen with e | ⟨s, pv, av, hv, cv, e, hs⟩
  · exact look_nil w F b m p h.toPb ok e
  · exact look_seen w F b m p s pv av hv cv h e hs
end Go.Proofs.YticglfmmjgnicaaGreat

set_option linter.unusedVariables false
namespace Go.Proofs.YticglfmmjgnicaaGreat
open Go Go.RowKit

/-- A call has read: the state may have been looked at, nothing else. -/
def Rd (w : World) (F : List Nat) (b : Nat) (m : Am) (p : PaP) (F' : List Nat) (w' : World) : Prop := ∃ sv, Fr F w F' w' ∧ Touch [b] w w' ∧ Pa w' F' b m { p with sv := sv }
theorem Rd.of {w w1 w' : World} {F : List Nat} {b : Nat} {m : Am} {p : PaP} {sv : Value} (hl : ∀ k, k ∈ F → k < w.heap.size) (hb : b ∈ F) (t : Touch [b] w w1) (h : Pa w1 (grow F w w1) b m { p with sv := sv }) (t2 : Touch [] w1 w') : Rd w F b m p (grow F w w1) w' := by
  have f1 := grow_fr hl (t.mono (by intro k hk; simp at hk; rw [hk]; exact hb) : Touch F w w1)
  exact ⟨sv, f1.trans (Fr.same t2 f1.l), t.trans (t2.mono (by simp)), h.same t2⟩
def RdOwn (w : World) (F : List Nat) (b : Nat) (m : Am) (p : PaP) (xs : List Int) (e : Ending) (w' : World) : Prop :=
  ∃ v F', e = .returned v ∧ Rd w F b m p F' w' ∧ Qu w' w.heap.size 3 v (xs.map (Value.int .i64)) ∧ ∀ k, v.ownBlock = some k → k ∉ F'
theorem RdOwn.of {w w1 w' : World} {F : List Nat} {b : Nat} {m : Am} {p : PaP} {sv v : Value} {xs : List Int} (hl : ∀ k, k ∈ F → k < w.heap.size) (hb : b ∈ F) (t : Touch [b] w w1) (h : Pa w1 (grow F w w1) b m { p with sv := sv }) (t2 : Touch [] w1 w') (hv : Qu w' w1.heap.size 3 v (xs.map (Value.int .i64))) : RdOwn w F b m p xs (.returned v) w' :=
  ⟨v, _, rfl, Rd.of hl hb t h t2, hv.mono t.size, fun k hk hm => by
    have := (hv.own k hk).1
    rcases grow_mem.1 hm with e | e
    · have := hl k e; have := t.size; omega
    · omega⟩
set_option maxHeartbeats 4000000 in
theorem avail_any (w : World) (F : List Nat) (b : Nat) (m : Am) (p : PaP) (h : Pa w F b m p) (ok : m.Ok) :
    Calls Tryz.prog 17 #[.pointer (some ⟨b, 0, none⟩)] w (RdOwn w F b m p m.avl) := by
  have HL := Lib.hid (look_any w F b m p h ok)
  have hbF : b ∈ F := h.fw b (by simp [PaP.W])
  have HF := Lib.hid (And.intro h.lt hbF)
  have HN : Hid (m.avl.length ≤ 1000000) := Lib.hid (by rw [m.avl_length]; have := ok.nt; omega)
  clear h ok hbF
  go_enter Tryz.func17, Tryz.ntmps17
  go_wp2_with fail
  refine HL.out.mono ?_
  rintro e w1 ⟨s, pv, av, hv, cv, rfl, t, hpa, hst⟩
  obtain ⟨x, hx⟩ := hst.obj
  have c4 : w1.cell? ⟨s, 4, none⟩ = some av := hx.cell (i := 4) rfl
  have HC := Lib.hid (clone_any av m.avl w1 hst.av.1 HN.out)
  have HP := Lib.hid (And.intro t hpa)
  clear hst hx t hpa HL
  go_wp2_with fail
  refine HC.out.mono ?_
  rintro e w' ⟨v, rfl, hq, t2⟩
  have HR := Lib.hid (RdOwn.of HF.out.1 HF.out.2 HP.out.1 HP.out.2 t2 hq)
  clear hq t2
  go_wp2
  go_ret
  exact HR.out
set_option maxHeartbeats 4000000 in
theorem pids_any (w : World) (F : List Nat) (b : Nat) (m : Am) (p : PaP) (h : Pa w F b m p) (ok : m.Ok) :
    Calls Tryz.prog 18 #[.pointer (some ⟨b, 0, none⟩)] w (RdOwn w F b m p m.ps) := by
  have HL := Lib.hid (look_any w F b m p h ok)
  have hbF : b ∈ F := h.fw b (by simp [PaP.W])
  have HF := Lib.hid (And.intro h.lt hbF)
  have HN : Hid (m.ps.length ≤ 1000000) := Lib.hid (by have := ok.few; omega)
  clear h ok hbF
  go_enter Tryz.func18, Tryz.ntmps18
  go_wp2_with fail
  refine HL.out.mono ?_
  rintro e w1 ⟨s, pv, av, hv, cv, rfl, t, hpa, hst⟩
  obtain ⟨x, hx⟩ := hst.obj
  have c3 : w1.cell? ⟨s, 3, none⟩ = some pv := hx.cell (i := 3) rfl
  have HC := Lib.hid (clone_any pv m.ps w1 hst.ps.1 HN.out)
  have HP := Lib.hid (And.intro t hpa)
  clear hst hx t hpa HL
  go_wp2_with fail
  refine HC.out.mono ?_
  rintro e w' ⟨v, rfl, hq, t2⟩
  have HR := Lib.hid (RdOwn.of HF.out.1 HF.out.2 HP.out.1 HP.out.2 t2 hq)
  clear hq t2
  go_wp2
  go_ret
  exact HR.out
set_option maxHeartbeats 4000000 in
theorem asafe_any (w : World) (F : List Nat) (b : Nat) (m : Am) (p : PaP) (h : Pa w F b m p) (ok : m.Ok) :
    Calls Tryz.prog 23 #[.pointer (some ⟨b, 0, none⟩)] w fun e w' => e = .returned (.bool m.safe) ∧ ∃ F', Rd w F b m p F' w' := by
  have HL := Lib.hid (look_any w F b m p h ok)
  have hbF : b ∈ F := h.fw b (by simp [PaP.W])
  have HF := Lib.hid (And.intro h.lt hbF)
  clear h ok hbF
  go_enter Tryz.func23, Tryz.ntmps23
  go_wp2_with fail
  refine HL.out.mono ?_
  rintro e w1 ⟨s, pv, av, hv, cv, rfl, t, hpa, hst⟩
  obtain ⟨x, hx⟩ := hst.obj
  have c4 : w1.cell? ⟨s, 4, none⟩ = some av := hx.cell (i := 4) rfl
  have c5 : w1.cell? ⟨s, 5, none⟩ = some hv := hx.cell (i := 5) rfl
  have c6 : w1.cell? ⟨s, 6, none⟩ = some cv := hx.cell (i := 6) rfl
  have HC := Lib.hid (safe_any av hv cv m.avl m.hs m.cs m.safe w1.drew (hst.av.1.touch (Touch.refl [] w1).drew (by simp)) (hst.hs.to (Touch.refl [] w1).drew (by simp) (fun k hk => hk) (fun k _ hk => hk)).rws (hst.cs.to (Touch.refl [] w1).drew (by simp) (fun k hk => hk) (fun k _ hk => hk)).rws rfl)
  have HP := Lib.hid (And.intro t hpa)
  have HX : Hid (∀ w', Touch [] w1 w' → w'.cell? ⟨s, 4, none⟩ = some av ∧ w'.cell? ⟨s, 5, none⟩ = some hv ∧ w'.cell? ⟨s, 6, none⟩ = some cv) := Lib.hid (fun w' h => ⟨(hx.touch h (by simp)).cell (i := 4) rfl, (hx.touch h (by simp)).cell (i := 5) rfl, (hx.touch h (by simp)).cell (i := 6) rfl⟩)
  clear hst hx t hpa HL
  go_wp2_with fail
  go_region_held_law (fun w' => w'.cell? ⟨s, 4, none⟩ = some av ∧ w'.cell? ⟨s, 5, none⟩ = some hv ∧ w'.cell? ⟨s, 6, none⟩ = some cv) (first | exact HX.out _ ((Touch.refl [] w1).drew) | exact HX.out _ HT2.out)
    ((go_at_call 31; refine HC.out.mono ?_; rintro e w' ⟨rfl, t2⟩; have HT2 := Lib.hid (((Touch.refl [] w1).drew).trans t2); clear t2))
  have HR := Lib.hid (Rd.of HF.out.1 HF.out.2 HP.out.1 HP.out.2 HT2.out)
  go_wp2
  go_ret
  exact ⟨rfl, _, HR.out⟩
end Go.Proofs.YticglfmmjgnicaaGreat
