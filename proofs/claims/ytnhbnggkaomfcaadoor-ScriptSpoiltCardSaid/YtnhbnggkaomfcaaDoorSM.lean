/-
  Jobs as texts: Read.
-/
import Derived.Test.YtnhbnggkaomfcaaDoorSK
import Derived.Deep.RegionHeld3
set_option linter.unusedVariables false
namespace Go.Proofs.YtnhbnggkaomfcaaDoor
open Go.RowKit Go.Shelf Go

attribute [local go_sem] Oper.semAt_some
theorem lines_stops (n : Nat) (hn : 1 ≤ n) (bs : Nat) (s : List UInt8) (hs : s.length ≤ 100000) (hs2 : s.length ≤ 100000) (w : World) (hx : Blk w bs #[.string (mk s)] 9) :
    SeqMv Fence.wide n Tryd.prog 23 #[.pointer (some ⟨bs, 0, none⟩)] encL2 (SameS bs) (MvS bs) (fun zs => zs = upP s hs2 (pieces s).length) (fun pre => ∃ k, k ≤ (pieces s).length ∧ pre = upP s hs2 k) (pieces s).length w := fun l J Jx W hW _ hJM hY h0 =>
  lines1_in n hn l bs s hs hs2 J Jx hJM hY W (hx.touch (Touch.of_below hW) (by simp)) h0
/-- Blocks of cells abide what a loop's book-keeping does. -/
theorem Blk.own {W W' : World} {k B : Nat} {c : Array Value} {t : TypeId} {row : Option Nat} (h : Blk W k c t) (hg : W.grownBy W' row) (hr : ∀ r, row = some r → B ≤ r ∧ ∃ o : Obj, W.heap[r]? = some o ∧ o.isCells = false) : Blk W' k c t := by
  unfold Blk at h ⊢
  rw [hg.block k (Array.getElem?_eq_some_iff.1 h).1 (fun e => by
    obtain ⟨_, o, ho, hc⟩ := hr k e.symm
    rw [h] at ho; cases ho; cases hc)]
  exact h
theorem Qu.ownB {W W' : World} {base B : Nat} {e : TypeId} {v : Value} {xs : List Value} {row : Option Nat} (h : Qu W base e v xs) (hg : W.grownBy W' row) (hr : ∀ r, row = some r → B ≤ r ∧ ∃ o : Obj, W.heap[r]? = some o ∧ o.isCells = false) : Qu W' base e v xs := by
  rcases h with h | ⟨g, off, cap, cur, rfl, hb, hk, h1, h2, h3⟩
  · exact .inl h
  · exact .inr ⟨g, off, cap, cur, rfl, hb, Blk.own hk hg hr, h1, h2, h3⟩
theorem JB.ownB {W W' : World} {b B base : Nat} {j : Jb} {row : Option Nat} (h : JB W b base j) (hg : W.grownBy W' row) (hr : ∀ r, row = some r → B ≤ r ∧ ∃ o : Obj, W.heap[r]? = some o ∧ o.isCells = false) : JB W' b base j := by
  obtain ⟨vi, vp, h1, h2, h3⟩ := h
  exact ⟨vi, vp, Blk.own h1 hg hr, Qu.ownB h2 hg hr, Qu.ownB h3 hg hr⟩
def lastN (pre : List Ln) : Nat := match pre.getLast? with
  | some x => x.1.1 + 1
  | none => 0
theorem lastN_snoc (pre : List Ln) (x : Ln) : lastN (pre ++ [x]) = x.1.1 + 1 := by unfold lastN; simp
theorem lastN_up (s : List UInt8) (hs : s.length ≤ 100000) (k : Nat) (hk : k ≤ 999999) : lastN (upP s hs k) = k := by
  cases k with
  | zero => rfl
  | succ k =>
    have hlen : ((pieces s).getD k []).length ≤ 100000 := by
      rw [List.getD_eq_getElem?_getD]
      cases h : (pieces s)[k]? with
      | none => simp
      | some p => have := pieces_mem s p (List.mem_of_getElem? h); simp; omega
    rw [upP_succ s hs k (by omega) _ rfl ⟨by omega, hlen⟩, lastN_snoc]
def zC : Array Value := #[.bool false, .int .i64 0, .int .i64 0, .int .i64 0, .slice none 0 0, .slice none 0 0]
/-- Between two lines: the lines so far are as they must be, and the job is what they make. -/
structure RdI (w0 : World) (b B : Nat) (pre : List Ln) (W : World) : Prop where
  good : GoodP pre
  r0 : Blk W b zC 26
  r1 : Blk W (b + 1) #[.int .i64 0] 3
  r2 : Blk W (b + 2) #[.int .i64 0] 29
  job : JB W (b + 3) B (jF pre)
  last : Blk W (b + 4) #[.int .i64 (lastN pre : Int)] 3
  tt : Touch [] w0 W
  sz : B ≤ W.heap.size
structure RdX (w0 : World) (b B : Nat) (pre : List Ln) (W : World) : Prop where
  bad : ∃ q x, pre = q ++ [x] ∧ GoodP q ∧ ¬ (x.1.1 < 4 ∧ okP x.1.1 x.1.2)
  r0 : Blk W b zC 26
  r1 : Blk W (b + 1) #[.int .i64 (lastN pre : Int)] 3
  r2 : Blk W (b + 2) #[.int .i64 6] 29
  tt : Touch [] w0 W
theorem RdI.own {w0 W W' : World} {b B D : Nat} {pre : List Ln} {row : Option Nat} (h : RdI w0 b B pre W) (hg : W.grownBy W' row) (hD : w0.heap.size ≤ D) (hr : ∀ r, row = some r → D ≤ r ∧ ∃ o : Obj, W.heap[r]? = some o ∧ o.isCells = false) : RdI w0 b B pre W' :=
  ⟨h.good, Blk.own h.r0 hg hr, Blk.own h.r1 hg hr, Blk.own h.r2 hg hr, h.job.ownB hg hr, Blk.own h.last hg hr, h.tt.grown hg (fun k e hlt => by have := (hr k e).1; omega), Nat.le_trans h.sz hg.size⟩
theorem RdX.own {w0 W W' : World} {b B D : Nat} {pre : List Ln} {row : Option Nat} (h : RdX w0 b B pre W) (hg : W.grownBy W' row) (hD : w0.heap.size ≤ D) (hr : ∀ r, row = some r → D ≤ r ∧ ∃ o : Obj, W.heap[r]? = some o ∧ o.isCells = false) : RdX w0 b B pre W' :=
  ⟨h.bad, Blk.own h.r0 hg hr, Blk.own h.r1 hg hr, Blk.own h.r2 hg hr, h.tt.grown hg (fun k e hlt => by have := (hr k e).1; omega)⟩
theorem RdI.mv {w0 W W' : World} {b B bs : Nat} {pre : List Ln} (h : RdI w0 b B pre W) (hm : MvS bs W W') (hb : w0.heap.size ≤ b) (hbs : bs = b + 5) (hB : bs < B) : RdI w0 b B pre W' := by
  obtain ⟨v, _, rfl⟩ := hm
  have tb : Touch [bs] W (W.setCell ⟨bs, 0, none⟩ v) := (Touch.refl [bs] W).setCell (by simp) _
  obtain ⟨vi, vp, j1, j2, j3⟩ := h.job
  exact ⟨h.good, h.r0.touch tb (by simp; omega), h.r1.touch tb (by simp; omega), h.r2.touch tb (by simp; omega), ⟨vi, vp, j1.touch tb (by simp; omega), j2.touch tb (fun k hk => by have := (j2.own k hk).1; simp; omega), j3.touch tb (fun k hk => by have := (j3.own k hk).1; simp; omega)⟩, h.last.touch tb (by simp; omega), h.tt.transF tb (fun k hk hlt => by simp at hk; omega), by simpa using h.sz⟩
def RdR (s : List UInt8) (w : World) (e : Ending) (w' : World) : Prop := ∃ v j n c, e = .returned (.tuple #[v, .int .i64 ((n : Nat) : Int), .int .i64 c]) ∧ JobV w' v j ∧ RdS (lnsR s).1 (lnsR s).2 j n c ∧ Touch [] w w'
theorem keeps_touch {S : List Nat} {D : Nat} {W W' : World} (h : Touch S W W') (hs : ∀ k ∈ S, k < D) : KeepsFrom D W W' :=
  ⟨h.size, fun k o hk ho _ => (h.block k (Array.getElem?_eq_some_iff.1 ho).1 (fun hm => by have := hs k hm; omega)).trans ho⟩
def C8 (W : World) (b : Nat) (n : Int) : World := (((((((((W.setCell ⟨b, 0, none⟩ (.bool false)).setCell ⟨b, 1, none⟩ (.int .i64 0)).setCell ⟨b, 2, none⟩ (.int .i64 0)).setCell ⟨b, 3, none⟩ (.int .i64 0)).setCell ⟨b, 4, none⟩ (.slice none 0 0)).setCell ⟨b, 5, none⟩ (.slice none 0 0))).setCell ⟨b + 1, 0, none⟩ (.int .i64 n)).setCell ⟨b + 1 + 1, 0, none⟩ (.int .i64 6))
theorem c8_touch (W : World) (b : Nat) (n : Int) : Touch [b, b + 1, b + 1 + 1] W (C8 W b n) :=
  ((((((((Touch.refl _ W).setCell (by simp) _).setCell (by simp) _).setCell (by simp) _).setCell (by simp) _).setCell (by simp) _).setCell (by simp) _).setCell (by simp) _).setCell (by simp) _
theorem c8_r {W : World} {b : Nat} (n : Int) {v1 v2 : Value} (h0 : Blk W b zC 26) (h1 : Blk W (b + 1) #[v1] 3) (h2 : Blk W (b + 2) #[v2] 29) :
    Blk (C8 W b n) b zC 26 ∧ Blk (C8 W b n) (b + 1) #[.int .i64 n] 3 ∧ Blk (C8 W b n) (b + 2) #[.int .i64 6] 29 := by
  refine ⟨?_, ?_, ?_⟩
  · exact ((((((((h0.set 0 (.bool false)).set 1 (.int .i64 0)).set 2 (.int .i64 0)).set 3 (.int .i64 0)).set 4 (.slice none 0 0)).set 5 (.slice none 0 0)).other (a := ⟨b + 1, 0, none⟩) (by simp) (.int .i64 n)).other (a := ⟨b + 1 + 1, 0, none⟩) (by first | (simp; done) | (simp; omega)) (.int .i64 6))
  · have t6 : Touch [b] W ((((((W.setCell ⟨b, 0, none⟩ (.bool false)).setCell ⟨b, 1, none⟩ (.int .i64 0)).setCell ⟨b, 2, none⟩ (.int .i64 0)).setCell ⟨b, 3, none⟩ (.int .i64 0)).setCell ⟨b, 4, none⟩ (.slice none 0 0)).setCell ⟨b, 5, none⟩ (.slice none 0 0)) :=
      ((((((Touch.refl _ W).setCell (by simp) _).setCell (by simp) _).setCell (by simp) _).setCell (by simp) _).setCell (by simp) _).setCell (by simp) _
    exact ((h1.touch t6 (by simp)).set 0 (.int .i64 n)).other (a := ⟨b + 1 + 1, 0, none⟩) (by simp) (.int .i64 6)
  · have t7 : Touch [b, b + 1] W (((((((W.setCell ⟨b, 0, none⟩ (.bool false)).setCell ⟨b, 1, none⟩ (.int .i64 0)).setCell ⟨b, 2, none⟩ (.int .i64 0)).setCell ⟨b, 3, none⟩ (.int .i64 0)).setCell ⟨b, 4, none⟩ (.slice none 0 0)).setCell ⟨b, 5, none⟩ (.slice none 0 0)).setCell ⟨b + 1, 0, none⟩ (.int .i64 n)) :=
      (((((((Touch.refl _ W).setCell (by simp) _).setCell (by simp) _).setCell (by simp) _).setCell (by simp) _).setCell (by simp) _).setCell (by simp) _).setCell (by simp) _
    exact (h2.touch t7 (by simp)).set 0 (.int .i64 6)
def C9 (W : World) (b : Nat) (x0 x1 x2 x3 x4 x5 : Value) : World := (((((((((W.setCell ⟨b, 0, none⟩ x0).setCell ⟨b, 1, none⟩ x1).setCell ⟨b, 2, none⟩ x2).setCell ⟨b, 3, none⟩ x3).setCell ⟨b, 4, none⟩ x4).setCell ⟨b, 5, none⟩ x5)).setCell ⟨b + 1, 0, none⟩ (.int .i64 0)).setCell ⟨b + 1 + 1, 0, none⟩ (.int .i64 0))
theorem c9_touch (W : World) (b : Nat) (x0 x1 x2 x3 x4 x5 : Value) : Touch [b, b + 1, b + 1 + 1] W (C9 W b x0 x1 x2 x3 x4 x5) :=
  ((((((((Touch.refl _ W).setCell (by simp) _).setCell (by simp) _).setCell (by simp) _).setCell (by simp) _).setCell (by simp) _).setCell (by simp) _).setCell (by simp) _).setCell (by simp) _
theorem c9_r {W : World} {b : Nat} (x0 x1 x2 x3 x4 x5 : Value) {v1 v2 : Value} (h0 : Blk W b zC 26) (h1 : Blk W (b + 1) #[v1] 3) (h2 : Blk W (b + 2) #[v2] 29) :
    Blk (C9 W b x0 x1 x2 x3 x4 x5) b #[x0, x1, x2, x3, x4, x5] 26 ∧ Blk (C9 W b x0 x1 x2 x3 x4 x5) (b + 1) #[.int .i64 0] 3 ∧ Blk (C9 W b x0 x1 x2 x3 x4 x5) (b + 2) #[.int .i64 0] 29 := by
  have t6 : Touch [b] W ((((((W.setCell ⟨b, 0, none⟩ x0).setCell ⟨b, 1, none⟩ x1).setCell ⟨b, 2, none⟩ x2).setCell ⟨b, 3, none⟩ x3).setCell ⟨b, 4, none⟩ x4).setCell ⟨b, 5, none⟩ x5) :=
    ((((((Touch.refl _ W).setCell (by simp) _).setCell (by simp) _).setCell (by simp) _).setCell (by simp) _).setCell (by simp) _).setCell (by simp) _
  refine ⟨?_, ?_, ?_⟩
  · exact ((((((((h0.set 0 x0).set 1 x1).set 2 x2).set 3 x3).set 4 x4).set 5 x5).other (a := ⟨b + 1, 0, none⟩) (by first | (simp; done) | (simp; omega)) (.int .i64 0)).other (a := ⟨b + 1 + 1, 0, none⟩) (by first | (simp; done) | (simp; omega)) (.int .i64 0))
  · exact ((h1.touch t6 (by simp)).set 0 (.int .i64 0)).other (a := ⟨b + 1 + 1, 0, none⟩) (by first | (simp; done) | (simp; omega)) (.int .i64 0)
  · exact ((h2.touch t6 (by simp)).other (a := ⟨b + 1, 0, none⟩) (by first | (simp; done) | (simp; omega)) (.int .i64 0)).set 0 (.int .i64 0)
theorem c8_x {w0 W : World} {b B : Nat} {pre : List Ln} {x : Ln} {v1 v2 : Value} (h0 : Blk W b zC 26) (h1 : Blk W (b + 1) #[v1] 3) (h2 : Blk W (b + 2) #[v2] 29) (ht : Touch [] w0 W) (hb : w0.heap.size ≤ b) (hg : GoodP pre) (hx : ¬ (x.1.1 < 4 ∧ okP x.1.1 x.1.2)) :
    RdX w0 b B (pre ++ [x]) (C8 W b ((x.1.1 : Int) + 1)) := by
  obtain ⟨a0, a1, a2⟩ := c8_r ((x.1.1 : Int) + 1) h0 h1 h2
  exact ⟨⟨pre, x, rfl, hg, hx⟩, a0, by rw [lastN_snoc]; exact a1, a2, ht.transF (c8_touch W b _) (fun k hk hlt => by simp at hk; omega)⟩
set_option maxRecDepth 100000 in
set_option maxHeartbeats 16000000 in
theorem jread_in (n : Nat) (hn : 3 ≤ n) (s : List UInt8) (w : World) (hv : Vs w) (hs : s.length ≤ 100000) :
    CallsIn Fence.wide n Tryd.prog 9 #[.string (mk s)] w (RdR s w) := by
  have HV := Lib.hid hv
  have h1 : 1 ≤ n := by omega
  obtain ⟨b, hb⟩ : ∃ b, w.heap.size = b := ⟨_, rfl⟩
  have HB := Lib.hid hb
  have hn0 : Blk (w.alloc (.cells #[.bool false, .int .i64 0, .int .i64 0, .int .i64 0, .slice none 0 0, .slice none 0 0] 26)) (b) #[.bool false, .int .i64 0, .int .i64 0, .int .i64 0, .slice none 0 0, .slice none 0 0] 26 := Blk.new hb.symm
  have hz0 : (w.alloc (.cells #[.bool false, .int .i64 0, .int .i64 0, .int .i64 0, .slice none 0 0, .slice none 0 0] 26)).heap.size = b + 1 := by simp [hb]
  have ht0 : Touch [] w (w.alloc (.cells #[.bool false, .int .i64 0, .int .i64 0, .int .i64 0, .slice none 0 0, .slice none 0 0] 26)) := (Touch.refl [] w).alloc _
  obtain ⟨W1, hW1⟩ : ∃ x, w.alloc (.cells #[.bool false, .int .i64 0, .int .i64 0, .int .i64 0, .slice none 0 0, .slice none 0 0] 26) = x := ⟨_, rfl⟩
  rw [hW1] at hn0 hz0 ht0
  have hn1 : Blk (W1.alloc (.cells #[.int .i64 0] 3)) (b + 1) #[.int .i64 0] 3 := Blk.new hz0.symm
  have hz1 : (W1.alloc (.cells #[.int .i64 0] 3)).heap.size = b + 1 + 1 := by simp [hz0]
  have ht1 : Touch [] W1 (W1.alloc (.cells #[.int .i64 0] 3)) := (Touch.refl [] W1).alloc _
  obtain ⟨W2, hW2⟩ : ∃ x, W1.alloc (.cells #[.int .i64 0] 3) = x := ⟨_, rfl⟩
  rw [hW2] at hn1 hz1 ht1
  have hn2 : Blk (W2.alloc (.cells #[.int .i64 0] 29)) (b + 1 + 1) #[.int .i64 0] 29 := Blk.new hz1.symm
  have hz2 : (W2.alloc (.cells #[.int .i64 0] 29)).heap.size = b + 1 + 1 + 1 := by simp [hz1]
  have ht2 : Touch [] W2 (W2.alloc (.cells #[.int .i64 0] 29)) := (Touch.refl [] W2).alloc _
  obtain ⟨W3, hW3⟩ : ∃ x, W2.alloc (.cells #[.int .i64 0] 29) = x := ⟨_, rfl⟩
  rw [hW3] at hn2 hz2 ht2
  have hn3 : Blk (W3.alloc (.cells #[.bool false, .int .i64 0, .int .i64 0, .int .i64 0, .slice none 0 0, .slice none 0 0] 26)) (b + 1 + 1 + 1) #[.bool false, .int .i64 0, .int .i64 0, .int .i64 0, .slice none 0 0, .slice none 0 0] 26 := Blk.new hz2.symm
  have hz3 : (W3.alloc (.cells #[.bool false, .int .i64 0, .int .i64 0, .int .i64 0, .slice none 0 0, .slice none 0 0] 26)).heap.size = b + 1 + 1 + 1 + 1 := by simp [hz2]
  have ht3 : Touch [] W3 (W3.alloc (.cells #[.bool false, .int .i64 0, .int .i64 0, .int .i64 0, .slice none 0 0, .slice none 0 0] 26)) := (Touch.refl [] W3).alloc _
  obtain ⟨W4, hW4⟩ : ∃ x, W3.alloc (.cells #[.bool false, .int .i64 0, .int .i64 0, .int .i64 0, .slice none 0 0, .slice none 0 0] 26) = x := ⟨_, rfl⟩
  rw [hW4] at hn3 hz3 ht3
  have hn4 : Blk (W4.alloc (.cells #[.int .i64 0] 3)) (b + 1 + 1 + 1 + 1) #[.int .i64 0] 3 := Blk.new hz3.symm
  have hz4 : (W4.alloc (.cells #[.int .i64 0] 3)).heap.size = b + 1 + 1 + 1 + 1 + 1 := by simp [hz3]
  have ht4 : Touch [] W4 (W4.alloc (.cells #[.int .i64 0] 3)) := (Touch.refl [] W4).alloc _
  obtain ⟨W5, hW5⟩ : ∃ x, W4.alloc (.cells #[.int .i64 0] 3) = x := ⟨_, rfl⟩
  rw [hW5] at hn4 hz4 ht4
  have hn5 : Blk (W5.alloc (.cells #[.string (mk s)] 9)) (b + 1 + 1 + 1 + 1 + 1) #[.string (mk s)] 9 := Blk.new hz4.symm
  have hz5 : (W5.alloc (.cells #[.string (mk s)] 9)).heap.size = b + 1 + 1 + 1 + 1 + 1 + 1 := by simp [hz4]
  have ht5 : Touch [] W5 (W5.alloc (.cells #[.string (mk s)] 9)) := (Touch.refl [] W5).alloc _
  obtain ⟨W6, hW6⟩ : ∃ x, W5.alloc (.cells #[.string (mk s)] 9) = x := ⟨_, rfl⟩
  rw [hW6] at hn5 hz5 ht5
  have hr0 := (((((hn0.touch ht1 (by simp)).touch ht2 (by simp)).touch ht3 (by simp)).touch ht4 (by simp)).touch ht5 (by simp))
  have hr1 := ((((hn1.touch ht2 (by simp)).touch ht3 (by simp)).touch ht4 (by simp)).touch ht5 (by simp))
  have hr2 := (((hn2.touch ht3 (by simp)).touch ht4 (by simp)).touch ht5 (by simp))
  have hr3 := ((hn3.touch ht4 (by simp)).touch ht5 (by simp))
  have hr4 := (hn4.touch ht5 (by simp))
  have htt : Touch [] w W6 := ((((ht0.trans ht1).trans ht2).trans ht3).trans ht4).trans ht5
  have HW : Hid (W1 = W1) := Lib.hid rfl
  refine callsIn_of_wp_marks Tryd.func9 rfl trivial ?_ rfl
  simp only [Tryd.ntmps9, List.size_toArray, List.length_cons, List.length_nil, Nat.reduceAdd, Nat.reduceSub, Array.replicate_succ, Array.replicate_zero, List.push_toArray, List.append_toArray, List.nil_append, List.cons_append]
  clear hv
  have H0 : Hid (RdI w b (b + 6) [] W6) := Lib.hid ⟨(by intro x hx; cases hx), hr0, hr1, hr2, ⟨_, _, hr3, Qu.nil _ _ _, Qu.nil _ _ _⟩, hr4, htt, by rw [hz5]; omega⟩
  have HN5 := Lib.hid hn5
  have HZ := Lib.hid hz5
  have HE1 := Lib.hid hW1
  have HE2 := Lib.hid hW2
  have HE3 := Lib.hid hW3
  have HE4 := Lib.hid hW4
  have HE5 := Lib.hid hW5
  have HE6 := Lib.hid hW6
  clear hn0 hz0 ht0 hW1 hn1 hz1 ht1 hW2 hn2 hz2 ht2 hW3 hn3 hz3 ht3 hW4 hn4 hz4 ht4 hW5 hn5 hz5 ht5 hW6 hr0 hr1 hr2 hr3 hr4 htt HW
  gi_wp2_with (refine ⟨trivial, ?_⟩; gi_at_call 16; refine (lines_in (n - 1) _ _).mono ?_; rintro e w' ⟨rfl, rfl⟩)
  rw [HE1.out, HE2.out, HE3.out, HE4.out, HE5.out, HE6.out]
  clear hb
  refine rangeFunc_mv (F := Fence.wide) rfl h1 (gf := 23) (lb := #[.pointer (some ⟨b + 1 + 1 + 1 + 1 + 1, 0, none⟩)]) rfl trivial (enters_of Tryd.func23 (by kernel_rfl) rfl)
    (lines_stops (n - 1) (by omega) (b + 1 + 1 + 1 + 1 + 1) s hs hs W6 HN5.out)
    (fun h k => Eq.trans k h) (fun W l o o' hl h ho hwk => World.putObj_heap_other (by have := HZ.out; omega))
    (fun A B hm k o hk ho => by obtain ⟨v, _, rfl⟩ := hm; rw [Below.heap_setCell _ _ _ _ (by have := HZ.out; simp; omega)]; exact ho)
    (fun _ => rfl)
    (RdI w b (b + 6)) (fun c pre W => c = .ret ∧ RdX w b (b + 6) pre W)
    (fun pre A B row h hg hr => h.own hg (by have := HZ.out; have := HB.out; omega) hr)
    (fun c pre A B row h hg hr => ⟨h.1, h.2.own hg (by have := HZ.out; have := HB.out; omega) hr⟩)
    (fun pre A B h hm => h.mv hm (by have := HB.out; omega) rfl (by omega))
    H0.out
    (fun x => { tmps := #[.string (mk s), undef, .pointer (some ⟨b, 0, none⟩), .pointer (some ⟨b + 1, 0, none⟩), .pointer (some ⟨b + 1 + 1, 0, none⟩), .pointer (some ⟨b + 1 + 1 + 1, 0, none⟩), .pointer (some ⟨b + 1 + 1 + 1 + 1, 0, none⟩), .int .i64 ((x.1.1 : Int) + 1), .string (mk x.1.2), .string (mk s), .func (.func 23) #[] #[.pointer (some ⟨b + 1 + 1 + 1 + 1 + 1, 0, none⟩)], .int .i64 ((x.1.1 : Int) + 1), .string (mk x.1.2), undef, undef, undef, undef, undef, undef, undef, undef, undef, undef, undef, undef, undef, undef, undef, undef, undef], defers := [] }) ?assign ?body ?done ?stop
  case assign =>
    intro l x W K hK
    unfold encL2
    gi_wp2
    exact hK
  case body =>
    rintro l pre x W hI hl
    obtain ⟨⟨i, line⟩, hi, hll⟩ := x
    dsimp only at hi hll ⊢
    have HI := Lib.hid hI
    have hsz := hI.sz
    have y0 : W.cell? ⟨b, 0, none⟩ = some (.bool false) := hI.r0.cell rfl
    have y1 : W.cell? ⟨b, 1, none⟩ = some (.int .i64 0) := hI.r0.cell rfl
    have y2 : W.cell? ⟨b, 2, none⟩ = some (.int .i64 0) := hI.r0.cell rfl
    have y3 : W.cell? ⟨b, 3, none⟩ = some (.int .i64 0) := hI.r0.cell rfl
    have y4 : W.cell? ⟨b, 4, none⟩ = some (.slice none 0 0) := hI.r0.cell rfl
    have y5 : W.cell? ⟨b, 5, none⟩ = some (.slice none 0 0) := hI.r0.cell rfl
    have z0 := hI.r0.free 0
    have z1 := hI.r0.free 1
    have z2 := hI.r0.free 2
    have z3 := hI.r0.free 3
    have z4 := hI.r0.free 4
    have z5 := hI.r0.free 5
    have a0 : W.cell? ⟨b + 1, 0, none⟩ = some (.int .i64 0) := hI.r1.cell rfl
    have a1 := hI.r1.free 0
    have c0 : W.cell? ⟨b + 1 + 1, 0, none⟩ = some (.int .i64 0) := hI.r2.cell rfl
    have c1 : W.frozen? ⟨b + 1 + 1, 0, none⟩ = false := hI.r2.free 0
    clear hI
    by_cases h4 : 4 ≤ i
    · have hd : decide ((4 : Int) < (i : Int) + 1) = true := dT (by omega)
      gi_wp2
      repeat (refine ⟨trivial, ?_⟩; gi_wp2)
      exact ⟨keeps_touch (c8_touch W b ((i : Int) + 1)) (fun k hk => by have := HZ.out; simp at hk; omega), rfl, c8_x HI.out.r0 HI.out.r1 HI.out.r2 HI.out.tt (by have := HB.out; omega) HI.out.good (fun h => by have : i < 4 := h.1; omega)⟩
    · have hd : decide ((4 : Int) < (i : Int) + 1) = false := dF (by omega)
      have hlm : (mk line).size ≤ 100000 := by rw [mk_size]; exact hll
      have h11 : 1 ≤ n - 1 - 1 := by omega
      have HRD := Lib.hid (read_any (b + 1 + 1 + 1) (b + 6) i (jF pre) (mk line) W (HV.out.touch HI.out.tt) HI.out.job (by omega) hsz hlm hi)
      by_cases hok : okP i line
      · have HRY : Hid (Calls Tryd.prog 17 #[.pointer (some ⟨b + 1 + 1 + 1, 0, none⟩), .int .i64 ((i : Int) + 1), .string (mk line)] W fun e W2 => e = .returned (.bool true) ∧ Touch [b + 1 + 1 + 1] W W2 ∧ JB W2 (b + 1 + 1 + 1) (b + 6) (putL i line.dropLast (jF pre))) := Lib.hid (HRD.out.mono (fun e W2 h => by
          obtain ⟨ht, ⟨_, h1, h2⟩ | ⟨h1, _⟩⟩ := h
          · rw [mk_list] at h2; exact ⟨h1, ht, h2⟩
          · rw [mk_list] at h1; exact absurd hok h1))
        have HOK := Lib.hid hok
        clear hok HRD
        gi_wp2_with (refine ⟨trivial, ?_⟩; gi_at_call 17; refine (CallsIn.inRound l (callsIn_wide.2 HRY.out)).mono ?_; rintro e W2 ⟨rfl, ht, hj⟩; have HT2 := Lib.hid ht; have HJ2 := Lib.hid hj; have hl2 := HI.out.last.touch ht (by first | (simp; done) | (simp; omega)); have q0 : W2.cell? ⟨b + 1 + 1 + 1 + 1, 0, none⟩ = some (.int .i64 (lastN pre : Int)) := hl2.cell rfl; have q1 : W2.frozen? ⟨b + 1 + 1 + 1 + 1, 0, none⟩ = false := hl2.free 0; clear ht hj hl2)
        have ts : Touch [b + 1 + 1 + 1 + 1] W2 (W2.setCell ⟨b + 1 + 1 + 1 + 1, 0, none⟩ (.int .i64 ((i : Int) + 1))) := (Touch.refl _ W2).setCell (by simp) _
        obtain ⟨vi, vp, j1, j2, j3⟩ := HJ2.out
        have hs2 := HT2.out.size
        refine ⟨keeps_touch ((HT2.out.mono (by simp)).trans (ts.mono (by simp) : Touch [b + 1 + 1 + 1, b + 1 + 1 + 1 + 1] _ _)) (fun k hk => by have := HZ.out; simp at hk; omega), ?_, ?_⟩
        · exact (ts.block _ (Nat.lt_of_lt_of_le (by omega) hs2) (by simp)).trans (HT2.out.block _ (by omega) (by first | (simp; done) | (simp; omega)))
        · refine ⟨?_, (HI.out.r0.touch HT2.out (by first | (simp; done) | (simp; omega))).touch ts (by first | (simp; done) | (simp; omega)), (HI.out.r1.touch HT2.out (by first | (simp; done) | (simp; omega))).touch ts (by first | (simp; done) | (simp; omega)), (HI.out.r2.touch HT2.out (by first | (simp; done) | (simp; omega))).touch ts (by first | (simp; done) | (simp; omega)), ?_, ?_, ?_, by first | (simp; done) | (simp; omega)⟩
          · intro x hx
            rcases List.mem_append.1 hx with h | h
            · exact HI.out.good x h
            · rw [List.mem_singleton] at h; subst h; exact ⟨(show i < 4 by omega), HOK.out⟩
          · rw [jF_snoc]
            exact ⟨vi, vp, j1.touch ts (by first | (simp; done) | (simp; omega)), j2.touch ts (fun k hk => by have := (j2.own k hk).1; simp; omega), j3.touch ts (fun k hk => by have := (j3.own k hk).1; simp; omega)⟩
          · rw [lastN_snoc]
            exact (HI.out.last.touch HT2.out (by first | (simp; done) | (simp; omega))).set 0 (.int .i64 ((i : Int) + 1))
          · exact (HI.out.tt.transF HT2.out (fun k hk hlt => by have := HB.out; simp at hk; omega)).transF ts (fun k hk hlt => by have := HB.out; simp at hk; omega)
      · have HRY : Hid (Calls Tryd.prog 17 #[.pointer (some ⟨b + 1 + 1 + 1, 0, none⟩), .int .i64 ((i : Int) + 1), .string (mk line)] W fun e W2 => e = .returned (.bool false) ∧ Touch [b + 1 + 1 + 1] W W2) := Lib.hid (HRD.out.mono (fun e W2 h => by
          obtain ⟨ht, ⟨h1, _⟩ | ⟨_, h2⟩⟩ := h
          · rw [mk_list] at h1; exact absurd h1 hok
          · exact ⟨h2, ht⟩))
        have HOK := Lib.hid hok
        clear hok HRD y0 y1 y2 y3 y4 y5 z0 z1 z2 z3 z4 z5 a0 a1 c0 c1
        gi_wp2_with (refine ⟨trivial, ?_⟩; gi_at_call 17; refine (CallsIn.inRound l (callsIn_wide.2 HRY.out)).mono ?_; rintro e W2 ⟨rfl, ht⟩; have HT2 := Lib.hid ht; have hr0 := HI.out.r0.touch ht (by first | (simp; done) | (simp; omega)); have hr1 := HI.out.r1.touch ht (by first | (simp; done) | (simp; omega)); have hr2 := HI.out.r2.touch ht (by first | (simp; done) | (simp; omega)); have HR0 := Lib.hid hr0; have HR1 := Lib.hid hr1; have HR2 := Lib.hid hr2; have y0 : W2.cell? ⟨b, 0, none⟩ = some (.bool false) := hr0.cell rfl; have y1 : W2.cell? ⟨b, 1, none⟩ = some (.int .i64 0) := hr0.cell rfl; have y2 : W2.cell? ⟨b, 2, none⟩ = some (.int .i64 0) := hr0.cell rfl; have y3 : W2.cell? ⟨b, 3, none⟩ = some (.int .i64 0) := hr0.cell rfl; have y4 : W2.cell? ⟨b, 4, none⟩ = some (.slice none 0 0) := hr0.cell rfl; have y5 : W2.cell? ⟨b, 5, none⟩ = some (.slice none 0 0) := hr0.cell rfl; have z0 := hr0.free 0; have z1 := hr0.free 1; have z2 := hr0.free 2; have z3 := hr0.free 3; have z4 := hr0.free 4; have z5 := hr0.free 5; have a0 : W2.cell? ⟨b + 1, 0, none⟩ = some (.int .i64 0) := hr1.cell rfl; have a1 := hr1.free 0; have c0 : W2.cell? ⟨b + 1 + 1, 0, none⟩ = some (.int .i64 0) := hr2.cell rfl; have c1 : W2.frozen? ⟨b + 1 + 1, 0, none⟩ = false := hr2.free 0; clear ht hr0 hr1 hr2)
        refine ⟨keeps_touch ((HT2.out.mono (by simp)).trans ((c8_touch W2 b ((i : Int) + 1)).mono (by simp) : Touch [b + 1 + 1 + 1, b, b + 1, b + 1 + 1] _ _)) (fun k hk => by have := HZ.out; simp at hk; omega), rfl, c8_x HR0.out HR1.out HR2.out (HI.out.tt.transF HT2.out (fun k hk hlt => by have := HB.out; simp at hk; omega)) (by have := HB.out; omega) HI.out.good (fun h => HOK.out h.2)⟩
  case done =>
    rintro D zs W hD rfl hI hK
    have HI := Lib.hid hI
    have hN9 : (pieces s).length ≤ 999999 := by have := pieces_le s; omega
    have HD := Lib.hid (done_of (hs := hs) rfl hN9 hI.good)
    have hla : lastN (upP s hs (pieces s).length) = (pieces s).length := lastN_up s hs _ hN9
    have hl := hI.last
    rw [hla] at hl
    obtain ⟨N, hN⟩ : ∃ N, (pieces s).length = N := ⟨_, rfl⟩
    rw [hN] at hl HD HI
    have HL := Lib.hid hl
    have HKD := Lib.hid hK
    have q0 : W.cell? ⟨b + 1 + 1 + 1 + 1, 0, none⟩ = some (.int .i64 (N : Int)) := hl.cell rfl
    have y0 : W.cell? ⟨b, 0, none⟩ = some (.bool false) := hI.r0.cell rfl
    have y1 : W.cell? ⟨b, 1, none⟩ = some (.int .i64 0) := hI.r0.cell rfl
    have y2 : W.cell? ⟨b, 2, none⟩ = some (.int .i64 0) := hI.r0.cell rfl
    have y3 : W.cell? ⟨b, 3, none⟩ = some (.int .i64 0) := hI.r0.cell rfl
    have y4 : W.cell? ⟨b, 4, none⟩ = some (.slice none 0 0) := hI.r0.cell rfl
    have y5 : W.cell? ⟨b, 5, none⟩ = some (.slice none 0 0) := hI.r0.cell rfl
    have z0 := hI.r0.free 0
    have z1 := hI.r0.free 1
    have z2 := hI.r0.free 2
    have z3 := hI.r0.free 3
    have z4 := hI.r0.free 4
    have z5 := hI.r0.free 5
    have a0 : W.cell? ⟨b + 1, 0, none⟩ = some (.int .i64 0) := hI.r1.cell rfl
    have a1 := hI.r1.free 0
    have c0 : W.cell? ⟨b + 1 + 1, 0, none⟩ = some (.int .i64 0) := hI.r2.cell rfl
    have c1 : W.frozen? ⟨b + 1 + 1, 0, none⟩ = false := hI.r2.free 0
    have h4 := HD.out.1
    clear hI hK hla hl hN hN9
    by_cases hlt : N < 4
    · have hdd : decide ((N : Int) < 4) = true := dT (by omega)
      clear a1 
      have a1 : W.frozen? ⟨b + 1, 0, none⟩ = false := HI.out.r1.free 0
      gi_wp2
      refine wpIn_wide.2 ?_
      have vw : IntKind.i64.wrap ((N : Int) + 1) = (N : Int) + 1 := IntWalk.i64_in _ (by omega)
      have HKP : Hid (∀ w', Touch [b, b + 1, b + 1 + 1] W w' → w'.cell? ⟨b + 1 + 1 + 1 + 1, 0, none⟩ = some (.int .i64 (N : Int))) := Lib.hid (fun w' h => (HL.out.touch h (by first | (simp; done) | (simp; omega))).cell rfl)
      go_region_held3 (fun w' => w'.cell? ⟨b + 1 + 1 + 1 + 1, 0, none⟩ = some (.int .i64 (N : Int))) ((refine HKP.out _ ?_; repeat (first | with_reducible refine Touch.setCell ?_ (by simp) _ | with_reducible refine Touch.drew ?_ | with_reducible exact Touch.refl _ _))) (fail)
      gi_wp2
      obtain ⟨v0, v1, v2⟩ := c8_r ((N : Int) + 1) HI.out.r0 HI.out.r1 HI.out.r2
      replace v0 := v0.drew
      replace v1 := v1.drew
      replace v2 := v2.drew
      have hKV : (World.drew (C8 W b ((N : Int) + 1))).heap[D]? = some (.deferred (some [])) := ((c8_touch W b ((N : Int) + 1)).drew.block D (Array.getElem?_eq_some_iff.1 HKD.out).1 (by have := HZ.out; simp; omega)).trans HKD.out
      refine ⟨by simp, .inl ⟨_, _, rfl, run_takeDeferred hKV, ?_⟩⟩
      have hg := grownBy_putObj' (World.drew (C8 W b ((N : Int) + 1))) D (.deferred none)
      have hr : ∀ r, (some D : Option Nat) = some r → D ≤ r ∧ ∃ o : Obj, (World.drew (C8 W b ((N : Int) + 1))).heap[r]? = some o ∧ o.isCells = false := fun r e => by cases e; exact ⟨Nat.le_refl _, _, hKV, rfl⟩
      have hv0 := Blk.own v0 hg hr
      have hv1 := Blk.own v1 hg hr
      have hv2 := Blk.own v2 hg hr
      have htV : Touch [] w ((World.drew (C8 W b ((N : Int) + 1))).putObj D (.deferred none)) := ((HI.out.tt.transF (c8_touch W b _).drew (fun k hk hlt => by have := HB.out; simp at hk; omega))).grown hg (fun k e hlt => by cases e; have := HZ.out; have := HB.out; omega)
      have hQV : ∀ {e : TypeId} {v : Value} {l : List Value} {B : Nat}, Qu (World.drew (C8 W b ((N : Int) + 1))) B e v l → Qu ((World.drew (C8 W b ((N : Int) + 1))).putObj D (.deferred none)) B e v l := fun h => Qu.ownB h hg hr
      obtain ⟨V, hV⟩ : ∃ V, (World.drew (C8 W b ((N : Int) + 1))).putObj D (.deferred none) = V := ⟨_, rfl⟩
      rw [hV] at hv0 hv1 hv2 htV hQV
      have hV2 := hV
      (try unfold C8 at hV2)
      (try unfold C9 at hV2)
      rw [hV2]
      clear hV hV2 hg hr
      have e0 : V.cell? ⟨b, 0, none⟩ = some (.bool false) := hv0.cell rfl
      have e1 : V.cell? ⟨b, 1, none⟩ = some (.int .i64 0) := hv0.cell rfl
      have e2 : V.cell? ⟨b, 2, none⟩ = some (.int .i64 0) := hv0.cell rfl
      have e3 : V.cell? ⟨b, 3, none⟩ = some (.int .i64 0) := hv0.cell rfl
      have e4 : V.cell? ⟨b, 4, none⟩ = some (.slice none 0 0) := hv0.cell rfl
      have e5 : V.cell? ⟨b, 5, none⟩ = some (.slice none 0 0) := hv0.cell rfl
      have e6 : V.cell? ⟨b + 1, 0, none⟩ = some (.int .i64 ((N : Int) + 1)) := hv1.cell rfl
      have e7 : V.cell? ⟨b + 1 + 1, 0, none⟩ = some (.int .i64 6) := hv2.cell rfl
      refine ⟨.tuple #[.agg #[.bool false, .int .i64 0, .int .i64 0, .int .i64 0, .slice none 0 0, .slice none 0 0], .int .i64 ((N : Int) + 1), .int .i64 6], by simp [results, Tryd.f9, go_sem, e0, e1, e2, e3, e4, e5, e6, e7]; try rfl, ?_⟩
      exact ⟨_, zeroJ, N + 1, 6, rfl, ⟨_, _, rfl, slnil _, slnil _⟩, HD.out.2.1 hlt, htV⟩
    · obtain rfl : N = 4 := by omega
      obtain ⟨J, hJ⟩ : ∃ J, jF (upP s hs 4) = J := ⟨_, rfl⟩
      have HJE := Lib.hid hJ
      obtain ⟨vi, vp, j1, j2, j3⟩ := HI.out.job
      rw [hJ] at j1 j2 j3
      clear hJ
      obtain ⟨ai, ci, ei, _⟩ := Qu.shape j2
      obtain ⟨ap, cp, ep, _⟩ := Qu.shape j3
      rw [List.length_map] at ei ep
      subst ei ep
      have x0 : W.cell? ⟨b + 1 + 1 + 1, 0, none⟩ = some (.bool J.cl) := j1.cell rfl
      have x1 : W.cell? ⟨b + 1 + 1 + 1, 1, none⟩ = some (.int .i64 J.a) := j1.cell rfl
      have x2 : W.cell? ⟨b + 1 + 1 + 1, 2, none⟩ = some (.int .i64 J.b) := j1.cell rfl
      have x3 : W.cell? ⟨b + 1 + 1 + 1, 3, none⟩ = some (.int .i64 J.c) := j1.cell rfl
      have x4 : W.cell? ⟨b + 1 + 1 + 1, 4, none⟩ = some (.slice ai J.inp.length ci) := j1.cell rfl
      have x5 : W.cell? ⟨b + 1 + 1 + 1, 5, none⟩ = some (.slice ap J.pk.length cp) := j1.cell rfl
      gi_wp2
      have tc := c9_touch W b (.bool J.cl) (.int .i64 J.a) (.int .i64 J.b) (.int .i64 J.c) (.slice ai J.inp.length ci) (.slice ap J.pk.length cp)
      obtain ⟨v0, v1, v2⟩ := c9_r (.bool J.cl) (.int .i64 J.a) (.int .i64 J.b) (.int .i64 J.c) (.slice ai J.inp.length ci) (.slice ap J.pk.length cp) HI.out.r0 HI.out.r1 HI.out.r2
      have k2 := j2.touch tc (fun k hk => by have := (j2.own k hk).1; simp; omega)
      have k3 := j3.touch tc (fun k hk => by have := (j3.own k hk).1; simp; omega)
      have hKV : (C9 W b (.bool J.cl) (.int .i64 J.a) (.int .i64 J.b) (.int .i64 J.c) (.slice ai J.inp.length ci) (.slice ap J.pk.length cp)).heap[D]? = some (.deferred (some [])) := (tc.block D (Array.getElem?_eq_some_iff.1 HKD.out).1 (by have := HZ.out; simp; omega)).trans HKD.out
      refine ⟨by simp, .inl ⟨_, _, rfl, run_takeDeferred hKV, ?_⟩⟩
      have hg := grownBy_putObj' (C9 W b (.bool J.cl) (.int .i64 J.a) (.int .i64 J.b) (.int .i64 J.c) (.slice ai J.inp.length ci) (.slice ap J.pk.length cp)) D (.deferred none)
      have hr : ∀ r, (some D : Option Nat) = some r → D ≤ r ∧ ∃ o : Obj, (C9 W b (.bool J.cl) (.int .i64 J.a) (.int .i64 J.b) (.int .i64 J.c) (.slice ai J.inp.length ci) (.slice ap J.pk.length cp)).heap[r]? = some o ∧ o.isCells = false := fun r e => by cases e; exact ⟨Nat.le_refl _, _, hKV, rfl⟩
      have hv0 := Blk.own v0 hg hr
      have hv1 := Blk.own v1 hg hr
      have hv2 := Blk.own v2 hg hr
      have htV : Touch [] w ((C9 W b (.bool J.cl) (.int .i64 J.a) (.int .i64 J.b) (.int .i64 J.c) (.slice ai J.inp.length ci) (.slice ap J.pk.length cp)).putObj D (.deferred none)) := ((HI.out.tt.transF tc (fun k hk hlt => by have := HB.out; simp at hk; omega))).grown hg (fun k e hlt => by cases e; have := HZ.out; have := HB.out; omega)
      have hQV : ∀ {e : TypeId} {v : Value} {l : List Value} {B : Nat}, Qu (C9 W b (.bool J.cl) (.int .i64 J.a) (.int .i64 J.b) (.int .i64 J.c) (.slice ai J.inp.length ci) (.slice ap J.pk.length cp)) B e v l → Qu ((C9 W b (.bool J.cl) (.int .i64 J.a) (.int .i64 J.b) (.int .i64 J.c) (.slice ai J.inp.length ci) (.slice ap J.pk.length cp)).putObj D (.deferred none)) B e v l := fun h => Qu.ownB h hg hr
      obtain ⟨V, hV⟩ : ∃ V, (C9 W b (.bool J.cl) (.int .i64 J.a) (.int .i64 J.b) (.int .i64 J.c) (.slice ai J.inp.length ci) (.slice ap J.pk.length cp)).putObj D (.deferred none) = V := ⟨_, rfl⟩
      rw [hV] at hv0 hv1 hv2 htV hQV
      have hV2 := hV
      (try unfold C8 at hV2)
      (try unfold C9 at hV2)
      rw [hV2]
      clear hV hV2 hg hr
      have e0 : V.cell? ⟨b, 0, none⟩ = some (.bool J.cl) := hv0.cell rfl
      have e1 : V.cell? ⟨b, 1, none⟩ = some (.int .i64 J.a) := hv0.cell rfl
      have e2 : V.cell? ⟨b, 2, none⟩ = some (.int .i64 J.b) := hv0.cell rfl
      have e3 : V.cell? ⟨b, 3, none⟩ = some (.int .i64 J.c) := hv0.cell rfl
      have e4 : V.cell? ⟨b, 4, none⟩ = some (.slice ai J.inp.length ci) := hv0.cell rfl
      have e5 : V.cell? ⟨b, 5, none⟩ = some (.slice ap J.pk.length cp) := hv0.cell rfl
      have e6 : V.cell? ⟨b + 1, 0, none⟩ = some (.int .i64 (0)) := hv1.cell rfl
      have e7 : V.cell? ⟨b + 1 + 1, 0, none⟩ = some (.int .i64 0) := hv2.cell rfl
      refine ⟨.tuple #[.agg #[.bool J.cl, .int .i64 J.a, .int .i64 J.b, .int .i64 J.c, .slice ai J.inp.length ci, .slice ap J.pk.length cp], .int .i64 (0), .int .i64 0], by simp [results, Tryd.f9, go_sem, e0, e1, e2, e3, e4, e5, e6, e7]; try rfl, ?_⟩
      exact ⟨_, J, 0, 0, rfl, ⟨_, _, rfl, Qu.sl (hQV k2), Qu.sl (hQV k3)⟩, by rw [← HJE.out]; exact HD.out.2.2 (by first | rfl | trivial), htV⟩
  case stop =>
    rintro D c pre W hD ⟨k, hk, rfl⟩ ⟨rfl, hX⟩ hK
    have hN9 : (pieces s).length ≤ 999999 := by have := pieces_le s; omega
    have HX := Lib.hid hX
    have HKD := Lib.hid hK
    obtain ⟨q, x, hq, hgq, hbx⟩ := hX.bad
    have hk0 : k ≠ 0 := fun e => by subst e; rw [upP_zero] at hq; have := congrArg List.length hq; simp at this
    obtain ⟨m, rfl⟩ := Nat.exists_eq_succ_of_ne_zero hk0
    have hpm : ((pieces s).getD m []).length ≤ 100000 := by
      rw [List.getD_eq_getElem?_getD]
      cases h : (pieces s)[m]? with
      | none => simp
      | some p => have := pieces_mem s p (List.mem_of_getElem? h); simp; omega
    have hup := upP_succ s hs m (by omega) _ rfl ⟨by omega, hpm⟩
    rw [hup] at hq
    obtain ⟨rfl, hx⟩ := List.append_inj' hq rfl
    have hxe : x = ⟨(m, (pieces s).getD m []), ⟨by omega, hpm⟩⟩ := by injection hx with h _; exact h.symm
    rw [hxe] at hbx
    have HRS := Lib.hid (stop_of (hs := hs) (by omega) (by omega) hgq hbx)
    have hl := hX.r1
    rw [hup, lastN_snoc] at hl
    have v0 := hX.r0
    have v1 : Blk W (b + 1) #[.int .i64 ((m : Int) + 1)] 3 := hl
    have v2 := hX.r2
    clear hX hK hq hgq hbx hup hl hx hxe
    gi_wp2
    have hKV : (W).heap[D]? = some (.deferred (some [])) := HKD.out
    refine ⟨by simp, .inl ⟨_, _, rfl, run_takeDeferred hKV, ?_⟩⟩
    have hg := grownBy_putObj' (W) D (.deferred none)
    have hr : ∀ r, (some D : Option Nat) = some r → D ≤ r ∧ ∃ o : Obj, (W).heap[r]? = some o ∧ o.isCells = false := fun r e => by cases e; exact ⟨Nat.le_refl _, _, hKV, rfl⟩
    have hv0 := Blk.own v0 hg hr
    have hv1 := Blk.own v1 hg hr
    have hv2 := Blk.own v2 hg hr
    have htV : Touch [] w ((W).putObj D (.deferred none)) := (HX.out.tt).grown hg (fun k e hlt => by cases e; have := HZ.out; have := HB.out; omega)
    have hQV : ∀ {e : TypeId} {v : Value} {l : List Value} {B : Nat}, Qu (W) B e v l → Qu ((W).putObj D (.deferred none)) B e v l := fun h => Qu.ownB h hg hr
    obtain ⟨V, hV⟩ : ∃ V, (W).putObj D (.deferred none) = V := ⟨_, rfl⟩
    rw [hV] at hv0 hv1 hv2 htV hQV
    have hV2 := hV
    (try unfold C8 at hV2)
    (try unfold C9 at hV2)
    rw [hV2]
    clear hV hV2 hg hr
    have e0 : V.cell? ⟨b, 0, none⟩ = some (.bool false) := hv0.cell rfl
    have e1 : V.cell? ⟨b, 1, none⟩ = some (.int .i64 0) := hv0.cell rfl
    have e2 : V.cell? ⟨b, 2, none⟩ = some (.int .i64 0) := hv0.cell rfl
    have e3 : V.cell? ⟨b, 3, none⟩ = some (.int .i64 0) := hv0.cell rfl
    have e4 : V.cell? ⟨b, 4, none⟩ = some (.slice none 0 0) := hv0.cell rfl
    have e5 : V.cell? ⟨b, 5, none⟩ = some (.slice none 0 0) := hv0.cell rfl
    have e6 : V.cell? ⟨b + 1, 0, none⟩ = some (.int .i64 ((m : Int) + 1)) := hv1.cell rfl
    have e7 : V.cell? ⟨b + 1 + 1, 0, none⟩ = some (.int .i64 6) := hv2.cell rfl
    refine ⟨.tuple #[.agg #[.bool false, .int .i64 0, .int .i64 0, .int .i64 0, .slice none 0 0, .slice none 0 0], .int .i64 ((m : Int) + 1), .int .i64 6], by simp [results, Tryd.f9, go_sem, e0, e1, e2, e3, e4, e5, e6, e7]; try rfl, ?_⟩
    exact ⟨_, zeroJ, m + 1, 6, rfl, ⟨_, _, rfl, slnil _, slnil _⟩, HRS.out, htV⟩
theorem jread_any (s : ByteArray) (w : World) (hv : Vs w) (hs : s.size ≤ 100000) : Calls Tryd.prog 9 #[.string s] w (RdR s.data.toList w) := by
  have h := (callsIn_wide (n := 8)).1 (jread_in 8 (by omega) s.data.toList w hv (by rw [← mk_list s.data.toList]; simpa [mk] using hs))
  rw [mk_of] at h
  exact h
end Go.Proofs.YtnhbnggkaomfcaaDoor
