/-
  Units: sums and differences, number by number.
-/
import Derived.Test.YtdonkecclebcdaaY5
set_option linter.unusedVariables false
namespace Go.Proofs.Ytdonkecclebcdaa
open Go.RowKit Go.Shelf

attribute [local go_sem] Oper.semAt_some

set_option maxHeartbeats 1000000 in
theorem less_fn (x y z : Int) (w : World) (hx : 0 ≤ x ∧ x ≤ 1000) (hy : 0 ≤ y ∧ y ≤ 1000) (hz : x - y = z) : Calls Try.prog 38 #[.int .i64 x, .int .i64 y] w fun e w' => e = .returned (.int .i64 z) ∧ Touch [] w w' := by
  obtain ⟨x1, x2⟩ := hx
  obtain ⟨y1, y2⟩ := hy
  have HS : Hid (Sl (w.alloc (.cells #[.int .i64 x, .int .i64 (-y)] 3)) (.slice (some ⟨w.heap.size, 0, none⟩) 2 2) [x, -y]) := Lib.hid ⟨_, 2, rfl, .inr ⟨w.heap.size, 0, rfl, by simp, row2 w x (-y) _ _ rfl⟩⟩
  have HZ : Hid (sumL [x, -y] = z) := Lib.hid (by simp [sumL]; omega)
  have HX : Hid (∀ k, k < [x, -y].length → -1000 ≤ [x, -y].getD k 0 ∧ [x, -y].getD k 0 ≤ 1000) := Lib.hid (fun k hk => by
    have : k = 0 ∨ k = 1 := by simp at hk; omega
    rcases this with rfl | rfl
    · exact ⟨by show (-1000 : Int) ≤ x; omega, x2⟩
    · exact ⟨by show (-1000 : Int) ≤ -y; omega, by show -y ≤ (1000 : Int); omega⟩)
  clear hz
  go_enter Try.func38, Try.ntmps38
  go_wp2_with fail
  refine (sum_q _ [x, -y] z _ HS.out (by simp) HX.out HZ.out).mono ?_
  rintro e w1 ⟨rfl, rfl⟩
  go_wp2
  go_ret
  exact ⟨rfl, (Touch.refl _ _).alloc _⟩

/-- What of two numbers: their sum, or their difference. -/
def opF (s : Bool) (p : Int × Int) : Int := if s then p.1 + p.2 else p.1 - p.2
def okF (s : Bool) (p : Int × Int) : Bool := mayB p.1 && mayB p.2 && mayB (opF s p)
def mergeL (s : Bool) (xs ys : List Int) : Option (List Int) :=
  if xs.length = ys.length ∧ (upZ xs ys xs.length).all (okF s) = true then some ((upZ xs ys xs.length).map (opF s)) else none
/-- What is no cells may turn: a block of cells is as it was. -/
theorem Blk.kept {W W' : World} {row : Option Nat} {b : Nat} {c : Array Value} {t : TypeId} (h : Blk W b c t) (hg : W.grownBy W' row) (hr : ∀ r, row = some r → ∃ o : Obj, W.heap[r]? = some o ∧ o.isCells = false) : Blk W' b c t := by
  have hlt := h.lt
  unfold Blk at h ⊢
  refine (hg.block b hlt (fun e => ?_)).trans h
  obtain ⟨o, ho, hc⟩ := hr b e.symm
  rw [h] at ho
  cases ho
  simp [Obj.isCells] at hc
theorem Qu.kept {W W' : World} {row : Option Nat} {base : Nat} {e : TypeId} {v : Value} {xs : List Value} (h : Qu W base e v xs) (hg : W.grownBy W' row) (hr : ∀ r, row = some r → ∃ o : Obj, W.heap[r]? = some o ∧ o.isCells = false) : Qu W' base e v xs := by
  rcases h with h | ⟨g, off, cap, cur, rfl, hb, hk, r⟩
  · exact .inl h
  · exact .inr ⟨g, off, cap, cur, rfl, hb, hk.kept hg hr, r⟩
/-- Between two rounds. -/
structure MI (s : Bool) (fn : Value) (R base : Nat) (pre : List (Int × Int)) (W : World) : Prop where
  ok : AllIs (okF s) pre true
  f : Blk W R #[fn] 57
  r1 : Blk W (R + 1) #[.slice none 0 0] 22
  r2 : Blk W (R + 1 + 1) #[.bool false] 4
  l : ∃ v, Blk W (R + 1 + 1 + 1) #[v] 22 ∧ Qu W base 3 v ((pre.map (opF s)).map (Value.int .i64))
theorem MI.own (s : Bool) (fn : Value) (R base : Nat) : Go.Own (fun pre W => MI s fn R base pre W) := fun pre A B row h hg hr => by
  obtain ⟨v, h1, h2⟩ := h.l
  exact ⟨h.ok, h.f.kept hg hr, h.r1.kept hg hr, h.r2.kept hg hr, v, h1.kept hg hr, h2.kept hg hr⟩
theorem MI.touch {s : Bool} {fn : Value} {R base : Nat} {pre : List (Int × Int)} {W W' : World} (h : MI s fn R base pre W) (ht : Touch [] W W') : MI s fn R base pre W' := by
  obtain ⟨v, h1, h2⟩ := h.l
  exact ⟨h.ok, h.f.touch ht (by simp), h.r1.touch ht (by simp), h.r2.touch ht (by simp), v, h1.touch ht (by simp), h2.touch ht (fun _ _ => by simp)⟩
/-- When it has been left. -/
structure MX (s : Bool) (R : Nat) (c : Code) (pre : List (Int × Int)) (W : World) : Prop where
  c : c = .ret
  ok : AllIs (okF s) pre false
  r1 : Blk W (R + 1) #[.slice none 0 0] 22
  r2 : Blk W (R + 1 + 1) #[.bool false] 4
theorem MX.own (s : Bool) (R : Nat) (c : Code) : Go.Own (fun pre W => MX s R c pre W) := fun pre A B row h hg hr => ⟨h.c, h.ok, h.r1.kept hg hr, h.r2.kept hg hr⟩
theorem KeepsFrom.touch {B : Nat} {S : List Nat} {W W' : World} (h : Touch S W W') (hs : ∀ k, k ∈ S → ∃ c t, Blk W k c t) : KeepsFrom B W W' :=
  ⟨h.size, fun k o _ hk ho => by
    refine (h.block k (Array.getElem?_eq_some_iff.1 hk).1 (fun hm => ?_)).trans hk
    obtain ⟨c, t, hb⟩ := hs k hm
    unfold Blk at hb
    rw [hb] at hk
    cases hk
    simp [Obj.isCells] at ho⟩
/-- One more in the list. -/
structure Pushed (s : Bool) (fn : Value) (R base : Nat) (pre : List (Int × Int)) (p : Int × Int) (z : Int) (v : Value) (w2 w3 : World) (v' : Value) : Prop where
  run : ∀ ty, (Builtin.append_ #[22, 22] ty #[v, .slice (some ⟨w2.heap.size, 0, none⟩) 1 1]).run Try.prog (w2.alloc (.cells #[.int .i64 z] 3)) = .ok v' w3
  c0 : w2.cell? ⟨R + 1 + 1 + 1, 0, none⟩ = some v
  c1 : (w2.alloc (.cells #[.int .i64 z] 3)).cell? ⟨R + 1 + 1 + 1, 0, none⟩ = some v
  c : w3.cell? ⟨R + 1 + 1 + 1, 0, none⟩ = some v
  f : w3.frozen? ⟨R + 1 + 1 + 1, 0, none⟩ = false
  fin : MI s fn R base (pre ++ [p]) (w3.setCell ⟨R + 1 + 1 + 1, 0, none⟩ v')
  form : ∃ a c, v' = .slice a (pre.length + 1) c
  t : Touch ((R + 1 + 1 + 1) :: v.ownBlock.toList) w2 (w3.setCell ⟨R + 1 + 1 + 1, 0, none⟩ v')
  k : ∀ k, k ∈ (R + 1 + 1 + 1) :: v.ownBlock.toList → ∃ c t, Blk w2 k c t
theorem pushed {s : Bool} {fn : Value} {R base : Nat} {pre : List (Int × Int)} {p : Int × Int} {z : Int} {v : Value} {W w2 : World} (h : MI s fn R base pre W) (h3 : Blk W (R + 1 + 1 + 1) #[v] 22) (hq : Qu W base 3 v ((pre.map (opF s)).map (Value.int .i64))) (ht : Touch [] W w2) (hz : opF s p = z) (hok : okF s p = true) (hl : pre.length ≤ 1000000) (hbase : R + 1 + 1 + 1 < base) (hb2 : base ≤ W.heap.size) :
    ∃ w3 v', Pushed s fn R base pre p z v w2 w3 v' := by
  have k3 := h3.touch ht (by simp)
  have kq := hq.touch ht (fun _ _ => by simp)
  have hsz := ht.size
  obtain ⟨v', w3, hr, hq3, hg, hn⟩ := Qu.appendI (kq.alloc (.cells #[.int .i64 z] 3)) (by simp; omega) (show Sl (w2.alloc (.cells #[.int .i64 z] 3)) (.slice (some ⟨w2.heap.size, 0, none⟩) 1 1) [z] from ⟨_, 1, rfl, .inr ⟨w2.heap.size, 0, rfl, by simp, row1 _ _ _ _ rfl⟩⟩) (by simp; omega)
  have t3 : Touch v.ownBlock.toList w2 w3 := ((Touch.refl _ w2).alloc _).grown hg (fun k hk _ => by simp [hk])
  have hvo : ∀ k, v.ownBlock = some k → base ≤ k := fun k hk => (kq.own k hk).1
  have nb : ∀ b, b < base → b ∉ v.ownBlock.toList := fun b hb hm => by have := hvo b (by simpa using hm); omega
  have j3 := k3.touch t3 (nb _ hbase)
  have t4 : Touch [R + 1 + 1 + 1] w3 (w3.setCell ⟨R + 1 + 1 + 1, 0, none⟩ v') := (Touch.refl _ _).setCell (by simp) _
  have up : ∀ {b : Nat} {c : Array Value} {t : TypeId}, Blk W b c t → b < base → b ≠ R + 1 + 1 + 1 → Blk (w3.setCell ⟨R + 1 + 1 + 1, 0, none⟩ v') b c t := fun hb hlt hne => ((hb.touch ht (by simp)).touch t3 (nb _ hlt)).touch t4 (by simp; omega)
  have hq4 := hq3.touch t4 (fun k hk => by have := (hq3.own k hk).1; simp; omega)
  obtain ⟨a', c', hf⟩ := Qu.form hq3
  refine ⟨w3, v', hr, k3.cell (i := 0) rfl, (k3.alloc _).cell (i := 0) rfl, j3.cell (i := 0) rfl, j3.free 0, ⟨?_, up h.f (by omega) (by omega), up h.r1 (by omega) (by omega), up h.r2 (by omega) (by omega), v', j3.set 0 v', ?_⟩, ⟨a', c', by rw [hf]; simp⟩, (t3.mono (by simp; intro k hk; exact .inr hk)).trans (t4.mono (by simp)), ?_⟩
  · have := h.ok
    unfold AllIs at this ⊢
    rw [List.all_append, this]
    simp [hok]
  · rw [List.map_append]
    simpa [hz] using hq4
  · intro k hk
    rw [List.mem_cons] at hk
    rcases hk with rfl | hk
    · exact ⟨_, _, k3⟩
    · rcases kq with ⟨e, _⟩ | ⟨g, off, cap, cur, e, _, hbk, _⟩
      · subst e; simp [Value.ownBlock] at hk
      · subst e; simp [Value.ownBlock] at hk; subst hk; exact ⟨_, _, hbk⟩
theorem left_off {s : Bool} {fn : Value} {R base B : Nat} {pre : List (Int × Int)} {p : Int × Int} {w W W1 : World} (h : MI s fn R base pre W) (ht : Touch [] W W1) (hb : Below R w W) (hR : R ≤ W.heap.size) (hok : okF s p = false) :
    KeepsFrom B W ((W1.setCell ⟨R + 1, 0, none⟩ (.slice none 0 0)).setCell ⟨R + 1 + 1, 0, none⟩ (.bool false)) ∧ MX s R .ret (pre ++ [p]) ((W1.setCell ⟨R + 1, 0, none⟩ (.slice none 0 0)).setCell ⟨R + 1 + 1, 0, none⟩ (.bool false)) ∧ Below R w ((W1.setCell ⟨R + 1, 0, none⟩ (.slice none 0 0)).setCell ⟨R + 1 + 1, 0, none⟩ (.bool false)) := by
  have k1 := h.r1.touch ht (by simp)
  have k2 := h.r2.touch ht (by simp)
  refine ⟨(KeepsFrom.touch ht (by simp)).trans (((KeepsOthers.setCell _ _ _).trans (KeepsOthers.setCell _ _ _)).from _), ⟨rfl, ?_, (k1.set 0 _).other (by simp) _, (k2.other (by simp) _).set 0 _⟩, ?_⟩
  · unfold AllIs
    rw [List.all_append]
    simp [hok]
  · exact ((hb.trans (ht.below hR (by simp))).setCell (p := ⟨R + 1, 0, none⟩) (by simp) _).setCell (p := ⟨R + 1 + 1, 0, none⟩) (by simp; omega) _
/-- What merge hands back. -/
def Merged (s : Bool) (xs ys : List Int) (w : World) (e : Ending) (w' : World) : Prop :=
  ∃ v, e = .returned (.tuple #[v, .bool (mergeL s xs ys).isSome]) ∧ Qu w' w.heap.size 3 v (((mergeL s xs ys).getD []).map (Value.int .i64)) ∧ Below w.heap.size w w'
end Go.Proofs.Ytdonkecclebcdaa
