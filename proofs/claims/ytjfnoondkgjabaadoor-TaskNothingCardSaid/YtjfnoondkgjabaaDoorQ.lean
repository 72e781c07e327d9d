/-
  A slice of the call's own that is appended to at its end and cut at its front: a queue.
-/
import Derived.Test.YtjfnoondkgjabaaDoorK
import Derived.Deep.AppendSrc
set_option linter.unusedVariables false
namespace Go.Proofs.YtjfnoondkgjabaaDoor
open Go.RowKit

/-- v is a slice of the call's own (its block from base on), its elements xs, one cell each. -/
def Qu (w : World) (base : Nat) (e : TypeId) (v : Value) (xs : List Value) : Prop :=
  (v = .slice none 0 0 ∧ xs = []) ∨ ∃ g off cap cur, v = .slice (some ⟨g, off, none⟩) xs.length cap ∧ base ≤ g ∧ Blk w g cur e ∧ xs.length ≤ cap ∧ cap ≤ maxLen ∧ off + cap ≤ cur.size ∧ ∀ j, j < xs.length → cur[off + j]? = xs[j]?
theorem Qu.nil (w : World) (base : Nat) (e : TypeId) : Qu w base e (.slice none 0 0) [] := .inl ⟨rfl, rfl⟩
theorem Qu.touch {w w' : World} {base : Nat} {e : TypeId} {v : Value} {xs : List Value} {S : List Nat} (h : Qu w base e v xs) (ht : Touch S w w') (hs : ∀ k, v.ownBlock = some k → k ∉ S) : Qu w' base e v xs := by
  rcases h with h | ⟨g, off, cap, cur, rfl, hb, hg, r⟩
  · exact .inl h
  · exact .inr ⟨g, off, cap, cur, rfl, hb, hg.touch ht (hs g rfl), r⟩
theorem Qu.alloc {w : World} {base : Nat} {e : TypeId} {v : Value} {xs : List Value} (h : Qu w base e v xs) (o : Obj) : Qu (w.alloc o) base e v xs := h.touch ((Touch.refl [] w).alloc o) (fun _ _ => by simp)
theorem Qu.drewN {w : World} {base : Nat} {e : TypeId} {v : Value} {xs : List Value} (h : Qu w base e v xs) (n : Nat) : Qu (w.drewN n) base e v xs := h
theorem Qu.mono {w : World} {base base' : Nat} {e : TypeId} {v : Value} {xs : List Value} (h : Qu w base e v xs) (hb : base' ≤ base) : Qu w base' e v xs := by
  rcases h with h | ⟨g, off, cap, cur, rfl, hb2, r⟩
  · exact .inl h
  · exact .inr ⟨g, off, cap, cur, rfl, by omega, r⟩
theorem Qu.own {w : World} {base : Nat} {e : TypeId} {v : Value} {xs : List Value} (h : Qu w base e v xs) : ∀ k, v.ownBlock = some k → base ≤ k ∧ k < w.heap.size := by
  intro k hk
  rcases h with ⟨rfl, _⟩ | ⟨g, off, cap, cur, rfl, hb, hg, _⟩
  · simp [Value.ownBlock] at hk
  · simp [Value.ownBlock] at hk; subst hk; exact ⟨hb, hg.lt⟩
theorem Qu.shape {w : World} {base : Nat} {e : TypeId} {v : Value} {xs : List Value} (h : Qu w base e v xs) : ∃ a cap, v = .slice a xs.length cap ∧ xs.length ≤ maxLen := by
  rcases h with ⟨rfl, rfl⟩ | ⟨g, off, cap, cur, rfl, hb, hg, h1, h2, _⟩
  · exact ⟨none, 0, rfl, Nat.zero_le _⟩
  · exact ⟨_, cap, rfl, by omega⟩
theorem Qu.sl {w : World} {base : Nat} {e : TypeId} {v : Value} {xs : List Int} (h : Qu w base e v (xs.map (Value.int .i64))) : Sl w v xs := by
  rcases h with ⟨rfl, h⟩ | ⟨g, off, cap, cur, rfl, hb, hg, h1, h2, h3, h4⟩
  · have : xs = [] := by simpa using h
    subst this
    exact Sl.nil w
  · refine ⟨_, cap, by simp, .inr ⟨g, off, rfl, hg.lt, fun j hj => ?_⟩⟩
    exact hg.cell (by rw [h4 j (by simpa using hj)]; simp [hj])
theorem Qu.made {w : World} {base : Nat} {e : TypeId} {b n : Nat} {c : Array Value} (hb : b = w.heap.size) (hbase : base ≤ b) (hn : c.size = n) (hm : n ≤ maxLen) : Qu (w.alloc (.cells c e)) base e (.slice (some ⟨b, 0, none⟩) n n) c.toList := by
  refine .inr ⟨b, 0, n, c, by rw [← hn]; simp, hbase, Blk.new hb, by rw [← hn]; simp, hm, by omega, fun j hj => by simp⟩

theorem setCells_one (w : World) (b o : Nat) (v : Value) : w.setCells b o [v] = w.setCell ⟨b, o, none⟩ v := rfl

/-- ONE ELEMENT IS APPENDED: whether there is room or not, it is a queue again; its own block alone may have been written. -/
theorem Qu.append {P : Program} {t e : TypeId} {i : TypeInfo} {z : Value} {bytes : Nat} (ht : P.underlying t = some (.slice e)) (hi : P.info? e = some i) (hz : i.zero = some z) (h1 : i.size = 1) (h8 : i.bytes = bytes) (hzs : z.cells.size = 1)
    {w : World} {base : Nat} {v : Value} {xs : List Value} (h : Qu w base e v xs) (hbase : base ≤ w.heap.size) (ad : Addr) (c : Nat) (x : Value) (hx : w.cell? ad = some x) (hone : x.oneCell' = true) (hlen : (xs.length + 1) * bytes ≤ 140737488355328) (hlen2 : xs.length + 1 ≤ 140737488355328) :
    ∃ v' w', (∀ ty, (Builtin.append_ #[t, t] ty #[v, .slice (some ad) 1 c]).run P w = .ok v' w') ∧ Qu w' base e v' (xs ++ [x]) ∧ w.grownBy w' v.ownBlock ∧ ∀ k, v'.ownBlock = some k → v.ownBlock = some k ∨ w.heap.size ≤ k := by
  have hsrc : Src P i.size t (.slice (some ad) 1 c) 1 [x] w := by
    rw [h1]
    exact Src.ofSlice w ht ad 1 c [x] rfl (fun j u hj => by
      rcases j with _ | j
      · simp at hj; subst hj; simpa [Addr.add] using hx
      · simp at hj) (fun u hu => by simp at hu; subst hu; exact hone)
  have grow : ∀ (a : Option Addr) (n cap : Nat) (olds : List Value), v = .slice a n cap → n = xs.length → olds = xs → (Builtin.firstCells i.size n (.slice a n cap)).run P w.drew = .ok olds.toArray w.drew → cap < n + 1 → cap ≤ n →
      ∃ v' w', (∀ ty, (Builtin.append_ #[t, t] ty #[v, .slice (some ad) 1 c]).run P w = .ok v' w') ∧ Qu w' base e v' (xs ++ [x]) ∧ w.grownBy w' v.ownBlock ∧ ∀ k, v'.ownBlock = some k → v.ownBlock = some k ∨ w.heap.size ≤ k := by
    rintro a n cap olds rfl rfl rfl hold hg hle
    have hfit : Builtin.nextslicecap (olds.length + 1) cap * i.bytes ≤ 281474976710656 := growslice_fits (by omega) (by rw [h8]; exact hlen)
    have hr := fun ty => run_append_grow_src (w := w) t t ty e i z ht hi hz a olds.length cap olds hold (.slice (some ad) 1 c) 1 [x] hsrc hg (by omega) hfit
    have hge := grownCap_ge w (olds.length + 1) cap e
    have hmx := grownCap_le_maxLen w (olds.length + 1) cap e (by unfold maxLen; omega)
    refine ⟨_, _, hr, ?_, ?_⟩
    · refine .inr ⟨w.heap.size, 0, grownCap w (olds.length + 1) cap e, _, by simp, hbase, Blk.new rfl, by simpa using hge, hmx, ?_, ?_⟩
      · simp [size_zeroCells, hzs]; omega
      · intro j hj
        have hj2 : j < (olds ++ [x]).length := hj
        simp only [Nat.zero_add]
        rw [Array.getElem?_append_left (by simpa using hj2), List.getElem?_toArray]
    · refine ⟨⟨rfl, rfl, rfl, ?_, fun k hk _ => ?_⟩, fun k hk => .inr (by simp [Value.ownBlock] at hk; omega)⟩
      · show w.heap.size ≤ (w.drew.alloc _).heap.size
        rw [show (w.drew.alloc (.cells ((olds ++ [x]).toArray ++ Builtin.zeroCells z.cells (grownCap w (olds.length + 1) cap e - (olds.length + 1))) e)).heap.size = w.drew.heap.size + 1 from by simp]
        exact Nat.le_succ _
      · show (w.drew.alloc _).heap[k]? = _
        exact Below.heap_alloc w.drew _ _ hk
  rcases h with ⟨rfl, rfl⟩ | ⟨g, off, cap, cur, rfl, hb, hg, hle, hmax, hsz, hcells⟩
  · exact grow none 0 0 [] rfl rfl rfl (by rw [run_firstCells_none]) (by omega) (by omega)
  · by_cases hroom : xs.length + 1 ≤ cap
    · have hin : off + xs.length < cur.size := by omega
      have hr := fun ty => run_append_room_src (w := w) t t ty e i ht hi g off xs.length cap (.slice (some ad) 1 c) 1 [x] hsrc hroom
        (fun j hj => by
          have : j = 0 := by simp at hj; omega
          subst this
          rw [h1, Nat.mul_one, Nat.add_zero, hg.cell (Array.getElem?_eq_getElem hin)]; rfl)
        (fun j hj => hg.free _)
      rw [h1, Nat.mul_one, setCells_one] at hr
      refine ⟨_, _, hr, ?_, ?_⟩
      · refine .inr ⟨g, off, cap, _, by simp, hb, hg.set _ _, by simpa using hroom, hmax, by simpa using hsz, fun j hj => ?_⟩
        rw [Array.getElem?_setIfInBounds]
        by_cases hjl : j = xs.length
        · subst hjl; simp [hin]
        · have hj3 : j < xs.length := by simp at hj; omega
          rw [if_neg (by omega), hcells j hj3, List.getElem?_append_left hj3]
      · exact ⟨⟨rfl, rfl, rfl, by simp [World.setCell], fun k hk hn => Below.heap_setCell _ _ _ _ (fun e => hn (by simp [Value.ownBlock, e]))⟩, fun k hk => .inl hk⟩
    · refine grow _ _ cap xs rfl rfl rfl ?_ (by omega) (by omega)
      rw [h1]
      refine run_firstCells_some (w := w.drew) 1 xs.length ⟨g, off, none⟩ xs.length cap xs (by simp) (fun j u hu => ?_)
      have hj : j < xs.length := by
        by_cases h : j < xs.length
        · exact h
        · rw [List.getElem?_eq_none (by omega)] at hu; cases hu
      have hc : w.cell? ⟨g, off + j, none⟩ = some u := hg.cell (by rw [hcells j hj]; exact hu)
      show w.cell? _ = _
      by_cases h0 : j = 0
      · subst h0; simpa [Addr.add] using hc
      · simpa [Addr.add, h0] using hc

theorem wpList_append_q {P : Program} {t e : TypeId} {i : TypeInfo} {z : Value} {bytes : Nat} (ht : P.underlying t = some (.slice e)) (hi : P.info? e = some i) (hz : i.zero = some z) (h1 : i.size = 1) (h8 : i.bytes = bytes) (hzs : z.cells.size = 1)
    {w : World} {ops : Array Oper} {rest : List Oper} {o : Oper} {a : Act} {Q : Exit → Act → World → Prop} (hgd : o.guard = none) (s x : Operand)
    (ho : o.op = .call { callee := .builtin .append, args := #[s, x], argTypes := #[t, t] })
    (base : Nat) (v : Value) (xs : List Value) (hs : a.eval s = v) (hq : Qu w base e v xs) (hbase : base ≤ w.heap.size) (ad : Addr) (c : Nat) (u : Value) (hx : a.eval x = .slice (some ad) 1 c) (hu : w.cell? ad = some u) (hone : u.oneCell' = true)
    (hlen : (xs.length + 1) * bytes ≤ 140737488355328) (hlen2 : xs.length + 1 ≤ 140737488355328)
    (h : ∀ v' w', Qu w' base e v' (xs ++ [u]) → w.grownBy w' v.ownBlock → (∀ k, v'.ownBlock = some k → v.ownBlock = some k ∨ w.heap.size ≤ k) → wpList P ops Q rest (a.put o.dst v') w') : wpList P ops Q (o :: rest) a w :=
  wpList_plain hgd fun K hK => by
    obtain ⟨v', w', hr, h2, h3, h4⟩ := hq.append ht hi hz h1 h8 hzs hbase ad c u hu hone hlen hlen2
    have hr' := hr o.type
    unfold Oper.wp execOp
    simp only [ho, resolve, invoke, builtin, Sem.run_bind, Sem.run_pure, Result.andThen_ok, List.map_toArray, List.map_cons, List.map_nil, hs, hx, hr']
    exact hK _ _ (h v' w' h2 h3 h4)

/-- The same at a step of a region that draws its order. -/
theorem step_append_q {P : Program} {t e : TypeId} {i : TypeInfo} {z : Value} {bytes : Nat} (ht : P.underlying t = some (.slice e)) (hi : P.info? e = some i) (hz : i.zero = some z) (h1 : i.size = 1) (h8 : i.bytes = bytes) (hzs : z.cells.size = 1)
    {w : World} {ops : Array Oper} {o : Oper} {a : Act} {K : Act → World → Prop} {Q : Exit → Act → World → Prop} {E : Prop} (hgd : o.guard = none) (s x : Operand)
    (ho : o.op = .call { callee := .builtin .append, args := #[s, x], argTypes := #[t, t] })
    (base : Nat) (v : Value) (xs : List Value) (hs : a.eval s = v) (hq : Qu w base e v xs) (hbase : base ≤ w.heap.size) (ad : Addr) (c : Nat) (u : Value) (hx : a.eval x = .slice (some ad) 1 c) (hu : w.cell? ad = some u) (hone : u.oneCell' = true)
    (hlen : (xs.length + 1) * bytes ≤ 140737488355328) (hlen2 : xs.length + 1 ≤ 140737488355328)
    (h : ∀ v' w', Qu w' base e v' (xs ++ [u]) → w.grownBy w' v.ownBlock → (∀ k, v'.ownBlock = some k → v.ownBlock = some k ∨ w.heap.size ≤ k) → K (a.put o.dst v') w') :
    if Region.wanted o (yielded ops a.tmps) = true then Oper.wp P o a w K Q else E := by
  have hw : Region.wanted o (yielded ops a.tmps) = true := by simp [Region.wanted, hgd]
  rw [if_pos hw]
  obtain ⟨v', w', hr, h2, h3, h4⟩ := hq.append ht hi hz h1 h8 hzs hbase ad c u hu hone hlen hlen2
  have hr' := hr o.type
  unfold Oper.wp execOp
  simp only [ho, resolve, invoke, builtin, Sem.run_bind, Sem.run_pure, Result.andThen_ok, List.map_toArray, List.map_cons, List.map_nil, hs, hx, hr']
  exact Or.inl (h v' w' h2 h3 h4) |>.elim id id

/-- THE FRONT IS CUT OFF. -/
theorem Qu.front {w : World} {base : Nat} {e : TypeId} {v x : Value} {xs : List Value} (h : Qu w base e v (x :: xs)) :
    ∃ g off cap, v = .slice (some ⟨g, off, none⟩) (xs.length + 1) cap ∧ w.cell? ⟨g, off, none⟩ = some x ∧ xs.length + 1 ≤ cap ∧ cap ≤ maxLen ∧ base ≤ g ∧ g < w.heap.size ∧
      ((cap = 1 ∧ xs = [] ∧ Qu w base e (.slice (some ⟨g, off, none⟩) 0 0) []) ∨ (1 < cap ∧ Qu w base e (.slice (some ⟨g, off + 1, none⟩) xs.length (cap - 1)) xs)) := by
  rcases h with ⟨_, h⟩ | ⟨g, off, cap, cur, rfl, hb, hg, hle, hmax, hsz, hcells⟩
  · cases h
  · have hc0 := hcells 0 (by simp)
    simp at hle
    refine ⟨g, off, cap, by simp, hg.cell (by simpa using hc0), hle, hmax, hb, hg.lt, ?_⟩
    by_cases h1 : cap = 1
    · have hx : xs = [] := List.eq_nil_of_length_eq_zero (by omega)
      subst hx
      exact .inl ⟨h1, rfl, .inr ⟨g, off, 0, cur, rfl, hb, hg, by simp, by omega, by omega, fun j hj => by simp at hj⟩⟩
    · refine .inr ⟨by omega, .inr ⟨g, off + 1, cap - 1, cur, rfl, hb, hg, by omega, by omega, by omega, fun j hj => ?_⟩⟩
      have := hcells (j + 1) (by simpa using hj)
      rw [show off + 1 + j = off + (j + 1) from by omega, this]
      simp
end Go.Proofs.YtjfnoondkgjabaaDoor
