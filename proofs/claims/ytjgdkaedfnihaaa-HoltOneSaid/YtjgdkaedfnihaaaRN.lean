/-
  Worlds in which a few blocks have just been made: lists, and lists of lists, written out.
-/
import Derived.Test.YtjgdkaedfnihaaaRW
set_option linter.unusedVariables false
namespace Go.Proofs.Ytjgdkaedfnihaaa
open Go.RowKit

def Wn (w : World) (l : List Obj) : World := l.foldl (fun w o => w.alloc o) w
theorem Wn_size (w : World) (l : List Obj) : (Wn w l).heap.size = w.heap.size + l.length := by
  unfold Wn
  induction l generalizing w with
  | nil => rfl
  | cons o l ih => rw [List.foldl_cons, ih, World.size_alloc, List.length_cons]; omega
theorem Wn_touch (w : World) (l : List Obj) : Touch [] w (Wn w l) := by
  unfold Wn
  induction l generalizing w with
  | nil => exact Touch.refl _ _
  | cons o l ih => rw [List.foldl_cons]; exact ((Touch.refl [] w).alloc o).trans (ih _)
theorem Wn_at (w : World) (l : List Obj) (k : Nat) {o : Obj} (h : l[k]? = some o) : (Wn w l).heap[w.heap.size + k]? = some o := by
  unfold Wn
  induction l generalizing w k with
  | nil => simp at h
  | cons o' l ih =>
    rw [List.foldl_cons]
    cases k with
    | zero =>
      simp at h
      subst h
      have h1 := heap_alloc_new w o'
      rw [Nat.add_zero]
      refine ((Wn_touch (w.alloc o') l).block _ (by simp) (by simp)).trans h1
    | succ k =>
      have h2 := ih (w.alloc o') k (by simpa using h)
      rw [World.size_alloc] at h2
      rw [← h2]
      congr 1
      omega
theorem sl_wn (w : World) (l : List Obj) (k : Nat) (xs : List Int) (t : TypeId) (c : Nat) (h : l[k]? = some (.cells (xs.map (Value.int .i64)).toArray t (0, 0))) : Sl (Wn w l) (.slice (some ⟨w.heap.size + k, 0, none⟩) xs.length c) xs := by
  have h1 := Wn_at w l k h
  have hb : Blk (Wn w l) (w.heap.size + k) (xs.map (Value.int .i64)).toArray t := h1
  refine ⟨_, c, rfl, .inr ⟨_, 0, rfl, hb.lt, fun j hj => hb.cell ?_⟩⟩
  simp [hj]
theorem rws_wn (w : World) (l : List Obj) (k : Nat) (rows : List (List Int)) (vs : List Value) (t : TypeId) (c : Nat) (h : l[k]? = some (.cells vs.toArray t (0, 0))) (hl : vs.length = rows.length) (hr : ∀ i, i < rows.length → Sl (Wn w l) (vs.getD i (.slice none 0 0)) (rw_ rows i)) :
    Rws (Wn w l) (.slice (some ⟨w.heap.size + k, 0, none⟩) rows.length c) rows := by
  have h1 := Wn_at w l k h
  have hb : Blk (Wn w l) (w.heap.size + k) vs.toArray t := h1
  refine ⟨_, c, rfl, .inr ⟨_, 0, rfl, hb.lt, fun i => vs.getD i (.slice none 0 0), fun i hi => ⟨hr i hi, hb.cell ?_⟩⟩⟩
  show vs.toArray[0 + i]? = some (vs.getD i (.slice none 0 0))
  rw [Nat.zero_add, List.getElem?_toArray, List.getD_eq_getElem?_getD, List.getElem?_eq_getElem (by omega)]; rfl
theorem rws_wn1 (w : World) (l : List Obj) (k i : Nat) (x : List Int) (t t0 : TypeId) (c c0 : Nat) (h : l[k]? = some (.cells #[.slice (some ⟨w.heap.size + i, 0, none⟩) x.length c0] t (0, 0))) (h0 : l[i]? = some (.cells (x.map (Value.int .i64)).toArray t0 (0, 0))) :
    Rws (Wn w l) (.slice (some ⟨w.heap.size + k, 0, none⟩) 1 c) [x] :=
  rws_wn w l k [x] [_] t c h rfl (fun a ha => by
    have : a = 0 := by simp at ha; omega
    subst this
    exact sl_wn w l i x t0 c0 h0)
theorem rws_wn2 (w : World) (l : List Obj) (k i j : Nat) (x y : List Int) (t t0 : TypeId) (c c0 c1 : Nat) (h : l[k]? = some (.cells #[.slice (some ⟨w.heap.size + i, 0, none⟩) x.length c0, .slice (some ⟨w.heap.size + j, 0, none⟩) y.length c1] t (0, 0)))
    (h0 : l[i]? = some (.cells (x.map (Value.int .i64)).toArray t0 (0, 0))) (h1 : l[j]? = some (.cells (y.map (Value.int .i64)).toArray t0 (0, 0))) :
    Rws (Wn w l) (.slice (some ⟨w.heap.size + k, 0, none⟩) 2 c) [x, y] :=
  rws_wn w l k [x, y] [_, _] t c h rfl (fun a ha => by
    have : a = 0 ∨ a = 1 := by simp at ha; omega
    rcases this with rfl | rfl
    · exact sl_wn w l i x t0 c0 h0
    · exact sl_wn w l j y t0 c1 h1)
end Go.Proofs.Ytjgdkaedfnihaaa
