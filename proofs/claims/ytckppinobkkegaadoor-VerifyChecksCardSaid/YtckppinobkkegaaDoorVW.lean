/-
  What the reference's Depths leans on: Copy, next with whose memory it is, the places as numbers, a queue's last.
-/
import Derived.Test.YtckppinobkkegaaDoorVU
import Derived.Test.YtckppinobkkegaaDoorVO
import Derived.Test.YtckppinobkkegaaDoorS
set_option linter.unusedVariables false
namespace Go.Proofs.YtckppinobkkegaaDoor
open Go Go.RowKit

theorem snoc7 (t : List Nat) : t = [] ∨ ∃ t' i, t = t' ++ [i] := by
  by_cases h : t = []
  · exact .inl h
  · exact .inr ⟨t.dropLast, t.getLast h, (List.dropLast_concat_getLast h).symm⟩
/-- THE LAST, and what stands ahead of it. -/
theorem Qu.last {w : World} {base : Nat} {e : TypeId} {v x : Value} {xs : List Value} (h : Qu w base e v (xs ++ [x])) :
    ∃ g off cap, v = .slice (some ⟨g, off, none⟩) (xs.length + 1) cap ∧ w.cell? ⟨g, off + xs.length, none⟩ = some x ∧ xs.length + 1 ≤ cap ∧ cap ≤ maxLen ∧ Qu w base e (.slice (some ⟨g, off, none⟩) xs.length cap) xs := by
  rcases h with ⟨_, h⟩ | ⟨g, off, cap, cur, rfl, hb, hg, hle, hmax, hsz, hcells⟩
  · simp at h
  · simp at hle
    have hc := hcells xs.length (by simp)
    refine ⟨g, off, cap, by simp, hg.cell (by rw [hc]; simp), hle, hmax, .inr ⟨g, off, cap, cur, rfl, hb, hg, by omega, hmax, hsz, fun j hj => ?_⟩⟩
    rw [hcells j (by simp; omega), List.getElem?_append_left hj]
set_option maxHeartbeats 1000000 in
theorem rcopy7_any (v : Value) (xs : List Int) (w : World) (h : Sl w v xs) (hl : xs.length ≤ 1000000) :
    Calls Tryd.prog 17 #[v] w (Own xs w) := by
  have HS := Lib.hid h
  have HQ := Lib.hid (Qu.made (w := w) (base := w.heap.size) (e := 3) (b := w.heap.size) (n := 0) (c := #[]) rfl (Nat.le_refl _) rfl (Nat.zero_le _))
  obtain ⟨v', w', hr, hq', hg, hn⟩ := Qu.appendI (xs := []) HQ.out (by simp) (HS.out.alloc (.cells #[] 3)) (by simp; omega)
  have HQ' := Lib.hid hq'
  have HG : Hid (Touch [] w w') := Lib.hid (((Touch.refl _ w).alloc _).grown hg (fun k hk hlt => by simp [Value.ownBlock] at hk; omega))
  obtain ⟨va, vc, rfl⟩ := Qu.form hq'
  clear hq' hg hn HQ h
  go_enter Tryd.func17, Tryd.ntmps17
  go_wp2_with (at_builtin; refine Lib.wpList_append_run _ rfl _ _ _ _ rfl _ _ rfl rfl _ _ (hr _) ?_)
  go_ret
  exact ⟨_, rfl, HQ'.out, HG.out⟩
def ListO (l : List Int) (w : World) (e : Ending) (w' : World) : Prop := ∃ a c, e = .returned (.slice a l.length c) ∧ Hid (Sl w' (.slice a l.length c) l ∧ Touch [] w w' ∧ ∀ k, (Value.slice a l.length c).ownBlock = some k → w.heap.size ≤ k)
set_option maxHeartbeats 8000000 in
theorem rnextO_any (op a b A : Int) (w : World) (h0 : 0 ≤ A) (h1 : A ≤ 1000000) : Calls Tryd.prog 20 #[.agg #[.int .i64 op, .int .i64 a, .int .i64 b], .int .i64 A] w (ListO (nxA op a b A) w) := by
  have hb : Blk (w.alloc (.cells #[.int .i64 op, .int .i64 a, .int .i64 b] 40)) w.heap.size #[.int .i64 op, .int .i64 a, .int .i64 b] 40 := Blk.new rfl
  have HT0 := Lib.hid ((Touch.refl [] w).alloc (.cells #[.int .i64 op, .int .i64 a, .int .i64 b] 40))
  have c0 := hb.cell (i := 0) rfl
  have c1 := hb.cell (i := 1) rfl
  have c2 := hb.cell (i := 2) rfl
  unfold nxA
  clear hb
  by_cases e27 : op = 27
  · subst e27
    rw [if_pos rfl]
    go_enter Tryd.func20, Tryd.ntmps20
    go_wp2_with fail
    go_ret
    exact ⟨_, _, rfl, Lib.hid ⟨Sl.nil _, HT0.out, fun k hk => by simp [Value.ownBlock] at hk⟩⟩
  have f27 : (op == 27) = false := beqF e27
  by_cases e24 : op = 24
  · subst e24
    rw [if_neg (by decide), if_pos rfl]
    go_enter Tryd.func20, Tryd.ntmps20
    go_wp2_with fail
    go_ret
    exact ⟨_, _, rfl, Lib.hid ⟨slA1 (Blk.new (by simp)), HT0.out.alloc _, fun k hk => by simp [Value.ownBlock] at hk; omega⟩⟩
  have f24 : (op == 24) = false := beqF e24
  by_cases e25 : op = 25
  · subst e25
    rw [if_neg (by decide), if_neg (by decide), if_pos rfl]
    go_enter Tryd.func20, Tryd.ntmps20
    go_wp2_with fail
    go_ret
    exact ⟨_, _, rfl, Lib.hid ⟨slA2 (Blk.new (by simp)), HT0.out.alloc _, fun k hk => by simp [Value.ownBlock] at hk; omega⟩⟩
  have f25 : (op == 25) = false := beqF e25
  by_cases e33 : op = 33
  · subst e33
    rw [if_neg (by decide), if_neg (by decide), if_neg (by decide), if_pos rfl]
    go_enter Tryd.func20, Tryd.ntmps20
    go_wp2_with fail
    go_ret
    exact ⟨_, _, rfl, Lib.hid ⟨slA2 (Blk.new (by simp)), HT0.out.alloc _, fun k hk => by simp [Value.ownBlock] at hk; omega⟩⟩
  have f33 : (op == 33) = false := beqF e33
  rw [if_neg e27, if_neg e24, if_neg e25, if_neg e33]
  clear e27 e24 e25 e33
  go_enter Tryd.func20, Tryd.ntmps20
  go_wp2_with fail
  go_ret
  exact ⟨_, _, rfl, Lib.hid ⟨slA1 (Blk.new (by simp)), HT0.out.alloc _, fun k hk => by simp [Value.ownBlock] at hk; omega⟩⟩
/-- A place of a procedure, as a number of the program. -/
def plc (P : Pg) (k j : Nat) : Int := ((fromP P k + j : Nat) : Int)
theorem cons2 {x y : Int} {l m : List Int} (h : x = y) (h2 : l = m) : x :: l = y :: m := by rw [h, h2]
theorem nx_eq {P : Pg} {k i : Nat} (ht : TabOk P) (hk : k < P.n2) (hi : InsAll P k) (hin : i < (flow P k).n) : nxA (P.op (fromP P k + i)) (P.a (fromP P k + i)) (P.b (fromP P k + i)) (plc P k i) = ((flow P k).nx i).map (plc P k) := by
  have hn : i < toP P k - fromP P k := hin
  obtain ⟨hf, hg⟩ := insC_zero (hi (fromP P k + i) (by omega) (by omega))
  show nxA _ _ _ _ = (nxP P k i).map _
  unfold nxA nxP plc
  by_cases e27 : P.op (fromP P k + i) = 27
  · rw [if_pos e27, if_pos e27]; rfl
  rw [if_neg e27, if_neg e27]
  by_cases e24 : P.op (fromP P k + i) = 24
  · have := hg.jump (.inl e24)
    rw [if_pos e24, if_pos e24]
    exact cons2 (by (try dsimp only); omega) rfl
  rw [if_neg e24, if_neg e24]
  by_cases e25 : P.op (fromP P k + i) = 25
  · have := hg.jump (.inr e25)
    rw [if_pos e25, if_pos e25]
    exact cons2 (by (try dsimp only); omega) (cons2 (by (try dsimp only); omega) rfl)
  rw [if_neg e25, if_neg e25]
  by_cases e33 : P.op (fromP P k + i) = 33
  · have := hg.await e33
    rw [if_pos e33, if_pos e33]
    exact cons2 (by (try dsimp only); omega) (cons2 (by (try dsimp only); omega) rfl)
  rw [if_neg e33, if_neg e33]
  exact cons2 (by (try dsimp only); omega) rfl
theorem nx_len {P : Pg} {k i : Nat} : ((flow P k).nx i).length ≤ 2 := by
  show (nxP P k i).length ≤ 2
  unfold nxP
  split
  · simp
  split
  · simp
  split
  · simp
  split
  · simp
  · simp
/-- The reference's labels and what is still to be gone on from. -/
structure RdI (w0 w : World) (P : Pg) (k Z : Nat) (tv : Value) (D : List Int) (t : List Nat) : Prop where
  q : Qu w (w0.heap.size + 1) 3 tv ((t.map (plc P k)).map (Value.int .i64))
  nz : ∀ b, tv.ownBlock = some b → b ≠ Z
  d : Blk w Z (D.map (Value.int .i64)).toArray 3
  low : Low D
  t : Touch [] w0 w
  lz : w0.heap.size ≤ Z
theorem RdI.at {w0 w : World} {P : Pg} {k Z : Nat} {tv : Value} {D : List Int} {t : List Nat} (h : RdI w0 w P k Z tv D t) {i : Nat} (hi : i < D.length) : w.cell? ⟨Z, i, none⟩ = some (.int .i64 (lab D i)) := by
  refine h.d.cell ?_
  rw [List.getElem?_toArray, List.getElem?_map, List.getElem?_eq_getElem hi, ← lab_at hi]
  rfl
theorem RdI.touch {w0 w w' : World} {P : Pg} {k Z : Nat} {tv : Value} {D : List Int} {t : List Nat} (h : RdI w0 w P k Z tv D t) (ht : Touch [] w w') : RdI w0 w' P k Z tv D t :=
  ⟨h.q.touch ht (fun _ _ => by simp), h.nz, h.d.touch ht (by simp), h.low, h.t.trans ht, h.lz⟩
theorem RdI.set {w0 w : World} {P : Pg} {k Z : Nat} {tv : Value} {D : List Int} {t : List Nat} (h : RdI w0 w P k Z tv D t) (i : Nat) (x : Int) (hl : Low (D.set i x)) : RdI w0 (w.setCell ⟨Z, i, none⟩ (.int .i64 x)) P k Z tv (D.set i x) t := by
  have hg := h.d.set i (.int .i64 x)
  rw [List.setIfInBounds_toArray, ← List.map_set] at hg
  have ht : Touch [Z] w (w.setCell ⟨Z, i, none⟩ (.int .i64 x)) := (Touch.refl [Z] w).setCell (by simp) _
  exact ⟨h.q.touch ht (fun b hb => by have := h.nz b hb; simp; omega), h.nz, hg, hl, h.t.transF ht (fun q hq hlt => by have := h.lz; have := List.mem_singleton.1 hq; omega), h.lz⟩
theorem grown_touch {a b : World} {o : Option Nat} (hg : a.grownBy b o) : Touch o.toList a b := (Touch.refl _ a).grown hg (fun k hk _ => by subst hk; simp)
theorem nx_get {P : Pg} {k i j : Nat} (hj : j < ((flow P k).nx i).length) : ∃ q, ((flow P k).nx i).getD j 0 = q ∧ q ∈ (flow P k).nx i ∧ (((flow P k).nx i).map (plc P k)).getD j 0 = plc P k q ∧ ((flow P k).nx i).take (j + 1) = ((flow P k).nx i).take j ++ [q] := by
  refine ⟨_, rfl, ?_, ?_, ?_⟩
  · rw [List.getD_eq_getElem?_getD, List.getElem?_eq_getElem hj]; exact List.getElem_mem hj
  · rw [List.getD_eq_getElem?_getD, List.getD_eq_getElem?_getD, List.getElem?_map, List.getElem?_eq_getElem hj]; rfl
  · rw [List.getD_eq_getElem?_getD, List.getElem?_eq_getElem hj, List.take_add_one, List.getElem?_eq_getElem hj]; rfl
theorem tkP_04 {P : Pg} (ht : TabOk P) {k i : Nat} (hf : FitOk P k i) : 0 ≤ tkP P i ∧ tkP P i ≤ 4 := tk_04 ht hf
end Go.Proofs.YtckppinobkkegaaDoor
