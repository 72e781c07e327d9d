/-
  Critical regions: the reference's.
-/
import Derived.Test.YtbbjnojipfnkoaaB
import Derived.Deep.RegionLaw
set_option linter.unusedVariables false
namespace Go.Proofs.Ytbbjnojipfnkoaa
open Go.RowKit

/-- An append whose run is known, at a step of a region that draws its order. -/
theorem step_append_run {P : Program} {ops : Array Oper} {o : Oper} {a : Act} {w : World} {K : Act → World → Prop} {Q : Exit → Act → World → Prop} {E : Prop} (hgd : o.guard = none) (s x : Operand) (t tx : TypeId)
    (ho : o.op = .call { callee := .builtin .append, args := #[s, x], argTypes := #[t, tx] }) (vs vx : Value) (hs : a.eval s = vs) (hx : a.eval x = vx) (v' : Value) (w' : World)
    (hr : (Builtin.append_ #[t, tx] o.type #[vs, vx]).run P w = .ok v' w') (h : K (a.put o.dst v') w') : if Region.wanted o (yielded ops a.tmps) = true then Oper.wp P o a w K Q else E := by
  have hw : Region.wanted o (yielded ops a.tmps) = true := by simp [Region.wanted, hgd]
  rw [if_pos hw]
  unfold Oper.wp execOp
  simp only [ho, resolve, invoke, builtin, Sem.run_bind, Sem.run_pure, Result.andThen_ok, List.map_toArray, List.map_cons, List.map_nil, hs, hx, hr]
  exact h

section
variable (b : Nat) (F : List Nat) (occ : Int) (es ws : List Int) (w : World)

theorem renter_low (p : Int) (hp : p < 1) : Calls Try.prog 10 #[.pointer (some ⟨b, 0, none⟩), .int .i64 p] w fun e w' => e = .returned (.bool false) ∧ w = w' := by
  go_enter Try.func10, Try.ntmps10
  go_wp2
  go_ret
  exact ⟨rfl, rfl⟩
set_option maxHeartbeats 1000000 in
theorem renter_free (p : Int) (hp : 1 ≤ p) (h : Rg 29 w b F 0 es ws) : Calls Try.prog 10 #[.pointer (some ⟨b, 0, none⟩), .int .i64 p] w (RgP 29 b F p es ws (.bool true) w) := by
  obtain ⟨ve, vw, h, rfl⟩ := h
  have x0 := h.obj.cell (i := 0) rfl
  have x1 := h.obj.free 0
  have HH := Lib.hid h
  clear h
  go_enter Try.func10, Try.ntmps10
  go_wp2
  go_ret
  have ht : Touch [b] w (w.setCell ⟨b, 0, none⟩ (.int .i64 p)) := (Touch.refl _ _).setCell (by simp) _
  have hr : Rv 29 (w.setCell ⟨b, 0, none⟩ (.int .i64 p)) b ve vw p es ws := ⟨HH.out.obj.set 0 _, HH.out.qe.touch ht (fun k hk => by have := HH.out.ne k hk; simp; omega), HH.out.qw.touch ht (fun k hk => by have := HH.out.nw k hk; simp; omega), HH.out.ne, HH.out.nw, HH.out.nn⟩
  obtain ⟨F', h1, h2⟩ := HH.out.left hr (ht.mono (by simp [fp])) (fun k hk => .inl hk) (fun k hk => .inl hk)
  exact ⟨F', rfl, h1, h2⟩

/-- One number behind a copy: what is so of the new list, in the world behind the store of it in cell i of b. -/
theorem behind {w w1 : World} {v : Value} {xs : List Int} (p : Int) (hq : Qu w1 w.heap.size 3 v (xs.map (Value.int .i64))) (ht : Touch [] w w1) (hl : xs.length ≤ 1000000) :
    ∃ v' w2, (∀ ty, (Builtin.append_ #[27, 27] ty #[v, .slice (some ⟨w1.heap.size, 0, none⟩) 1 1]).run Try.prog (w1.alloc (.cells #[.int .i64 p] 3)) = .ok v' w2) ∧ Qu w2 w.heap.size 3 v' ((xs ++ [p]).map (Value.int .i64)) ∧ Touch [] w w2 := by
  obtain ⟨v', w2, hr, hq2, hg, hn⟩ := Qu.appendI (hq.alloc (.cells #[.int .i64 p] 3)) (by have := ht.size; simp; omega) (show Sl (w1.alloc (.cells #[.int .i64 p] 3)) (.slice (some ⟨w1.heap.size, 0, none⟩) 1 1) [p] from ⟨_, 1, rfl, .inr ⟨w1.heap.size, 0, rfl, by simp, row1 w1 p _ _ rfl⟩⟩) (by simp; omega)
  exact ⟨v', w2, hr, hq2, (ht.alloc _).grown hg (fun k hk hlt => by have := (hq.own k hk).1; omega)⟩

set_option maxHeartbeats 2000000 in
theorem renter_full (p : Int) (hp : 1 ≤ p) (ho : occ ≠ 0) (h : Rg 29 w b F occ es ws) (l1 : es.length ≤ 1000000) : Calls Try.prog 10 #[.pointer (some ⟨b, 0, none⟩), .int .i64 p] w (RgP 29 b F occ (es ++ [p]) ws (.bool false) w) := by
  obtain ⟨ve, vw, h, rfl⟩ := h
  have x0 := h.obj.cell (i := 0) rfl
  have x1 := h.obj.cell (i := 1) rfl
  have HC := Lib.hid (copy_any ve es w h.qe.sl l1)
  have HH := Lib.hid h
  obtain ⟨ea, ec, rfl⟩ := Qu.form h.qe
  have h0 : (occ == 0) = false := beqF ho
  clear h
  go_enter Try.func10, Try.ntmps10
  go_wp2_with fail
  refine HC.out.mono ?_
  rintro e w1 ⟨v, rfl, hq, ht⟩
  obtain ⟨v', w2, hr, hq2, ht2⟩ := behind p hq ht l1
  obtain ⟨va, vc, rfl⟩ := Qu.form hq
  obtain ⟨va', vc', hv⟩ := Qu.form hq2
  rw [List.length_append, List.length_singleton] at hv
  subst hv
  have hb2 := HH.out.obj.touch ht2 (by simp)
  have y1 := hb2.cell (i := 1) rfl
  have y2 := hb2.free 1
  have HB := Lib.hid hb2
  have HQ := Lib.hid hq2
  have HT := Lib.hid ht2
  clear hq ht hq2 ht2 hb2
  go_wp2_with (at_builtin; refine Lib.wpList_append_run _ rfl _ _ _ _ rfl _ _ rfl rfl _ _ (hr _) ?_)
  go_ret
  have hlt := HH.out.obj.lt
  obtain ⟨F', h1, h2⟩ := pushed_e (es' := es ++ [p]) HH.out (HB.out.set 1 (.slice va' (es.length + 1) vc')) (HQ.out.touch (S := [b]) ((Touch.refl _ _).setCell (by simp) _) (fun k hk => by have := (HQ.out.own k hk).1; simp; omega) |>.mono (Nat.zero_le _)) ((HT.out.mono (by simp)).setCell (by simp) _) (fun k hk => ⟨.inr (HQ.out.own k hk).1, by have := (HQ.out.own k hk).1; omega⟩)
  exact ⟨F', rfl, h1, h2⟩

/-- Room for who comes next. -/
theorem Sl.tail {w : World} {a : Addr} {x : Int} {xs : List Int} {n c : Nat} (h : Sl w (.slice (some a) (n + 1) c) (x :: xs)) (hn : xs.length = n) (hs : a.spot = none) : w.cell? a = some (.int .i64 x) ∧ Sl w (.slice (some ⟨a.block, a.off + 1, none⟩) n (c - 1)) xs := by
  obtain ⟨a', cap, h1, h2⟩ := h
  injection h1 with e1 e2 e3
  subst e1 e3
  rcases h2 with h2 | ⟨g, off, h3, hlt, hr⟩
  · cases h2
  · cases h3
    refine ⟨by simpa using hr 0 (by simp), ⟨_, _, by rw [hn], .inr ⟨g, off + 1, rfl, hlt, fun j hj => ?_⟩⟩⟩
    have := hr (j + 1) (by simpa using hj)
    rw [show off + 1 + j = off + (j + 1) from by omega, this]
    simp

set_option maxHeartbeats 4000000 in
theorem rpass_any (h : Rg 29 w b F occ es ws) (l1 : es.length ≤ 1000000) : Calls Try.prog 25 #[.pointer (some ⟨b, 0, none⟩)] w (RgP 29 b F (hd es) es.tail ws (.int .i64 (hd es)) w) := by
  obtain ⟨ve, vw, h, rfl⟩ := h
  have ht : Touch [b] w (w.setCell ⟨b, 0, none⟩ (.int .i64 0)) := (Touch.refl _ _).setCell (by simp) _
  have hr : Rv 29 (w.setCell ⟨b, 0, none⟩ (.int .i64 0)) b ve vw 0 es ws := ⟨h.obj.set 0 _, h.qe.touch ht (fun k hk => by have := h.ne k hk; simp; omega), h.qw.touch ht (fun k hk => by have := h.nw k hk; simp; omega), h.ne, h.nw, h.nn⟩
  have x0 := h.obj.cell (i := 0) rfl
  have x1 := h.obj.free 0
  have y0 := hr.obj.cell (i := 0) rfl
  have y1 := hr.obj.cell (i := 1) rfl
  cases es with
  | nil =>
    obtain ⟨F', h1, h2⟩ := h.left hr (ht.mono (by simp [fp])) (fun k hk => .inl hk) (fun k hk => .inl hk)
    have H1 := Lib.hid h1
    have H2 := Lib.hid h2
    obtain ⟨ea, ec, rfl⟩ := Qu.form (xs := []) h.qe
    clear h hr ht h1 h2
    go_enter Try.func25, Try.ntmps25
    go_wp2
    go_ret
    exact ⟨F', rfl, H1.out, H2.out⟩
  | cons x xs =>
    simp only [List.length_cons] at l1
    obtain ⟨g, off, cap, hv, hx, hle, hmax, hbg, hlt, hcase⟩ := hr.qe.front
    simp only [List.length_map] at hv hle hcase
    subst hv
    have hne := h.ne g rfl
    have hb2 := hr.obj.set 0 (.int .i64 x)
    have ht2 : Touch [b] w ((w.setCell ⟨b, 0, none⟩ (.int .i64 0)).setCell ⟨b, 0, none⟩ (.int .i64 x)) := ht.setCell (by simp) _
    have htb : Touch [b] (w.setCell ⟨b, 0, none⟩ (.int .i64 0)) ((w.setCell ⟨b, 0, none⟩ (.int .i64 0)).setCell ⟨b, 0, none⟩ (.int .i64 x)) := (Touch.refl _ _).setCell (by simp) _
    have z0 := hr.obj.free 0
    have z1 := hb2.cell (i := 1) rfl
    have HH := Lib.hid h
    have HB2 := Lib.hid hb2
    have HT2 := Lib.hid ht2
    have HNE := Lib.hid hne
    have HTB := Lib.hid htb
    unfold maxLen at hmax
    rcases hcase with ⟨rfl, hxs, hq⟩ | ⟨h1, hq⟩
    · have hxs : xs = [] := by simpa using hxs
      subst hxs
      have hq2 := (Qu.sl (xs := []) hq).touch htb (fun k hk => by simp [Value.ownBlock] at hk; simp; omega)
      have HC := Lib.hid (copy_any (.slice (some ⟨g, off, none⟩) 0 (0)) [] _ hq2 (by simp))
      clear h hr ht hb2 ht2 htb hq hq2 hne
      go_enter Try.func25, Try.ntmps25
      go_wp2_with fail
      refine HC.out.mono ?_
      rintro e w1 ⟨v, rfl, hq, ht⟩
      have hb3 := HB2.out.touch ht (by simp)
      have u1 := hb3.cell (i := 1) rfl
      have u2 := hb3.free 1
      have u0 := (hb3.set 1 v).cell (i := 0) rfl
      have HB3 := Lib.hid hb3
      have HQ := Lib.hid hq
      have HT := Lib.hid ht
      obtain ⟨va, vc, hv⟩ := Qu.form hq
      have hv : v = .slice va 0 vc := hv
      subst hv
      clear hq ht hb3
      go_wp2
      go_ret
      have hlt := HH.out.obj.lt
      have hsz := HT2.out.size
      have hown : ∀ k, (Value.slice va 0 vc).ownBlock = some k → w.heap.size ≤ k := fun k hk => by have := (HQ.out.own k hk).1; omega
      have hr : Rv 29 (w1.setCell ⟨b, 1, none⟩ (.slice va 0 vc)) b (.slice va 0 vc) vw x [] ws :=
        ⟨HB3.out.set 1 _, (HQ.out.touch (S := [b]) ((Touch.refl _ _).setCell (by simp) _) (fun k hk => by have := hown k hk; simp; omega)).mono (Nat.zero_le _),
          HH.out.qw.touch (((HT2.out.trans (HT.out.mono (by simp))).setCell (by simp) _)) (fun k hk => by have := HH.out.nw k hk; simp; omega),
          fun k hk => by have := hown k hk; omega, HH.out.nw, fun k hk hk2 => by have := hown k hk; have := (HH.out.qw.own k hk2).2; omega⟩
      obtain ⟨F', h1, h2⟩ := HH.out.left hr ((((HT2.out.trans (HT.out.mono (by simp))).setCell (by simp) _)).mono (by simp [fp])) (fun k hk => .inr (hown k hk)) (fun k hk => .inl hk)
      exact ⟨F', rfl, h1, h2⟩
    · have hq2 := hq.sl.touch htb (fun k hk => by simp [Value.ownBlock] at hk; simp; omega)
      have hc1 : ¬ cap = 1 := by omega
      have HC := Lib.hid (copy_any (.slice (some ⟨g, off + 1, none⟩) xs.length (cap - 1)) xs _ hq2 (by omega))
      clear h hr ht hb2 ht2 htb hq hq2 hne
      go_enter Try.func25, Try.ntmps25
      go_wp2_with fail
      refine HC.out.mono ?_
      rintro e w1 ⟨v, rfl, hq, ht⟩
      have hb3 := HB2.out.touch ht (by simp)
      have u1 := hb3.cell (i := 1) rfl
      have u2 := hb3.free 1
      have u0 := (hb3.set 1 v).cell (i := 0) rfl
      have HB3 := Lib.hid hb3
      have HQ := Lib.hid hq
      have HT := Lib.hid ht
      obtain ⟨va, vc, hv⟩ := Qu.form hq
      have hv : v = .slice va xs.length vc := hv
      subst hv
      clear hq ht hb3
      go_wp2
      go_ret
      have hlt := HH.out.obj.lt
      have hsz := HT2.out.size
      have hown : ∀ k, (Value.slice va xs.length vc).ownBlock = some k → w.heap.size ≤ k := fun k hk => by have := (HQ.out.own k hk).1; omega
      have hr : Rv 29 (w1.setCell ⟨b, 1, none⟩ (.slice va xs.length vc)) b (.slice va xs.length vc) vw x xs ws :=
        ⟨HB3.out.set 1 _, (HQ.out.touch (S := [b]) ((Touch.refl _ _).setCell (by simp) _) (fun k hk => by have := hown k hk; simp; omega)).mono (Nat.zero_le _),
          HH.out.qw.touch (((HT2.out.trans (HT.out.mono (by simp))).setCell (by simp) _)) (fun k hk => by have := HH.out.nw k hk; simp; omega),
          fun k hk => by have := hown k hk; omega, HH.out.nw, fun k hk hk2 => by have := hown k hk; have := (HH.out.qw.own k hk2).2; omega⟩
      obtain ⟨F', h1, h2⟩ := HH.out.left hr ((((HT2.out.trans (HT.out.mono (by simp))).setCell (by simp) _)).mono (by simp [fp])) (fun k hk => .inr (hown k hk)) (fun k hk => .inl hk)
      exact ⟨F', rfl, h1, h2⟩
end
end Go.Proofs.Ytbbjnojipfnkoaa
