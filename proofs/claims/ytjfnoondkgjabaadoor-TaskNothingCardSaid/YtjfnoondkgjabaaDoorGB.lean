/-
  A task's stack and the variables' words side by side; an instruction with all that it is done on; push.
-/
import Derived.Test.YtjfnoondkgjabaaDoorGA
import Derived.Test.YtjfnoondkgjabaaDoorR
import Derived.StillTailTactics
set_option linter.unusedVariables false
namespace Go.Proofs.YtjfnoondkgjabaaDoor
open Go.RowKit Go.BigFrame

/-- The stack's frames are S, and the n words ahead of it are v. -/
structure Ps (w : World) (k sb g N n sz : Nat) (v : Nat → Int) (S : List Frm) : Prop where
  ks : ∃ f, KsF w k sb g f N n sz S ∧ ∀ j, j < n → f j = v j
theorem Ps.touch {w w' : World} {k sb g N n sz : Nat} {v : Nat → Int} {S : List Frm} {L : List Nat} (h : Ps w k sb g N n sz v S) (ht : Touch L w w') (h1 : k ∉ L) (h2 : sb ∉ L) (h3 : g ∉ L) : Ps w' k sb g N n sz v S := by
  obtain ⟨f, h, e⟩ := h.ks
  exact ⟨f, ⟨⟨h.1.obj.touch ht h1, h.1.st.touch ht h2 h3, h.1.n1, h.1.n2, h.1.fit, h.1.big, h.1.tps⟩, h.2⟩, e⟩
theorem Ps.still {w w' : World} {k sb g N n sz : Nat} {v : Nat → Int} {S : List Frm} (h : Ps w k sb g N n sz v S) (ht : Touch [] w w') : Ps w' k sb g N n sz v S := h.touch ht (by simp) (by simp) (by simp)
def PsP (k sb g N n sz : Nat) (v : Nat → Int) (S : List Frm) (r : Value) (w : World) (e : Ending) (w' : World) : Prop := e = .returned r ∧ Ps w' k sb g N n sz v S ∧ Touch [k, g] w w'
section
variable {k sb g N n sz : Nat} {v : Nat → Int} {F : Frm} {r S S' : List Frm} {w : World}
theorem ps_of {fn : Nat} {args : Array Value} {x : Value} (hc : ∀ f, KsF w k sb g f N n sz S → Calls Tryd.prog fn args w (KsP k sb g N n sz f S' x w)) (h : Ps w k sb g N n sz v S) : Calls Tryd.prog fn args w (PsP k sb g N n sz v S' x w) := by
  obtain ⟨f, h, e⟩ := h.ks
  refine (hc f h).mono ?_
  rintro e' w' ⟨rfl, ⟨f', h3, h4⟩, ht⟩
  exact ⟨rfl, ⟨f', h3, fun j hj => by rw [h4 j (.inl hj)]; exact e j hj⟩, ht⟩
theorem p_push (x : Int) {c : Int} (h1 : (pushM sz x (F :: r)).1 = c) (h2 : (pushM sz x (F :: r)).2 = S') (h : Ps w k sb g N n sz v (F :: r)) : Calls Tryd.prog 20 #[.pointer (some ⟨k, 0, none⟩), .int .i64 x] w (PsP k sb g N n sz v S' (.int .i64 c) w) := by
  subst h1 h2
  exact ps_of (fun f h' => push_m k sb g f N n sz F r w x h') h
theorem p_pop {x c : Int} (h1 : (popM (F :: r)).1 = x) (h1' : (popM (F :: r)).2.1 = c) (h2 : (popM (F :: r)).2.2 = S') (h : Ps w k sb g N n sz v (F :: r)) : Calls Tryd.prog 41 #[.pointer (some ⟨k, 0, none⟩)] w (PsP k sb g N n sz v S' (.tuple #[.int .i64 x, .int .i64 c]) w) := by
  subst h1 h1' h2
  exact ps_of (fun f h' => pop_m k sb g f N n sz F r w h') h
theorem p_call (x y z : Int) {c : Int} (hz : z ≤ 9223372036854775807) (h1 : (callM sz x y z (F :: r)).1 = c) (h2 : (callM sz x y z (F :: r)).2 = S') (h : Ps w k sb g N n sz v (F :: r)) : Calls Tryd.prog 15 #[.pointer (some ⟨k, 0, none⟩), .int .i64 x, .int .i64 y, .int .i64 z] w (PsP k sb g N n sz v S' (.int .i64 c) w) := by
  subst h1 h2
  exact ps_of (fun f h' => call_m k sb g f N n sz F r w x y z hz h') h
theorem p_ret {x : Int} {b : Bool} (h1 : (retM (F :: r)).1 = x) (h1' : (retM (F :: r)).2.1 = b) (h2 : (retM (F :: r)).2.2 = S') (h : Ps w k sb g N n sz v (F :: r)) : Calls Tryd.prog 45 #[.pointer (some ⟨k, 0, none⟩)] w (PsP k sb g N n sz v S' (.tuple #[.int .i64 x, .bool b]) w) := by
  subst h1 h1' h2
  exact ps_of (fun f h' => ret_m k sb g f N n sz F r w h') h
theorem p_set (i x : Int) {b : Bool} (h1 : (setM i x (F :: r)).1 = b) (h2 : (setM i x (F :: r)).2 = S') (h : Ps w k sb g N n sz v (F :: r)) : Calls Tryd.prog 44 #[.pointer (some ⟨k, 0, none⟩), .int .i64 i, .int .i64 x] w (PsP k sb g N n sz v S' (.bool b) w) := by
  subst h1 h2
  exact ps_of (fun f h' => set_m k sb g f N n sz F r w i x h') h
theorem p_loc (i : Int) {x : Int} {b : Bool} (h1 : (locM i (F :: r)).1 = x) (h2 : (locM i (F :: r)).2 = b) (h : Ps w k sb g N n sz v (F :: r)) : Calls Tryd.prog 43 #[.pointer (some ⟨k, 0, none⟩), .int .i64 i] w fun e w' => e = .returned (.tuple #[.int .i64 x, .bool b]) ∧ Touch [] w w' := by
  subst h1 h2
  obtain ⟨f, h, _⟩ := h.ks
  exact loc_m k sb g f N n sz F r w i h
theorem p_top (i : Int) {x : Int} {b : Bool} (h1 : (topM i (F :: r)).1 = x) (h2 : (topM i (F :: r)).2 = b) (h : Ps w k sb g N n sz v (F :: r)) : Calls Tryd.prog 16 #[.pointer (some ⟨k, 0, none⟩), .int .i64 i] w fun e w' => e = .returned (.tuple #[.int .i64 x, .bool b]) ∧ Touch [] w w' := by
  subst h1 h2
  obtain ⟨f, h, _⟩ := h.ks
  exact top_m k sb g f N n sz F r w i h
theorem p_frames (h : Ps w k sb g N n sz v (F :: r)) : Calls Tryd.prog 12 #[.pointer (some ⟨k, 0, none⟩)] w fun e w' => e = .returned (.int .i64 (r.length : Nat)) ∧ w = w' := by
  obtain ⟨f, h, _⟩ := h.ks
  exact frames_m k sb g f N n sz F r w h
theorem Ps.nle (h : Ps w k sb g N n sz v S) : n + sz ≤ N ∧ N ≤ 8192 := by
  obtain ⟨f, h, _⟩ := h.ks
  exact ⟨h.1.fit, h.1.big⟩
theorem p_get (j : Nat) (hj : j < n) {x : Int} (hx : v j = x) (h : Ps w k sb g N n sz v S) : Calls Tryd.prog 37 #[.pointer (some ⟨sb, 0, none⟩), .int .i64 (j : Int)] w fun e w' => e = .returned (.tuple #[.int .i64 x, .bool true]) ∧ w = w' := by
  subst hx
  have hn := h.nle
  obtain ⟨f, h, e⟩ := h.ks
  rw [← e j hj]
  exact sget_yes sb g N f w h.1.st hn.2 j (by omega)
theorem p_put (j : Nat) (hj : j < n) (x : Int) (h : Ps w k sb g N n sz v S) : Calls Tryd.prog 38 #[.pointer (some ⟨sb, 0, none⟩), .int .i64 (j : Int), .int .i64 x] w (PsP k sb g N n sz (upd v j x) S (.bool true) w) := by
  have hn := h.nle
  obtain ⟨f, h, e⟩ := h.ks
  refine (sput_yes sb g N f w h.1.st hn.2 j x (by omega)).mono ?_
  rintro e' w' ⟨rfl, hs, ht⟩
  refine ⟨rfl, ⟨upd f j x, ⟨⟨h.1.obj.touch ht (by simpa using h.1.n2), hs, h.1.n1, h.1.n2, h.1.fit, h.1.big, h.1.tps⟩, h.2.congr fun i hi => ?_⟩, fun i hi => ?_⟩, ht.mono (by simp)⟩
  · unfold upd; rw [if_neg (by omega)]
  · unfold upd; split
    · rfl
    · exact e i hi
end
/-- The program as a value: its slices' parts. -/
structure PV where
  a1 : Option Addr
  n1 : Nat
  c1 : Nat
  a2 : Option Addr
  n2 : Nat
  c2 : Nat
  a3 : Option Addr
  n3 : Nat
  c3 : Nat
  rg : Int
  a5 : Option Addr
  n5 : Nat
  c5 : Nat
  a6 : Option Addr
  n6 : Nat
  c6 : Nat
  a7 : Option Addr
  n7 : Nat
  c7 : Nat
  a8 : Option Addr
  n8 : Nat
  c8 : Nat
  cl : Int
def PV.c (p : PV) : Array Value := #[.slice p.a1 p.n1 p.c1, .slice p.a2 p.n2 p.c2, .slice p.a3 p.n3 p.c3, .int .i64 p.rg, .slice p.a5 p.n5 p.c5, .slice p.a6 p.n6 p.c6, .slice p.a7 p.n7 p.c7, .slice p.a8 p.n8 p.c8, .int .i64 p.cl]
def wkA (op a bb : Int) (p : PV) (sb : Nat) (nx : Int) : Array Value := #[.int .i64 op, .int .i64 a, .int .i64 bb, .slice p.a1 p.n1 p.c1, .slice p.a2 p.n2 p.c2, .slice p.a3 p.n3 p.c3, .int .i64 p.rg, .slice p.a5 p.n5 p.c5, .slice p.a6 p.n6 p.c6, .slice p.a7 p.n7 p.c7, .slice p.a8 p.n8 p.c8, .int .i64 p.cl, .pointer (some ⟨sb, 0, none⟩), .int .i64 nx]
/-- What an instruction leaves. -/
def RowP (W k sb g N n sz : Nat) (c : Int) (wk : Array Value) (v : Nat → Int) (S : List Frm) (w : World) (e : Ending) (w' : World) : Prop := e = .returned (.int .i64 c) ∧ Hid (Ps w' k sb g N n sz v S ∧ Blk w' W wk 50 ∧ Touch [k, g, W] w w')
section
variable {b k G W sb g N n sz : Nat} {at' op a bb nx : Int} {p : PV} {v : Nat → Int} {F : Frm} {r S S' : List Frm} {w : World}
set_option maxHeartbeats 4000000 in
theorem row_nop (hw : Blk w W (wkA op a bb p sb nx) 50) (hs : Ps w k sb g N n sz v S) : Calls Tryd.prog 18 #[.pointer (some ⟨b, 0, none⟩), .pointer (some ⟨W, 0, none⟩)] w (RowP W k sb g N n sz 0 (wkA op a bb p sb nx) v S w) := by
  have HR : Hid (Ps w k sb g N n sz v S ∧ Blk w W (wkA op a bb p sb nx) 50 ∧ Touch [k, g, W] w w) := Lib.hid ⟨hs, hw, Touch.refl _ _⟩
  clear hw hs
  go_enter Tryd.func18, Tryd.ntmps18
  go_wp2
  go_ret
  exact ⟨rfl, HR⟩
set_option maxHeartbeats 4000000 in
theorem row_push {c : Int} (h1 : (pushM sz a (F :: r)).1 = c) (h2 : (pushM sz a (F :: r)).2 = S') (ht : Tk w b k G at') (hw : Blk w W (wkA op a bb p sb nx) 50) (hs : Ps w k sb g N n sz v (F :: r)) (hk : W ≠ k) (hg : W ≠ g) :
    Calls Tryd.prog 19 #[.pointer (some ⟨b, 0, none⟩), .pointer (some ⟨W, 0, none⟩)] w (RowP W k sb g N n sz c (wkA op a bb p sb nx) v S' w) := by
  have HC : Hid (∀ w', Touch [] w w' → Calls Tryd.prog 20 #[.pointer (some ⟨k, 0, none⟩), .int .i64 a] w' (PsP k sb g N n sz v S' (.int .i64 c) w')) := Lib.hid (fun w' t => p_push a h1 h2 (hs.still t))
  have HW := Lib.hid hw
  have HN : Hid (W ≠ k ∧ W ≠ g) := Lib.hid ⟨hk, hg⟩
  have x0 := ht.obj.cell (i := 0) rfl
  have y1 := hw.cell (i := 1) (v := .int .i64 a) rfl
  clear h1 h2 ht hw hs
  go_enter Tryd.func19, Tryd.ntmps19
  go_wp2_with fail
  go_still_tail 9, (by kernel_rfl)
  change wpList _ _ _ _ _ (World.drew w)
  have HD : Hid (Touch [] w (World.drew w)) := Lib.hid (Touch.refl [] w).drew
  clear x0 y1
  generalize World.drew w = wd at HD ⊢
  go_wp2_with fail
  refine (HC.out _ HD.out).mono ?_
  rintro e w2 ⟨rfl, hp, ht⟩
  go_wp2
  go_ret
  exact ⟨rfl, Lib.hid ⟨hp, (HW.out.touch HD.out (by simp)).touch ht (by simpa using HN.out), (HD.out.mono (by simp)).trans (ht.mono (by intro i hi; simp at hi ⊢; omega))⟩⟩
end
end Go.Proofs.YtjfnoondkgjabaaDoor
