/-
  What arith does, as an instruction.
-/
import Derived.Test.YtjfnoondkgjabaaDoorGB
import Derived.Test.YtjfnoondkgjabaaDoorAXD
import Derived.Test.YtjfnoondkgjabaaDoorIB
set_option linter.unusedVariables false
namespace Go.Proofs.YtjfnoondkgjabaaDoor
open Go.RowKit Go.BigFrame

theorem popM_in {F : Frm} {r : List Frm} {x c : Int} {S : List Frm} (h : popM (F :: r) = (x, c, S)) : (popM (F :: r)).1 = x ∧ (popM (F :: r)).2.1 = c ∧ (popM (F :: r)).2.2 = S := by rw [h]; exact ⟨rfl, rfl, rfl⟩
theorem rowT {k g W : Nat} {a b c : World} (h1 : Touch [k, g] a b) (h2 : Touch [k, g] b c) : Touch [k, g] a c := h1.trans h2
section
variable {b k G W sb g N n sz : Nat} {at' op a bb nx : Int} {p : PV} {v : Nat → Int} {F F1 F2 : Frm} {r S S' : List Frm} {w : World}
def CmP (k sb g N n sz : Nat) (v : Nat → Int) (c : Int) (S : List Frm) (w : World) (e : Ending) (w' : World) : Prop := e = .returned (.int .i64 c) ∧ Hid (Ps w' k sb g N n sz v S ∧ Touch [k, g] w w')
theorem CmP.row {c : Int} {wk : Array Value} {e : Ending} {w' : World} (hw : Blk w W wk 50) (hk : W ≠ k) (hg : W ≠ g) (h : CmP k sb g N n sz v c S w e w') : RowP W k sb g N n sz c wk v S w e w' :=
  ⟨h.1, Lib.hid ⟨h.2.out.1, hw.touch h.2.out.2 (by simp; exact ⟨hk, hg⟩), h.2.out.2.mono (by intro i hi; simp at hi ⊢; omega)⟩⟩
set_option maxHeartbeats 8000000 in
theorem compute2 {x y z d c : Int} (hv : Vs w) (hp : popZ op = 2) (h1 : popM (F :: r) = (y, 0, F1 :: r)) (h2 : popM (F1 :: r) = (x, 0, F2 :: r)) (ix : InI x) (iy : InI y) (hz : doV op x y = z) (hd : doC op x y = d)
    (hc : d = 0 → (pushM sz z (F2 :: r)).1 = c) (hS : d = 0 → (pushM sz z (F2 :: r)).2 = S') (hd0 : d ≠ 0 → c = d ∧ S' = F2 :: r)
    (ht : Tk w b k G at') (hw : Blk w W (wkA op a bb p sb nx) 50) (hs : Ps w k sb g N n sz v (F :: r)) (hk : W ≠ k) (hg : W ≠ g) (bk : b ≠ k) (bg : b ≠ g) :
    Calls Tryd.prog 30 #[.pointer (some ⟨b, 0, none⟩), .pointer (some ⟨W, 0, none⟩)] w (CmP k sb g N n sz v c S' w) := by
  obtain ⟨p1, p2, p3⟩ := popM_in h1
  obtain ⟨q1, q2, q3⟩ := popM_in h2
  have HS := Lib.hid hs
  have HP1 : Hid (∀ w', Ps w' k sb g N n sz v (F :: r) → Calls Tryd.prog 41 #[.pointer (some ⟨k, 0, none⟩)] w' (PsP k sb g N n sz v (F1 :: r) (.tuple #[.int .i64 y, .int .i64 0]) w')) := Lib.hid (fun w' t => p_pop p1 p2 p3 t)
  have HP2 : Hid (∀ w', Ps w' k sb g N n sz v (F1 :: r) → Calls Tryd.prog 41 #[.pointer (some ⟨k, 0, none⟩)] w' (PsP k sb g N n sz v (F2 :: r) (.tuple #[.int .i64 x, .int .i64 0]) w')) := Lib.hid (fun w' t => p_pop q1 q2 q3 t)
  have HPO := Lib.hid (pops_any op w hv)
  have HPZ := Lib.hid hp
  have HDO : Hid (∀ w', Calls Tryd.prog 47 #[.int .i64 op, .int .i64 x, .int .i64 y] w' (Pair z d w')) := Lib.hid (fun w' => by rw [← hz, ← hd]; exact do_any op x y ix iy w')
  have HX : Hid (∀ w', Touch [k, g] w w' → w'.cell? ⟨b, 0, none⟩ = some (.pointer (some ⟨k, 0, none⟩)) ∧ w'.cell? ⟨W, 0, none⟩ = some (.int .i64 op)) := Lib.hid (fun w' t => ⟨(ht.obj.touch t (by simp; exact ⟨bk, bg⟩)).cell (i := 0) rfl, (hw.touch t (by simp; exact ⟨hk, hg⟩)).cell (i := 0) rfl⟩)
  have HPU : Hid (∀ w', d = 0 → Ps w' k sb g N n sz v (F2 :: r) → Calls Tryd.prog 20 #[.pointer (some ⟨k, 0, none⟩), .int .i64 z] w' (PsP k sb g N n sz v S' (.int .i64 c) w')) := Lib.hid (fun w' e t => p_push z (hc e) (hS e) t)
  have HD0 := Lib.hid hd0
  obtain ⟨x0, y0⟩ := HX.out w (Touch.refl _ _)
  clear p1 p2 p3 q1 q2 q3 h1 h2 hp hv hz hd hc hS hd0 hs ht hw ix iy
  go_enter Tryd.func30, Tryd.ntmps30
  go_wp2_with fail
  refine HPO.out.mono ?_
  rintro e w1 ⟨rfl, rfl⟩
  rw [HPZ.out]
  go_wp2_with fail
  refine (HP1.out _ HS.out).mono ?_
  rintro e w1 ⟨rfl, hp1, ht1⟩
  have HS1 := Lib.hid hp1
  have HT1 := Lib.hid ht1
  clear hp1 ht1 x0 y0
  obtain ⟨x0, y0⟩ := HX.out w1 HT1.out
  go_wp2_with fail
  refine (HP2.out _ HS1.out).mono ?_
  rintro e w2 ⟨rfl, hp1, ht1⟩
  have HS2 := Lib.hid hp1
  have HT2 := Lib.hid (HT1.out.trans ht1)
  clear hp1 ht1 x0 y0
  obtain ⟨x0, y0⟩ := HX.out w2 HT2.out
  go_wp2_with fail
  refine (HDO.out _).mono ?_
  rintro e w3 ⟨rfl, rfl⟩
  by_cases h0 : d = 0
  · subst h0
    go_wp2_with fail
    refine (HPU.out _ (by trivial) HS2.out).mono ?_
    rintro e w3 ⟨rfl, hp1, ht1⟩
    have HS3 := Lib.hid hp1
    have HT3 := Lib.hid (HT2.out.trans ht1)
    clear hp1 ht1 x0 y0
    go_wp2_with fail
    go_ret
    exact ⟨rfl, Lib.hid ⟨HS3.out, HT3.out⟩⟩
  · obtain ⟨rfl, rfl⟩ := HD0.out h0
    have k0 : (c != 0) = true := bneT h0
    have k1 : ¬ c = 0 := h0
    go_wp2_with fail
    go_ret
    exact ⟨rfl, Lib.hid ⟨HS2.out, HT2.out⟩⟩
set_option maxHeartbeats 8000000 in
theorem compute1 {x z d c : Int} (hv : Vs w) (hp : popZ op = 1) (h1 : popM (F :: r) = (x, 0, F1 :: r)) (ix : InI x) (hz : doV op x 0 = z) (hd : doC op x 0 = d)
    (hc : d = 0 → (pushM sz z (F1 :: r)).1 = c) (hS : d = 0 → (pushM sz z (F1 :: r)).2 = S') (hd0 : d ≠ 0 → c = d ∧ S' = F1 :: r)
    (ht : Tk w b k G at') (hw : Blk w W (wkA op a bb p sb nx) 50) (hs : Ps w k sb g N n sz v (F :: r)) (hk : W ≠ k) (hg : W ≠ g) (bk : b ≠ k) (bg : b ≠ g) :
    Calls Tryd.prog 30 #[.pointer (some ⟨b, 0, none⟩), .pointer (some ⟨W, 0, none⟩)] w (CmP k sb g N n sz v c S' w) := by
  obtain ⟨p1, p2, p3⟩ := popM_in h1
  have HS := Lib.hid hs
  have HP1 : Hid (∀ w', Ps w' k sb g N n sz v (F :: r) → Calls Tryd.prog 41 #[.pointer (some ⟨k, 0, none⟩)] w' (PsP k sb g N n sz v (F1 :: r) (.tuple #[.int .i64 x, .int .i64 0]) w')) := Lib.hid (fun w' t => p_pop p1 p2 p3 t)
  have HPO := Lib.hid (pops_any op w hv)
  have HPZ := Lib.hid hp
  have HDO : Hid (∀ w', Calls Tryd.prog 47 #[.int .i64 op, .int .i64 x, .int .i64 0] w' (Pair z d w')) := Lib.hid (fun w' => by rw [← hz, ← hd]; exact do_any op x 0 ix (by unfold InI; omega) w')
  have HX : Hid (∀ w', Touch [k, g] w w' → w'.cell? ⟨b, 0, none⟩ = some (.pointer (some ⟨k, 0, none⟩)) ∧ w'.cell? ⟨W, 0, none⟩ = some (.int .i64 op)) := Lib.hid (fun w' t => ⟨(ht.obj.touch t (by simp; exact ⟨bk, bg⟩)).cell (i := 0) rfl, (hw.touch t (by simp; exact ⟨hk, hg⟩)).cell (i := 0) rfl⟩)
  have HPU : Hid (∀ w', d = 0 → Ps w' k sb g N n sz v (F1 :: r) → Calls Tryd.prog 20 #[.pointer (some ⟨k, 0, none⟩), .int .i64 z] w' (PsP k sb g N n sz v S' (.int .i64 c) w')) := Lib.hid (fun w' e t => p_push z (hc e) (hS e) t)
  have HD0 := Lib.hid hd0
  obtain ⟨x0, y0⟩ := HX.out w (Touch.refl _ _)
  clear p1 p2 p3 h1 hp hv hz hd hc hS hd0 hs ht hw ix
  go_enter Tryd.func30, Tryd.ntmps30
  go_wp2_with fail
  refine HPO.out.mono ?_
  rintro e w1 ⟨rfl, rfl⟩
  rw [HPZ.out]
  go_wp2_with fail
  refine (HP1.out _ HS.out).mono ?_
  rintro e w2 ⟨rfl, hp1, ht1⟩
  have HS2 := Lib.hid hp1
  have HT2 := Lib.hid ht1
  clear hp1 ht1 x0 y0
  obtain ⟨x0, y0⟩ := HX.out w2 HT2.out
  go_wp2_with fail
  refine (HDO.out _).mono ?_
  rintro e w3 ⟨rfl, rfl⟩
  by_cases h0 : d = 0
  · subst h0
    go_wp2_with fail
    refine (HPU.out _ (by trivial) HS2.out).mono ?_
    rintro e w3 ⟨rfl, hp1, ht1⟩
    have HS3 := Lib.hid hp1
    have HT3 := Lib.hid (HT2.out.trans ht1)
    clear hp1 ht1 x0 y0
    go_wp2_with fail
    go_ret
    exact ⟨rfl, Lib.hid ⟨HS3.out, HT3.out⟩⟩
  · obtain ⟨rfl, rfl⟩ := HD0.out h0
    have k0 : (c != 0) = true := bneT h0
    have k1 : ¬ c = 0 := h0
    go_wp2_with fail
    go_ret
    exact ⟨rfl, Lib.hid ⟨HS2.out, HT2.out⟩⟩
end
end Go.Proofs.YtjfnoondkgjabaaDoor
