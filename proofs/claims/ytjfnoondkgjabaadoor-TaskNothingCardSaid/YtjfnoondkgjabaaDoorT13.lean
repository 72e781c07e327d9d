/-
  The stack: a local is set.
-/
import Derived.Test.YtjfnoondkgjabaaDoorT12
import Derived.Deep.RegionHeld3
import Derived.BigQuiet
set_option linter.unusedVariables false
namespace Go.Proofs.YtjfnoondkgjabaaDoor
open Go.RowKit Go.BigFrame

section
variable (k sb g : Nat) (f : Nat → Int) (N fr ba lo tp at' sz : Nat) (w : World)
theorem Kv.drew {w : World} {k sb g : Nat} {f : Nat → Int} {N fr ba lo tp at' sz : Nat} (h : Kv w k sb g f N fr ba lo tp at' sz) : Kv w.drew k sb g f N fr ba lo tp at' sz := h.still ((Touch.refl [] w).drew)
set_option maxHeartbeats 8000000 in
theorem set_no (i x : Int) (h : Kv w k sb g f N fr ba lo tp at' sz) (h1 : fr = 0 ∨ i < 0 ∨ (lo : Int) ≤ i) :
    Calls Tryd.prog 44 #[.pointer (some ⟨k, 0, none⟩), .int .i64 i, .int .i64 x] w fun e w' => e = .returned (.bool false) ∧ Touch [] w w' := by
  have HK := Lib.hid h
  have HC := Lib.hid (fun w' h' => has_no k sb g f N fr ba lo tp at' sz w' i h' h1)
  clear h h1
  go_enter Tryd.func44, Tryd.ntmps44
  go_wp2_with fail
  refine wp_region_later (by kernel_rfl) (by kernel_rfl) ?_
  repeat (first
    | (go_big_quiet_step ((first | (with_reducible rfl) | exact Later.same (HC.out _ (HK.out.still (Later.ok _))))))
    | (quiet_step (fail)))
  refine wpQuiet_nil ?_
  intro wq hw'
  obtain ⟨⟨wq', hwq⟩, hwe⟩ := hw'
  have hwe : wq = wq' := hwe
  subst hwe
  have HT := Lib.hid hwq
  clear hwe hwq
  go_wp2
  go_ret
  exact ⟨rfl, HT.out⟩
set_option maxHeartbeats 8000000 in
theorem set_yes (i : Nat) (x : Int) (h : Kv w k sb g f N fr ba lo tp at' sz) (hfr : 0 < fr) (h1 : i < lo) (h2 : at' + ba + i < N) :
    Calls Tryd.prog 44 #[.pointer (some ⟨k, 0, none⟩), .int .i64 i, .int .i64 x] w (KvP k sb g (upd f (at' + ba + i) x) N fr ba lo tp at' sz (.bool true) w) := by
  have HK := Lib.hid h
  have HC := Lib.hid (fun w' h' => has_yes k sb g f N ba lo tp at' sz w' fr i h' hfr h1)
  have hb := h.big
  have y1 := h.obj.cell (i := 1) rfl
  have y4 := h.obj.cell (i := 4) rfl
  have y5 := h.obj.cell (i := 5) rfl
  have v1 : IntKind.i64.wrap ((at' : Int) + (ba : Int)) = (at' : Int) + (ba : Int) := IntWalk.i64_in _ (by omega)
  have v2 : IntKind.i64.wrap ((at' : Int) + (ba : Int) + (i : Int)) = ((at' + ba + i : Nat) : Int) := by rw [show (at' : Int) + (ba : Int) + (i : Int) = ((at' + ba + i : Nat) : Int) from by omega]; exact IntWalk.i64_in _ (by omega)
  obtain ⟨a, ha⟩ : ∃ a, at' + ba + i = a := ⟨_, rfl⟩
  rw [ha] at v2 h2 ⊢
  clear h ha
  go_enter Tryd.func44, Tryd.ntmps44
  go_wp2_with fail
  go_region_held3 (fun (w' : World) => w'.cell? ⟨k, 1, none⟩ = some (.int .i64 ba) ∧ w'.cell? ⟨k, 4, none⟩ = some (.pointer (some ⟨sb, 0, none⟩)) ∧ w'.cell? ⟨k, 5, none⟩ = some (.int .i64 at')) (first | exact ⟨y1, y4, y5⟩ | exact ⟨z1, z4, z5⟩)
    (first | (go_at_call 48; refine (HC.out _ (by first | exact HK.out | exact HK.out.drew)).mono ?_; rintro e w5 ⟨rfl, rfl⟩)
           | (go_at_call 38; refine (sput_yes sb g N f _ (by first | exact HK.out.st | exact HK.out.drew.st) hb a x h2).mono ?_; rintro e w6 ⟨rfl, hst, ht⟩; have HO := Lib.hid (HK.out.obj.touch (((Touch.refl [g] w).drew).trans ht) (by simpa using HK.out.n2)); have z1 := HO.out.cell (i := 1) rfl; have z4 := HO.out.cell (i := 4) rfl; have z5 := HO.out.cell (i := 5) rfl))
  have HK6 : Hid (Kv w6 k sb g (upd f a x) N fr ba lo tp at' sz) := Lib.hid ⟨HK.out.obj.touch (((Touch.refl [g] w).drew).trans ht) (by simpa using HK.out.n2), hst, HK.out.n1, HK.out.n2, HK.out.fit, HK.out.big, HK.out.tps⟩
  have HT := Lib.hid (((Touch.refl [k, g] w).drew).trans (ht.mono (S' := [k, g]) (by simp)))
  clear hst ht
  go_wp2
  go_ret
  exact ⟨rfl, HK6.out, HT.out⟩
end
end Go.Proofs.YtjfnoondkgjabaaDoor
