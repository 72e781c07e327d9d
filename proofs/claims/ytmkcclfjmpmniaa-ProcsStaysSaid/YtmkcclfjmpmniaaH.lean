/-
  The process table: the small example of the laws.
-/
import Derived.Test.YtmkcclfjmpmniaaG
import Derived.Test.YtmkcclfjmpmniaaI
set_option linter.unusedVariables false
namespace Go.Proofs.Ytmkcclfjmpmniaa
open Go.RowKit Go.BigFrame

theorem Pt.still {w w' : World} {b : Nat} {F : List Nat} {most : Int} {n : Nat} {ps : Nat → Nat → Int} {live : List Int} (h : Pt w b F most n ps live) (ht : Touch [] w w') : Pt w' b F most n ps live := by
  obtain ⟨va, vl, h, e⟩ := h
  exact ⟨va, vl, h.still ht, e⟩
theorem Pt.lt {w : World} {b : Nat} {F : List Nat} {most : Int} {n : Nat} {ps : Nat → Nat → Int} {live : List Int} (h : Pt w b F most n ps live) : ∀ k, k ∈ F → k < w.heap.size := by
  obtain ⟨va, vl, h, rfl⟩ := h
  exact h.lt
theorem sl_one (w : World) (x : Int) (c : Nat) : Sl (w.alloc (.cells #[.int .i64 x] 3)) (.slice (some ⟨w.heap.size, 0, none⟩) 1 c) [x] :=
  ⟨_, c, rfl, .inr ⟨w.heap.size, 0, rfl, by simp, row1 w x _ _ rfl⟩⟩
theorem ints_eq (v v' : Value) (xs : List Int) (w : World) (h : Sl w v xs) (h' : Sl w v' xs) (h1 : xs.length ≤ 1000000) :
    Calls Try.prog 29 #[v, v'] w fun e w' => e = .returned (.bool true) ∧ Touch [] w w' :=
  (ints_any v v' xs xs w h h' h1 h1).mono fun _ _ ⟨he, m, hm⟩ => ⟨by rw [he, eqI_refl], hm ▸ (Touch.refl _ _).drewN m⟩

section
variable (b : Nat) (F : List Nat) (most : Int) (n : Nat) (ps : Nat → Nat → Int) (live : List Int) (w : World)
set_option maxHeartbeats 1000000 in
theorem state_q (p x : Int) (h : Pt w b F most n ps live) (hn : n ≤ 9000000) (hx : fieldOf ps n p 0 = x) : Calls Try.prog 21 #[.pointer (some ⟨b, 0, none⟩), .int .i64 p] w fun e w' => e = .returned (.int .i64 x) ∧ w = w' := by
  obtain ⟨va, vl, h, rfl⟩ := h
  exact hx ▸ state_any b va vl most n ps live w p h hn
set_option maxHeartbeats 1000000 in
theorem parent_q (p x : Int) (h : Pt w b F most n ps live) (hn : n ≤ 9000000) (hx : fieldOf ps n p 1 = x) : Calls Try.prog 26 #[.pointer (some ⟨b, 0, none⟩), .int .i64 p] w fun e w' => e = .returned (.int .i64 x) ∧ w = w' := by
  obtain ⟨va, vl, h, rfl⟩ := h
  exact hx ▸ parent_any b va vl most n ps live w p h hn
set_option maxHeartbeats 1000000 in
theorem code_q (p x : Int) (h : Pt w b F most n ps live) (hn : n ≤ 9000000) (hx : fieldOf ps n p 4 = x) : Calls Try.prog 22 #[.pointer (some ⟨b, 0, none⟩), .int .i64 p] w fun e w' => e = .returned (.int .i64 x) ∧ w = w' := by
  obtain ⟨va, vl, h, rfl⟩ := h
  exact hx ▸ code_any b va vl most n ps live w p h hn
set_option maxHeartbeats 1000000 in
theorem why_q (p x y : Int) (h : Pt w b F most n ps live) (hn : n ≤ 9000000) (hx : fieldOf ps n p 2 = x) (hy : fieldOf ps n p 3 = y) : Calls Try.prog 23 #[.pointer (some ⟨b, 0, none⟩), .int .i64 p] w fun e w' => e = .returned (.agg #[.int .i64 x, .int .i64 y]) ∧ Touch [] w w' := by
  obtain ⟨va, vl, h, rfl⟩ := h
  exact hx ▸ hy ▸ why_any b va vl most n ps live w p h hn
set_option maxHeartbeats 1000000 in
theorem live_q (x : Int) (h : Pt w b F most n ps live) (hx : (live.length : Int) = x) : Calls Try.prog 19 #[.pointer (some ⟨b, 0, none⟩)] w fun e w' => e = .returned (.int .i64 x) ∧ w = w' := by
  obtain ⟨va, vl, h, rfl⟩ := h
  exact hx ▸ live_any b va vl most n ps live w h
set_option maxHeartbeats 1000000 in
theorem count_q  (h : Pt w b F most n ps live)  : Calls Try.prog 28 #[.pointer (some ⟨b, 0, none⟩)] w fun e w' => e = .returned (.int .i64 n) ∧ w = w' := by
  obtain ⟨va, vl, h, rfl⟩ := h
  exact count_any b va vl most n ps live w h
set_option maxHeartbeats 1000000 in
theorem kids_q (p x : Int) (h : Pt w b F most n ps live) (hn : n ≤ 9000000) (hl : live.length ≤ 100000) (hp : 1 ≤ p) (hx : ((those ps n 1 p live).length : Int) = x) : Calls Try.prog 27 #[.pointer (some ⟨b, 0, none⟩), .int .i64 p] w fun e w' => e = .returned (.int .i64 x) ∧ w = w' :=
  hx ▸ kids_any b F most n ps live w p h hn hl hp
theorem ready_q (xs : List Int) (h : Pt w b F most n ps live) (hn : n ≤ 9000000) (hl : live.length ≤ 100000) (hx : those ps n 0 1 live = xs) : Calls Try.prog 20 #[.pointer (some ⟨b, 0, none⟩)] w (Own xs w) := by
  obtain ⟨va, vl, h, rfl⟩ := h
  exact hx ▸ ready_any b va vl most n ps live w h hn hl
theorem blocked_q (xs : List Int) (h : Pt w b F most n ps live) (hn : n ≤ 9000000) (hl : live.length ≤ 100000) (hx : those ps n 0 2 live = xs) : Calls Try.prog 25 #[.pointer (some ⟨b, 0, none⟩)] w (Own xs w) := by
  obtain ⟨va, vl, h, rfl⟩ := h
  exact hx ▸ blocked_any b va vl most n ps live w h hn hl
end

def Z0 : Nat → Nat → Int := fun _ _ => 0
def Z1 : Nat → Nat → Int := addP Z0 0 (newF 0)
def Z2 : Nat → Nat → Int := addP Z1 1 (newF 1)
def Z3 : Nat → Nat → Int := blockP Z2 0 5 0
def Z4 : Nat → Nat → Int := endP Z3 1 31
def Z5 : Nat → Nat → Int := wakeP Z4 0
set_option maxHeartbeats 8000000 in
set_option maxRecDepth 100000 in
theorem fld (x y : Int) (w : World) : Sem.run Try.prog (Instr.field 36 (.agg #[.int .i64 x, .int .i64 y]) 0) w = .ok (.int .i64 x) w := by
  first | rfl | (with_unfolding_all rfl) | (simp [Instr.field, go_sem])
set_option maxHeartbeats 8000000 in
set_option maxRecDepth 100000 in
theorem awake_any (w : World) : Calls Try.prog 7 #[] w fun e w' => e = .returned (.bool true) ∧ Touch [] w w' := by
  have hfi := fld 5 0
  go_enter Try.func7, Try.ntmps7
  go_wp2_with fail
  refine (new_ok 2 _ (by omega) (by omega)).mono ?_
  rintro e w1 ⟨b, rfl, h1, hb, ht⟩
  have HS := Lib.hid h1
  have HA : Hid (Apt w [b] [] _) := Lib.hid (Apt.none (fun k hk => by simp at hk; omega) h1.lt ht)
  clear h1 hb ht
  go_wp2_with fail
  refine (new_bad 0 _ (.inl (by omega))).mono ?_
  rintro e w2 ⟨rfl, rfl⟩
  go_wp2_with fail
  refine (spawn_ok b _ 2 0 Z0 [] _ 0 HS.out (by omega) (by simp) (.inl rfl) (by simp)).mono ?_
  rintro e w3 ⟨F3, rfl, h1, h2⟩
  have h1 : Pt _ b F3 2 1 Z1 [1] := h1
  have HS := Lib.hid h1
  have HA := Lib.hid (HA.out.one h2)
  clear h1 h2
  go_wp2_with fail
  refine (spawn_ok b _ 2 1 Z1 [1] _ 1 HS.out (by omega) (by simp) (.inr (by decide)) (by simp)).mono ?_
  rintro e w4 ⟨F4, rfl, h1, h2⟩
  have h1 : Pt _ b F4 2 2 Z2 [1, 2] := h1
  have HS := Lib.hid h1
  have HA := Lib.hid (HA.out.one h2)
  clear h1 h2
  go_wp2_with fail
  refine (spawn_full b _ 2 2 Z2 [1, 2] _ 1 HS.out (by omega) (.inr (by decide)) (by simp)).mono ?_
  rintro e w5 ⟨rfl, ht⟩
  have HS := Lib.hid (HS.out.still ht)
  have HA := Lib.hid (HA.out.touch ht)
  clear ht
  go_wp2_with fail
  refine (spawn_none b _ 2 2 Z2 [1, 2] _ 9 HS.out (by omega) (by omega) (by decide)).mono ?_
  rintro e w6 ⟨rfl, rfl⟩
  go_wp2_with fail
  refine (block_yes b _ 2 2 Z2 [1, 2] _ 0 5 0 HS.out (by omega) (by omega) (by decide) (by omega) (by omega)).mono ?_
  rintro e w7 ⟨F7, rfl, h1, h2⟩
  have h1 : Pt _ b F7 2 2 Z3 [1, 2] := h1
  have HS := Lib.hid h1
  have HA := Lib.hid (HA.out.one h2)
  clear h1 h2
  go_wp2_with fail
  refine (block_no b _ 2 2 Z3 [1, 2] _ 1 5 0 HS.out (by omega) (.inl (by decide))).mono ?_
  rintro e w8 ⟨rfl, ht⟩
  have HS := Lib.hid (HS.out.still ht)
  have HA := Lib.hid (HA.out.touch ht)
  clear ht
  go_wp2_with fail
  refine (kids_q b _ 2 2 Z3 [1, 2] _ 1 1 HS.out (by omega) (by simp) (by omega) (by decide)).mono ?_
  rintro e w9 ⟨rfl, rfl⟩
  go_wp2_with fail
  refine (state_q b _ 2 2 Z3 [1, 2] _ 1 2 HS.out (by omega) (by decide)).mono ?_
  rintro e w10 ⟨rfl, rfl⟩
  go_wp2_with fail
  refine (why_q b _ 2 2 Z3 [1, 2] _ 1 5 0 HS.out (by omega) (by decide) (by decide)).mono ?_
  rintro e w11 ⟨rfl, ht⟩
  have HS := Lib.hid (HS.out.still ht)
  have HA := Lib.hid (HA.out.touch ht)
  clear ht
  go_wp2_with fail
  refine (parent_q b _ 2 2 Z3 [1, 2] _ 2 1 HS.out (by omega) (by decide)).mono ?_
  rintro e w12 ⟨rfl, rfl⟩
  go_wp2_with fail
  refine (end_yes b _ 2 2 Z3 [1, 2] _ 1 1 31 HS.out (by omega) (by omega) (by decide) (by simp) (by simp) (by decide) (by decide)).mono ?_
  rintro e w13 ⟨F13, rfl, h1, h2⟩
  have h1 : Pt _ b F13 2 2 Z4 [1] := h1
  have HS := Lib.hid h1
  have HA := Lib.hid (HA.out.one h2)
  clear h1 h2
  go_wp2_with fail
  refine (code_q b _ 2 2 Z4 [1] _ 2 31 HS.out (by omega) (by decide)).mono ?_
  rintro e w14 ⟨rfl, rfl⟩
  go_wp2_with fail
  refine (live_q b _ 2 2 Z4 [1] _ 1 HS.out (by simp)).mono ?_
  rintro e w15 ⟨rfl, rfl⟩
  go_wp2_with fail
  refine (count_q b _ 2 2 Z4 [1] _ HS.out).mono ?_
  rintro e w16 ⟨rfl, rfl⟩
  go_wp2_with fail
  refine (blocked_q b _ 2 2 Z4 [1] _ [1] HS.out (by omega) (by simp) (by decide)).mono ?_
  rintro e w17 ⟨v, rfl, hv, ht⟩
  have HV := Lib.hid (hv.sl.alloc (.cells #[.int .i64 1] 3))
  obtain ⟨va, vc, rfl⟩ := Qu.form hv
  have HO := Lib.hid (sl_one w17 1 1)
  clear hv
  have HS := Lib.hid (HS.out.still ht)
  have HA := Lib.hid (HA.out.touch ht)
  clear ht
  have HS := Lib.hid (HS.out.still ((Touch.refl [] _).alloc (.cells #[.int .i64 1] 3)))
  have HA := Lib.hid (HA.out.touch ((Touch.refl [] _).alloc (.cells #[.int .i64 1] 3)))
  go_wp2_with fail
  refine (ints_eq _ _ [1] _ HV.out HO.out (by simp)).mono ?_
  rintro e w18 ⟨rfl, ht⟩
  have HS := Lib.hid (HS.out.still ht)
  have HA := Lib.hid (HA.out.touch ht)
  clear ht
  go_wp2_with fail
  refine (ready_q b _ 2 2 Z4 [1] _ [] HS.out (by omega) (by simp) (by decide)).mono ?_
  rintro e w19 ⟨v, rfl, hv, ht⟩
  obtain ⟨va, vc, hv2⟩ := Qu.form (xs := []) hv
  have hv2 : v = .slice va 0 vc := hv2
  subst hv2
  clear hv
  have HS := Lib.hid (HS.out.still ht)
  have HA := Lib.hid (HA.out.touch ht)
  clear ht
  go_wp2_with fail
  refine (wake_yes b _ 2 2 Z4 [1] _ 0 HS.out (by omega) (by omega) (by decide)).mono ?_
  rintro e w20 ⟨F20, rfl, h1, h2⟩
  have h1 : Pt _ b F20 2 2 Z5 [1] := h1
  have HS := Lib.hid h1
  have HA := Lib.hid (HA.out.one h2)
  clear h1 h2
  go_wp2_with fail
  refine (wake_no b _ 2 2 Z5 [1] _ 1 HS.out (by omega) (by decide)).mono ?_
  rintro e w21 ⟨rfl, rfl⟩
  go_wp2
  go_ret
  exact ⟨rfl, HA.out.t⟩
end Go.Proofs.Ytmkcclfjmpmniaa
