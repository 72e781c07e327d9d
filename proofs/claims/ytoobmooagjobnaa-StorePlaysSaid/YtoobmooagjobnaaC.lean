/-
  Words: the calls at whatever number, by plain functions.
-/
import Derived.Test.YtoobmooagjobnaaB
set_option linter.unusedVariables false
namespace Go.Proofs.Ytoobmooagjobnaa
open Go.RowKit

def inB (n : Nat) (k : Int) : Bool := decide (0 ≤ k ∧ k < n)
def getV (f : Nat → Int) (n : Nat) (k : Int) : Int := if inB n k = true then f k.toNat else 0
def putF (f : Nat → Int) (n : Nat) (k x : Int) : Nat → Int := if inB n k = true then upd f k.toNat x else f
def clrB (n : Nat) (k m : Int) : Bool := decide (0 ≤ k ∧ 0 ≤ m ∧ k + m ≤ n)
def clrF (f : Nat → Int) (n : Nat) (k m : Int) : Nat → Int := if clrB n k m = true then clr f k.toNat m.toNat else f

theorem sget (b g n : Nat) (f : Nat → Int) (w : World) (hs : St w b g f n 46) (hn : n ≤ 8192) (k : Int) :
    Calls Try.prog 10 #[.pointer (some ⟨b, 0, none⟩), .int .i64 k] w fun e w' => e = .returned (.tuple #[.int .i64 (getV f n k), .bool (inB n k)]) ∧ w = w' := by
  unfold getV
  by_cases h : 0 ≤ k ∧ k < n
  · rw [show inB n k = true from dT h, if_pos rfl]
    obtain ⟨q, rfl⟩ : ∃ q : Nat, k = q := ⟨k.toNat, by omega⟩
    exact sget_yes b g n f w hs hn q (by omega)
  · rw [show inB n k = false from dF h, if_neg (by simp)]
    exact sget_no b g n f w hs hn k (by omega)
theorem sput (b g n : Nat) (f : Nat → Int) (w : World) (hs : St w b g f n 46) (hn : n ≤ 8192) (k x : Int) :
    Calls Try.prog 12 #[.pointer (some ⟨b, 0, none⟩), .int .i64 k, .int .i64 x] w fun e w' => e = .returned (.bool (inB n k)) ∧ St w' b g (putF f n k x) n 46 ∧ Touch [g] w w' := by
  unfold putF
  by_cases h : 0 ≤ k ∧ k < n
  · rw [show inB n k = true from dT h, if_pos rfl]
    obtain ⟨q, rfl⟩ : ∃ q : Nat, k = q := ⟨k.toNat, by omega⟩
    exact sput_yes b g n f w hs hn q x (by omega)
  · rw [show inB n k = false from dF h, if_neg (by simp)]
    exact (sput_no b g n f w hs hn k x (by omega)).mono (by rintro e w' ⟨he, rfl⟩; exact ⟨he, hs, Touch.refl _ _⟩)

theorem rget (b g n : Nat) (f : Nat → Int) (w : World) (hs : St w b g f n 39) (hn : n ≤ 8192) (k : Int) :
    Calls Try.prog 11 #[.pointer (some ⟨b, 0, none⟩), .int .i64 k] w fun e w' => e = .returned (.tuple #[.int .i64 (getV f n k), .bool (inB n k)]) ∧ w = w' := by
  unfold getV
  by_cases h : 0 ≤ k ∧ k < n
  · rw [show inB n k = true from dT h, if_pos rfl]
    obtain ⟨q, rfl⟩ : ∃ q : Nat, k = q := ⟨k.toNat, by omega⟩
    exact rget_yes b g n f w hs hn q (by omega)
  · rw [show inB n k = false from dF h, if_neg (by simp)]
    exact rget_no b g n f w hs hn k (by omega)
theorem rput (b g n : Nat) (f : Nat → Int) (w : World) (hs : St w b g f n 39) (hn : n ≤ 8192) (k x : Int) :
    Calls Try.prog 13 #[.pointer (some ⟨b, 0, none⟩), .int .i64 k, .int .i64 x] w fun e w' => e = .returned (.bool (inB n k)) ∧ St w' b g (putF f n k x) n 39 ∧ Touch [g] w w' := by
  unfold putF
  by_cases h : 0 ≤ k ∧ k < n
  · rw [show inB n k = true from dT h, if_pos rfl]
    obtain ⟨q, rfl⟩ : ∃ q : Nat, k = q := ⟨k.toNat, by omega⟩
    exact rput_yes b g n f w hs hn q x (by omega)
  · rw [show inB n k = false from dF h, if_neg (by simp)]
    exact (rput_no b g n f w hs hn k x (by omega)).mono (by rintro e w' ⟨he, rfl⟩; exact ⟨he, hs, Touch.refl _ _⟩)

theorem sclear (b g n : Nat) (f : Nat → Int) (w : World) (hs : St w b g f n 46) (hn : n ≤ 8192) (k m : Int) (hk : InI k) (hm : InI m) :
    Calls Try.prog 14 #[.pointer (some ⟨b, 0, none⟩), .int .i64 k, .int .i64 m] w fun e w' => e = .returned (.bool (clrB n k m)) ∧ St w' b g (clrF f n k m) n 46 ∧ Touch [g] w w' := by
  unfold clrF
  by_cases h : 0 ≤ k ∧ 0 ≤ m ∧ k + m ≤ n
  · rw [show clrB n k m = true from dT h, if_pos rfl]
    obtain ⟨q, rfl⟩ : ∃ q : Nat, k = q := ⟨k.toNat, by omega⟩
    obtain ⟨p, rfl⟩ : ∃ p : Nat, m = p := ⟨m.toNat, by omega⟩
    exact sclear_yes b g n f w hs hn q p (by omega)
  · rw [show clrB n k m = false from dF h, if_neg (by simp)]
    exact (sclear_no b g n f w hs hn k m hk hm (by omega)).mono (by rintro e w' ⟨he, rfl⟩; exact ⟨he, hs, Touch.refl _ _⟩)

/-! Of no store. -/
theorem snil_get (k : Int) (w : World) : Calls Try.prog 10 #[.pointer none, .int .i64 k] w fun e w' => e = .returned (.tuple #[.int .i64 0, .bool false]) ∧ w = w' := by
  by_cases h : k < 0
  · go_enter Try.func10, Try.ntmps10
    go_wp2
    go_ret2
    exact ⟨rfl, rfl⟩
  · go_enter Try.func10, Try.ntmps10
    go_wp2_with fail
    refine (slen_nil _).mono ?_
    rintro e w' ⟨rfl, rfl⟩
    go_wp2
    go_ret2
    exact ⟨rfl, rfl⟩
theorem snil_put (k x : Int) (w : World) : Calls Try.prog 12 #[.pointer none, .int .i64 k, .int .i64 x] w fun e w' => e = .returned (.bool false) ∧ w = w' := by
  by_cases h : k < 0
  · go_enter Try.func12, Try.ntmps12
    go_wp2
    go_ret
    exact ⟨rfl, rfl⟩
  · go_enter Try.func12, Try.ntmps12
    go_wp2_with fail
    refine (slen_nil _).mono ?_
    rintro e w' ⟨rfl, rfl⟩
    go_wp2
    go_ret
    exact ⟨rfl, rfl⟩
theorem snil_clear (k x : Int) (w : World) : Calls Try.prog 14 #[.pointer none, .int .i64 k, .int .i64 x] w fun e w' => e = .returned (.bool false) ∧ w = w' := by
  go_enter Try.func14, Try.ntmps14
  go_wp2
  go_ret
  exact ⟨rfl, rfl⟩
theorem snil_words (w : World) : Calls Try.prog 18 #[.pointer none] w fun e w' => e = .returned (.slice none 0 0) ∧ w = w' := by
  go_enter Try.func18, Try.ntmps18
  go_wp2
  go_ret
  exact ⟨rfl, rfl⟩

set_option maxHeartbeats 2000000 in
theorem awake_any (w : World) :
    Calls Try.prog 7 #[] w fun e w' => e = .returned (.bool true) ∧ Below w.heap.size w w' := by
  go_enter Try.func7, Try.ntmps7
  go_wp2_with fail
  refine (snew_ok 3 (by omega) _).mono ?_
  rintro e w1 ⟨b, g, rfl, hs1, hb, hg, ht1⟩
  have HS1 := Lib.hid hs1
  have HT1 := Lib.hid ht1
  clear hs1 ht1
  go_wp2_with fail
  refine (snew_bad (-1) (by omega) _).mono ?_
  rintro e w' ⟨rfl, rfl⟩
  go_wp2_with fail
  refine (sput b g 3 _ _ HS1.out (by omega) 1 7).mono ?_
  rintro e w2 ⟨he, hs2, ht2⟩
  rw [show inB 3 1 = true from rfl] at he
  subst he
  have HS2 := Lib.hid hs2
  have HT2 := Lib.hid ht2
  clear hs2 ht2
  go_wp2_with fail
  refine (sput b g 3 _ _ HS2.out (by omega) 3 1).mono ?_
  rintro e w3 ⟨he, hs3, ht3⟩
  rw [show inB 3 3 = false from rfl] at he
  subst he
  have HS3 := Lib.hid hs3
  have HT3 := Lib.hid ht3
  clear hs3 ht3
  go_wp2_with fail
  refine (sget b g 3 _ _ HS3.out (by omega) 1).mono ?_
  rintro e w' ⟨he, rfl⟩
  rw [show inB 3 1 = true from rfl, show getV (putF (putF (fun _ => 0) 3 1 7) 3 3 1) 3 1 = 7 from rfl] at he
  subst he
  go_wp2_with fail
  refine (sget b g 3 _ _ HS3.out (by omega) 3).mono ?_
  rintro e w' ⟨he, rfl⟩
  rw [show inB 3 3 = false from rfl, show getV (putF (putF (fun _ => 0) 3 1 7) 3 3 1) 3 3 = 0 from rfl] at he
  subst he
  go_wp2_with fail
  refine (slen b g 3 _ _ HS3.out (by omega)).mono ?_
  rintro e w' ⟨rfl, rfl⟩
  go_wp2_with fail
  refine (sclear b g 3 _ _ HS3.out (by omega) 0 3 (by decide) (by decide)).mono ?_
  rintro e w4 ⟨he, hs4, ht4⟩
  rw [show clrB 3 0 3 = true from rfl] at he
  subst he
  have HS4 := Lib.hid hs4
  have HT4 := Lib.hid ht4
  clear hs4 ht4
  go_wp2_with fail
  refine (sclear b g 3 _ _ HS4.out (by omega) 1 3 (by decide) (by decide)).mono ?_
  rintro e w5 ⟨he, hs5, ht5⟩
  rw [show clrB 3 1 3 = false from rfl] at he
  subst he
  have HS5 := Lib.hid hs5
  have HT5 := Lib.hid ht5
  clear hs5 ht5
  go_wp2_with fail
  refine (swords b g 3 _ _ HS5.out (by omega)).mono ?_
  rintro e w6 ⟨v, rfl, hv, hvb, ht6⟩
  rw [show rowL (clrF (clrF (putF (putF (fun _ => 0) 3 1 7) 3 3 1) 3 0 3) 3 1 3) 3 = [0, 0, 0] from rfl] at hv
  have HV := Lib.hid (hv.alloc (.cells #[.int .i64 0, .int .i64 0, .int .i64 0] 3))
  have HW := Lib.hid (row3 w6 0 0 0 3 w6.heap.size rfl)
  have HT6 := Lib.hid ht6
  clear hv hvb ht6
  go_wp2_with fail
  refine (ints_any v _ [0, 0, 0] [0, 0, 0] _ HV.out ⟨_, 3, rfl, .inr ⟨_, 0, rfl, by simp, HW.out⟩⟩ (by simp) (by simp)).mono ?_
  rintro e w7 ⟨he, m, rfl⟩
  rw [eqI_refl] at he
  subst he
  go_wp2
  go_ret
  refine ⟨rfl, ?_⟩
  have h5 := (((HT2.out.trans HT3.out).trans HT4.out).trans HT5.out).below (B := w.heap.size) (by have := HT1.out.size; omega) (by simp; omega)
  have h6 := HT6.out.below (B := w.heap.size) (by have := h5.size; have := HT1.out.size; omega) (by simp)
  exact below_drewN ((((HT1.out.below (Nat.le_refl _) (by simp)).trans h5).trans h6).alloc (by have := h6.size; have := h5.size; have := HT1.out.size; omega) _) _
end Go.Proofs.Ytoobmooagjobnaa
