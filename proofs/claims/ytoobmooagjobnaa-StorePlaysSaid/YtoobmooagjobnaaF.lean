/-
  The law of words, step by step: StorePlays.
-/
import Derived.Test.YtoobmooagjobnaaE
import Derived.Test.YtoobmooagjobnaaO
import Derived.Deep.RegionHeld3
set_option linter.unusedVariables false
namespace Go.Proofs.Ytoobmooagjobnaa
open Go.RowKit

set_option maxHeartbeats 2000000 in
theorem rclear_yes (b g n : Nat) (f : Nat → Int) (w : World) (hs : St w b g f n 39) (hn : n ≤ 8192) (k m : Nat) (hk : k + m ≤ n) :
    Calls Try.prog 15 #[.pointer (some ⟨b, 0, none⟩), .int .i64 k, .int .i64 m] w fun e w' => e = .returned (.bool true) ∧ St w' b g (clr f k m) n 39 ∧ Touch [g] w w' := by
  have HS := Lib.hid hs
  have hb0 := hs.1.cell (i := 0) rfl
  clear hs
  go_enter Try.func15, Try.ntmps15
  go_wp2
  clear hb0
  go_loopw [7] (fun i wr => ∃ j : Nat, j ≤ m ∧ i = .int .i64 j ∧ St wr b g (clr f k j) n 39 ∧ Touch [g] w wr) (fun i _ => m + 1 - (intOf i).toNat)
  case atStart => exact ⟨0, by omega, rfl, by rw [clr_zero]; exact HS.out, Touch.refl _ _⟩
  case round =>
    obtain ⟨j, hj, rfl, hs, ht⟩ := hrel
    have HS1 := Lib.hid hs
    have HT := Lib.hid ht
    have hb0 := hs.1.cell (i := 0) rfl
    by_cases hjm : j < m
    · have hc := hs.2.1.cell (rowA_get (clr f k j) n (k + j) (by omega))
      have hf := hs.2.1.free (k + j)
      clear hs ht
      generalize clr f k j (k + j) = z at *
      go_wp2
      go_roundw
      case rel =>
        refine ⟨j + 1, by omega, by go_num, ?_, HT.out.setCell (by simp) _⟩
        rw [← clr_last]
        exact HS1.out.put (k + j) 0
      case measure => simp [intOf]; omega
    · have hjm2 : j = m := by omega
      subst hjm2
      clear hs ht
      go_wp2
      go_ret
      exact ⟨rfl, HS1.out, HT.out⟩
set_option maxHeartbeats 1000000 in
theorem rclear_no (b g n : Nat) (f : Nat → Int) (w : World) (hs : St w b g f n 39) (hn : n ≤ 8192) (k m : Int) (hk : InI k) (hm : InI m) (h : k < 0 ∨ m < 0 ∨ (n : Int) < k ∨ (n : Int) - k < m) :
    Calls Try.prog 15 #[.pointer (some ⟨b, 0, none⟩), .int .i64 k, .int .i64 m] w fun e w' => e = .returned (.bool false) ∧ w = w' := by
  have hb0 := hs.1.cell (i := 0) rfl
  clear hs
  obtain ⟨k1, k2⟩ := hk
  by_cases c1 : k < 0
  · clear h
    go_enter Try.func15, Try.ntmps15
    go_wp2
    go_ret
    exact ⟨rfl, rfl⟩
  · by_cases c2 : m < 0
    · clear h
      go_enter Try.func15, Try.ntmps15
      go_wp2
      go_ret
      exact ⟨rfl, rfl⟩
    · by_cases c3 : (n : Int) < k
      · clear h
        go_enter Try.func15, Try.ntmps15
        go_wp2
        go_ret
        exact ⟨rfl, rfl⟩
      · have c4 : (n : Int) - k < m := by omega
        clear h
        go_enter Try.func15, Try.ntmps15
        go_wp2
        go_ret
        exact ⟨rfl, rfl⟩
theorem rclear (b g n : Nat) (f : Nat → Int) (w : World) (hs : St w b g f n 39) (hn : n ≤ 8192) (k m : Int) (hk : InI k) (hm : InI m) :
    Calls Try.prog 15 #[.pointer (some ⟨b, 0, none⟩), .int .i64 k, .int .i64 m] w fun e w' => e = .returned (.bool (clrB n k m)) ∧ St w' b g (clrF f n k m) n 39 ∧ Touch [g] w w' := by
  unfold clrF
  by_cases h : 0 ≤ k ∧ 0 ≤ m ∧ k + m ≤ n
  · rw [show clrB n k m = true from dT h, if_pos rfl]
    obtain ⟨q, rfl⟩ : ∃ q : Nat, k = q := ⟨k.toNat, by omega⟩
    obtain ⟨p, rfl⟩ : ∃ p : Nat, m = p := ⟨m.toNat, by omega⟩
    exact rclear_yes b g n f w hs hn q p (by omega)
  · rw [show clrB n k m = false from dF h, if_neg (by simp)]
    exact (rclear_no b g n f w hs hn k m hk hm (by omega)).mono (by rintro e w' ⟨he, rfl⟩; exact ⟨he, hs, Touch.refl _ _⟩)

theorem st_sl {w : World} {b g n : Nat} {f : Nat → Int} {T : TypeId} (h : St w b g f n T) : Sl w (.slice (some ⟨g, 0, none⟩) n n) (rowL f n) :=
  ⟨_, n, by rw [rowL_length], .inr ⟨g, 0, rfl, h.2.1.lt, h.2.1.row⟩⟩

/-- The two stores of the law, alike, in blocks of their own. -/
structure Two (B : Nat) (w : World) (b g b' g' n : Nat) (f : Nat → Int) : Prop where
  s : St w b g f n 46
  t : St w b' g' f n 39
  own : B ≤ b ∧ B ≤ g ∧ B ≤ b' ∧ B ≤ g'
  apart : b ≠ g ∧ b ≠ b' ∧ b ≠ g' ∧ g ≠ b' ∧ g ≠ g' ∧ b' ≠ g'
theorem Two.touch {B : Nat} {w w' : World} {b g b' g' n : Nat} {f : Nat → Int} (h : Two B w b g b' g' n f) (ht : Touch [] w w') : Two B w' b g b' g' n f :=
  ⟨h.s.touch ht (by simp) (by simp), h.t.touch ht (by simp) (by simp), h.own, h.apart⟩
theorem Two.drewN {B : Nat} {w : World} {b g b' g' n : Nat} {f : Nat → Int} (h : Two B w b g b' g' n f) (m : Nat) : Two B (w.drewN m) b g b' g' n f := ⟨h.s, h.t, h.own, h.apart⟩
theorem Two.drew {B : Nat} {w : World} {b g b' g' n : Nat} {f : Nat → Int} (h : Two B w b g b' g' n f) : Two B w.drew b g b' g' n f := ⟨h.s, h.t, h.own, h.apart⟩
theorem Two.lt {B : Nat} {w : World} {b g b' g' n : Nat} {f : Nat → Int} (h : Two B w b g b' g' n f) : b < w.heap.size ∧ g < w.heap.size ∧ b' < w.heap.size ∧ g' < w.heap.size := ⟨h.s.1.lt, h.s.2.1.lt, h.t.1.lt, h.t.2.1.lt⟩

/-- The steps of the law: what lies in the place of each. -/
def StepAt (w : World) (a : Option Addr) (n : Nat) (z : Nat → Nat → Int) : Prop := n = 0 ∨ ∃ g off, a = some ⟨g, off, none⟩ ∧ g < w.heap.size ∧ ∀ i, i < n → ∀ j, j < 3 → w.cell? ⟨g, off + (i * 3 + j), none⟩ = some (.int .i64 (z i j))

def PlaysRel (B : Nat) (w0 : World) (L : Nat) (b g b' g' n : Nat) (i : Value) (wr : World) : Prop := ∃ (j : Nat) (f : Nat → Int), j ≤ L ∧ i = .int .i64 j ∧ Two B wr b g b' g' n f ∧ Below B w0 wr
set_option maxRecDepth 100000 in
set_option maxHeartbeats 16000000 in
theorem plays_yes (n L : Nat) (a : Option Addr) (cap : Nat) (z : Nat → Nat → Int) (w : World) (hn : n ≤ 300) (hL : L ≤ 60) (ha : StepAt w a L z) (hz : ∀ i, i < L → ∀ j, j < 3 → InI (z i j)) :
    Calls Try.prog 3 #[.int .i64 n, .slice a L cap] w fun e w' => e = .returned (.bool true) ∧ Below w.heap.size w w' := by
  have HA := Lib.hid ha
  have HZ := Lib.hid hz
  clear ha hz
  go_enter Try.func3, Try.ntmps3
  go_wp2_with fail
  refine (snew_ok n (by omega) _).mono ?_
  rintro e w1 ⟨b, g, rfl, hs1, hb, hg, ht1⟩
  have HS1 := Lib.hid hs1
  have HT1 := Lib.hid ht1
  clear hs1 ht1
  go_wp2_with fail
  refine (rnew_ok n (by omega) _).mono ?_
  rintro e w2 ⟨b', g', rfl, hs2, hb', hg', ht2⟩
  have HTwo : Hid (Two w.heap.size w2 b g b' g' n (fun _ => 0)) := by
    have h1 := HS1.out.1.lt
    have h2 := HS1.out.2.1.lt
    have h3 := HT1.out.size
    exact ⟨HS1.out.touch ht2 (by simp) (by simp), hs2, ⟨hb, hg, by omega, by omega⟩, ⟨HS1.out.2.2, by omega, by omega, by omega, by omega, hs2.2.2⟩⟩
  have HB : Hid (Below w.heap.size w w2) := (HT1.out.trans ht2).below (Nat.le_refl _) (by simp)
  clear hs2 ht2 HS1 HT1 hb hg hb' hg'
  go_wp2_with fail
  go_loopw [9] (fun i wr => PlaysRel w.heap.size w L b g b' g' n i wr) (fun i _ => L + 1 - (intOf i).toNat)
  case atStart => exact ⟨0, _, by omega, rfl, HTwo.out, HB.out⟩
  case round =>
    obtain ⟨j, f, hj, rfl, htwo, hbw⟩ := hrel
    have HW := Lib.hid htwo
    have HBw := Lib.hid hbw
    have hsz := hbw.size
    clear htwo hbw HTwo HB
    by_cases hjn : j < L
    · obtain ⟨ga, off, rfl, c0, c1, c2⟩ : ∃ g off, a = some ⟨g, off, none⟩ ∧ wr.cell? ⟨g, off + j * 3, none⟩ = some (.int .i64 (z j 0)) ∧ wr.cell? ⟨g, off + j * 3 + 1, none⟩ = some (.int .i64 (z j 1)) ∧ wr.cell? ⟨g, off + j * 3 + 2, none⟩ = some (.int .i64 (z j 2)) := by
        rcases HA.out with h | ⟨g, off, rfl, hlt, hc⟩
        · omega
        · refine ⟨g, off, rfl, ?_, ?_, ?_⟩ <;> rw [HBw.out.cell (p := ⟨g, _, none⟩) hlt]
          · exact hc j hjn 0 (by omega)
          · have := hc j hjn 1 (by omega); rw [← Nat.add_assoc] at this; exact this
          · have := hc j hjn 2 (by omega); rw [← Nat.add_assoc] at this; exact this
      have i1 := Lib.hid (HZ.out j hjn 1 (by omega))
      have i2 := Lib.hid (HZ.out j hjn 2 (by omega))
      generalize z j 0 = kd at *
      generalize z j 1 = A at *
      generalize z j 2 = C at *
      have hlt : (j : Int) < (L : Int) := by omega
      by_cases k0 : kd = 0
      · subst k0
        go_wp2_with fail
        have hX : Blk (wr.alloc (.cells #[.int .i64 0, .int .i64 A, .int .i64 C] 32)) wr.heap.size #[.int .i64 0, .int .i64 A, .int .i64 C] 32 := Blk.new rfl
        have HW2 := Lib.hid (HW.out.touch ((Touch.refl [] wr).alloc (.cells #[.int .i64 0, .int .i64 A, .int .i64 C] 32)))
        have HB2 := Lib.hid (HBw.out.trans ((Below.refl w.heap.size wr).alloc hsz (.cells #[.int .i64 0, .int .i64 A, .int .i64 C] 32)))
        generalize wr.alloc (.cells #[.int .i64 0, .int .i64 A, .int .i64 C] 32) = W0 at *
        have x1 := hX.cell (i := 1) rfl
        have x2 := hX.cell (i := 2) rfl
        have HX := Lib.hid hX
        obtain ⟨l1, l2, l3, l4⟩ := HW.out.lt
        clear hX c0 c1 c2
        refine (sget b g n f _ HW2.out.s (by omega) A).mono ?_
        rintro e w' ⟨rfl, rfl⟩
        go_wp2_with fail
        refine (rget b' g' n f _ HW2.out.t (by omega) A).mono ?_
        rintro e w' ⟨rfl, rfl⟩
        clear x1 x2 HX
        have hc0 : W0.cell? ⟨b', 0, none⟩ = some (.slice (some ⟨g', 0, none⟩) n n) := HW2.out.t.1.cell (i := 0) rfl
        go_wp2_with fail
        go_region_held3 (fun w' => w'.cell? ⟨b', 0, none⟩ = some (.slice (some ⟨g', 0, none⟩) n n)) (first | assumption | exact hc0 | exact hc3 | exact hc4)
          (first | (go_at_call 16; refine (slen b g n f _ (by exact HW2.out.s) (by omega)).mono ?_; rintro e w' ⟨rfl, rfl⟩) | (go_at_call 18; refine (swords b g n f _ (by exact HW2.out.s) (by omega)).mono ?_; rintro e w3 ⟨v, rfl, hv, hvb, ht⟩; have HV3 := Lib.hid hv; have HT3 := Lib.hid ht; have HW3 := Lib.hid (Two.touch (by first | exact HW2.out | exact HW2.out.drew | exact HW2.out.drewN _) ht); have hc3 : w3.cell? ⟨b', 0, none⟩ = some (.slice (some ⟨g', 0, none⟩) n n) := HW3.out.t.1.cell (i := 0) rfl; clear hv hvb ht) | (go_at_call 17; refine (ints_any _ _ (rowL f n) (rowL f n) _ (by exact HV3.out) (by exact st_sl HW3.out.t) (by rw [rowL_length]; omega) (by rw [rowL_length]; omega)).mono ?_; rintro e w4 ⟨he, m4, hw4⟩; rw [eqI_refl] at he; subst he; subst hw4; have hc4 := hc3))
        go_wp2_with fail
        go_roundw
        case rel => exact ⟨j + 1, f, by omega, by go_num, HW3.out.drewN m4, below_drewN (HB2.out.drew.trans (HT3.out.below HB2.out.size (by simp))) m4⟩
        case measure => simp [intOf]; omega
      by_cases k1 : kd = 1
      · subst k1
        go_wp2_with fail
        have hX : Blk (wr.alloc (.cells #[.int .i64 1, .int .i64 A, .int .i64 C] 32)) wr.heap.size #[.int .i64 1, .int .i64 A, .int .i64 C] 32 := Blk.new rfl
        have HW2 := Lib.hid (HW.out.touch ((Touch.refl [] wr).alloc (.cells #[.int .i64 1, .int .i64 A, .int .i64 C] 32)))
        have HB2 := Lib.hid (HBw.out.trans ((Below.refl w.heap.size wr).alloc hsz (.cells #[.int .i64 1, .int .i64 A, .int .i64 C] 32)))
        generalize wr.alloc (.cells #[.int .i64 1, .int .i64 A, .int .i64 C] 32) = W0 at *
        have x1 := hX.cell (i := 1) rfl
        have x2 := hX.cell (i := 2) rfl
        have HX := Lib.hid hX
        obtain ⟨l1, l2, l3, l4⟩ := HW.out.lt
        clear hX c0 c1 c2
        go_region_held3 (fun w' => w'.cell? ⟨wr.heap.size, 1, none⟩ = some (.int .i64 A) ∧ w'.cell? ⟨wr.heap.size, 2, none⟩ = some (.int .i64 C)) (first | exact ⟨x1, x2⟩ | exact ⟨y1, y2⟩ | exact ⟨z1, z2⟩)
          (first | (go_at_call 12; refine (sput b g n f _ (by exact HW2.out.s) (by omega) A C).mono ?_; rintro e w5 ⟨rfl, hs5, ht5⟩; have HS5 := Lib.hid hs5; have HT5 := Lib.hid ht5; have HX5 := Lib.hid (Blk.touch (by exact HX.out) ht5 (by simp; omega)); have HR5 := Lib.hid (St.touch (by exact HW2.out.t) ht5 (by simp; exact fun e => HW2.out.apart.2.2.2.1 e.symm) (by simp; exact fun e => HW2.out.apart.2.2.2.2.1 e.symm)); have y1 := HX5.out.cell (i := 1) rfl; have y2 := HX5.out.cell (i := 2) rfl; clear hs5 ht5) | (go_at_call 13; refine (rput b' g' n f _ (by exact HR5.out) (by omega) A C).mono ?_; rintro e w6 ⟨rfl, hs6, ht6⟩; have HS6 := Lib.hid hs6; have HT6 := Lib.hid ht6; have HX6 := Lib.hid (Blk.touch (by exact HX5.out) ht6 (by simp; omega)); have HQ6 := Lib.hid (St.touch (by exact HS5.out) ht6 (by simp; exact HW2.out.apart.2.2.1) (by simp; exact HW2.out.apart.2.2.2.2.1)); have z1 := HX6.out.cell (i := 1) rfl; have z2 := HX6.out.cell (i := 2) rfl; clear hs6 ht6))
        have HW7 : Hid (Two w.heap.size w6 b g b' g' n (putF f n A C)) := ⟨HQ6.out, HS6.out, HW2.out.own, HW2.out.apart⟩
        have HB7 : Hid (Below w.heap.size w w6) := by
          have hz := HB2.out.size
          have o := HW2.out.own
          have h5 : Below w.heap.size W0 w5 := by
            have h := HT5.out
            exact Touch.below ⟨h.os, h.tape, h.output, h.size, h.block⟩ (by omega) (by simp; omega)
          have h6 : Below w.heap.size w5 w6 := HT6.out.below (by have := h5.size; omega) (by simp; omega)
          exact (HB2.out.trans h5).trans h6
        clear HW2 HB2 HS5 HT5 HX5 HR5 HS6 HT6 HX6 HQ6 HX x1 x2 y1 y2 z1 z2
        obtain ⟨W7, hW7⟩ : ∃ W7, W7 = w6 := ⟨_, rfl⟩
        have HW2 : Hid (Two w.heap.size W7 b g b' g' n (putF f n A C)) := by rw [hW7]; exact HW7.out
        have HB2 : Hid (Below w.heap.size w W7) := by rw [hW7]; exact HB7.out
        rw [← hW7]
        clear hW7 HW7 HB7
        have hc0 : W7.cell? ⟨b', 0, none⟩ = some (.slice (some ⟨g', 0, none⟩) n n) := HW2.out.t.1.cell (i := 0) rfl
        go_wp2_with fail
        go_region_held3 (fun w' => w'.cell? ⟨b', 0, none⟩ = some (.slice (some ⟨g', 0, none⟩) n n)) (first | assumption | exact hc0 | exact hc3 | exact hc4)
          (first | (go_at_call 16; refine (slen b g n (putF f n A C) _ (by exact HW2.out.s) (by omega)).mono ?_; rintro e w' ⟨rfl, rfl⟩) | (go_at_call 18; refine (swords b g n (putF f n A C) _ (by exact HW2.out.s) (by omega)).mono ?_; rintro e w3 ⟨v, rfl, hv, hvb, ht⟩; have HV3 := Lib.hid hv; have HT3 := Lib.hid ht; have HW3 := Lib.hid (Two.touch (by first | exact HW2.out | exact HW2.out.drew | exact HW2.out.drewN _) ht); have hc3 : w3.cell? ⟨b', 0, none⟩ = some (.slice (some ⟨g', 0, none⟩) n n) := HW3.out.t.1.cell (i := 0) rfl; clear hv hvb ht) | (go_at_call 17; refine (ints_any _ _ (rowL (putF f n A C) n) (rowL (putF f n A C) n) _ (by exact HV3.out) (by exact st_sl HW3.out.t) (by rw [rowL_length]; omega) (by rw [rowL_length]; omega)).mono ?_; rintro e w4 ⟨he, m4, hw4⟩; rw [eqI_refl] at he; subst he; subst hw4; have hc4 := hc3))
        go_wp2_with fail
        go_roundw
        case rel => exact ⟨j + 1, (putF f n A C), by omega, by go_num, HW3.out.drewN m4, below_drewN (HB2.out.drew.trans (HT3.out.below HB2.out.size (by simp))) m4⟩
        case measure => simp [intOf]; omega
      · have q0 : (kd == 0) = false := beqF k0
        have q1 : (kd == 1) = false := beqF k1
        go_wp2_with fail
        have hX : Blk (wr.alloc (.cells #[.int .i64 kd, .int .i64 A, .int .i64 C] 32)) wr.heap.size #[.int .i64 kd, .int .i64 A, .int .i64 C] 32 := Blk.new rfl
        have HW2 := Lib.hid (HW.out.touch ((Touch.refl [] wr).alloc (.cells #[.int .i64 kd, .int .i64 A, .int .i64 C] 32)))
        have HB2 := Lib.hid (HBw.out.trans ((Below.refl w.heap.size wr).alloc hsz (.cells #[.int .i64 kd, .int .i64 A, .int .i64 C] 32)))
        generalize wr.alloc (.cells #[.int .i64 kd, .int .i64 A, .int .i64 C] 32) = W0 at *
        have x1 := hX.cell (i := 1) rfl
        have x2 := hX.cell (i := 2) rfl
        have HX := Lib.hid hX
        obtain ⟨l1, l2, l3, l4⟩ := HW.out.lt
        clear hX c0 c1 c2
        go_region_held3 (fun w' => w'.cell? ⟨wr.heap.size, 1, none⟩ = some (.int .i64 A) ∧ w'.cell? ⟨wr.heap.size, 2, none⟩ = some (.int .i64 C)) (first | exact ⟨x1, x2⟩ | exact ⟨y1, y2⟩ | exact ⟨z1, z2⟩)
          (first | (go_at_call 14; refine (sclear b g n f _ (by exact HW2.out.s) (by omega) A C i1.out i2.out).mono ?_; rintro e w5 ⟨rfl, hs5, ht5⟩; have HS5 := Lib.hid hs5; have HT5 := Lib.hid ht5; have HX5 := Lib.hid (Blk.touch (by exact HX.out) ht5 (by simp; omega)); have HR5 := Lib.hid (St.touch (by exact HW2.out.t) ht5 (by simp; exact fun e => HW2.out.apart.2.2.2.1 e.symm) (by simp; exact fun e => HW2.out.apart.2.2.2.2.1 e.symm)); have y1 := HX5.out.cell (i := 1) rfl; have y2 := HX5.out.cell (i := 2) rfl; clear hs5 ht5) | (go_at_call 15; refine (rclear b' g' n f _ (by exact HR5.out) (by omega) A C i1.out i2.out).mono ?_; rintro e w6 ⟨rfl, hs6, ht6⟩; have HS6 := Lib.hid hs6; have HT6 := Lib.hid ht6; have HX6 := Lib.hid (Blk.touch (by exact HX5.out) ht6 (by simp; omega)); have HQ6 := Lib.hid (St.touch (by exact HS5.out) ht6 (by simp; exact HW2.out.apart.2.2.1) (by simp; exact HW2.out.apart.2.2.2.2.1)); have z1 := HX6.out.cell (i := 1) rfl; have z2 := HX6.out.cell (i := 2) rfl; clear hs6 ht6))
        have HW7 : Hid (Two w.heap.size w6 b g b' g' n (clrF f n A C)) := ⟨HQ6.out, HS6.out, HW2.out.own, HW2.out.apart⟩
        have HB7 : Hid (Below w.heap.size w w6) := by
          have hz := HB2.out.size
          have o := HW2.out.own
          have h5 : Below w.heap.size W0 w5 := by
            have h := HT5.out
            exact Touch.below ⟨h.os, h.tape, h.output, h.size, h.block⟩ (by omega) (by simp; omega)
          have h6 : Below w.heap.size w5 w6 := HT6.out.below (by have := h5.size; omega) (by simp; omega)
          exact (HB2.out.trans h5).trans h6
        clear HW2 HB2 HS5 HT5 HX5 HR5 HS6 HT6 HX6 HQ6 HX x1 x2 y1 y2 z1 z2
        obtain ⟨W7, hW7⟩ : ∃ W7, W7 = w6 := ⟨_, rfl⟩
        have HW2 : Hid (Two w.heap.size W7 b g b' g' n (clrF f n A C)) := by rw [hW7]; exact HW7.out
        have HB2 : Hid (Below w.heap.size w W7) := by rw [hW7]; exact HB7.out
        rw [← hW7]
        clear hW7 HW7 HB7
        have hc0 : W7.cell? ⟨b', 0, none⟩ = some (.slice (some ⟨g', 0, none⟩) n n) := HW2.out.t.1.cell (i := 0) rfl
        go_wp2_with fail
        go_region_held3 (fun w' => w'.cell? ⟨b', 0, none⟩ = some (.slice (some ⟨g', 0, none⟩) n n)) (first | assumption | exact hc0 | exact hc3 | exact hc4)
          (first | (go_at_call 16; refine (slen b g n (clrF f n A C) _ (by exact HW2.out.s) (by omega)).mono ?_; rintro e w' ⟨rfl, rfl⟩) | (go_at_call 18; refine (swords b g n (clrF f n A C) _ (by exact HW2.out.s) (by omega)).mono ?_; rintro e w3 ⟨v, rfl, hv, hvb, ht⟩; have HV3 := Lib.hid hv; have HT3 := Lib.hid ht; have HW3 := Lib.hid (Two.touch (by first | exact HW2.out | exact HW2.out.drew | exact HW2.out.drewN _) ht); have hc3 : w3.cell? ⟨b', 0, none⟩ = some (.slice (some ⟨g', 0, none⟩) n n) := HW3.out.t.1.cell (i := 0) rfl; clear hv hvb ht) | (go_at_call 17; refine (ints_any _ _ (rowL (clrF f n A C) n) (rowL (clrF f n A C) n) _ (by exact HV3.out) (by exact st_sl HW3.out.t) (by rw [rowL_length]; omega) (by rw [rowL_length]; omega)).mono ?_; rintro e w4 ⟨he, m4, hw4⟩; rw [eqI_refl] at he; subst he; subst hw4; have hc4 := hc3))
        go_wp2_with fail
        go_roundw
        case rel => exact ⟨j + 1, (clrF f n A C), by omega, by go_num, HW3.out.drewN m4, below_drewN (HB2.out.drew.trans (HT3.out.below HB2.out.size (by simp))) m4⟩
        case measure => simp [intOf]; omega
    · have hjn2 : ¬ (j : Int) < (L : Int) := by omega
      go_wp2_with fail
      refine (awake_any _).mono ?_
      rintro e w' ⟨rfl, hb⟩
      have HX := Lib.hid hb
      clear hb
      go_wp2
      go_ret
      exact ⟨rfl, HBw.out.trans (HX.out.mono hsz)⟩

set_option maxHeartbeats 1000000 in
theorem plays_no0 (n : Int) (a : Option Addr) (L cap : Nat) (hL : L ≤ 9223372036854775807) (w : World) (h : 60 < (L : Int)) :
    Calls Try.prog 3 #[.int .i64 n, .slice a L cap] w fun e w' => e = .returned (.bool true) ∧ Below w.heap.size w w' := by
  go_enter Try.func3, Try.ntmps3
  go_wp2_with fail
  refine (awake_any _).mono ?_
  rintro e w' ⟨rfl, hb⟩
  have HX := Lib.hid hb
  clear hb
  go_wp2
  go_ret
  exact ⟨rfl, HX.out⟩

set_option maxHeartbeats 1000000 in
theorem plays_no1 (n : Int) (a : Option Addr) (L cap : Nat) (hL : L ≤ 9223372036854775807) (w : World) (n0 : ¬ 60 < (L : Int)) (h : 300 < n) (h2 : n ≤ 8192) :
    Calls Try.prog 3 #[.int .i64 n, .slice a L cap] w fun e w' => e = .returned (.bool true) ∧ Below w.heap.size w w' := by
  go_enter Try.func3, Try.ntmps3
  go_wp2_with fail
  refine (awake_any _).mono ?_
  rintro e w' ⟨rfl, hb⟩
  have HX := Lib.hid hb
  clear hb
  go_wp2
  go_ret
  exact ⟨rfl, HX.out⟩

set_option maxRecDepth 100000 in
set_option maxHeartbeats 4000000 in
theorem plays_lowz (n : Int) (a : Option Addr) (L cap : Nat) (w : World) (hL : ¬ 60 < (L : Int)) (h : n < 0) (hz : ¬ 0 < (L : Int)) :
    Calls Try.prog 3 #[.int .i64 n, .slice a L cap] w fun e w' => e = .returned (.bool true) ∧ Below w.heap.size w w' := by
  have c1 := Lib.hid (fun w => snew_bad n (by omega) w)
  have c2 := Lib.hid (fun w => rnew_bad n (by omega) w)
  have c3 := Lib.hid (fun w => awake_any w)
  go_enter Try.func3, Try.ntmps3
  go_wp2_with fail
  refine (c1.out _).mono ?_
  rintro e w' ⟨rfl, rfl⟩
  go_wp2_with fail
  refine (c2.out _).mono ?_
  rintro e w' ⟨rfl, rfl⟩
  go_wp2_with fail
  refine wp_loop_rounds 1 ?_
  rw [rounds_succ]
  go_wp2_with fail
  refine (c3.out _).mono ?_
  rintro e w' ⟨rfl, hb⟩
  have HX := Lib.hid hb
  clear hb
  go_wp2
  go_ret
  exact ⟨rfl, HX.out⟩

set_option maxRecDepth 100000 in
set_option maxHeartbeats 4000000 in
theorem plays_lowp (n : Int) (a : Option Addr) (L cap : Nat) (w : World) (hL : ¬ 60 < (L : Int)) (h : n < 0) (hz : 0 < (L : Int)) :
    Calls Try.prog 3 #[.int .i64 n, .slice a L cap] w fun e w' => e = .returned (.bool true) ∧ Below w.heap.size w w' := by
  have c1 := Lib.hid (fun w => snew_bad n (by omega) w)
  have c2 := Lib.hid (fun w => rnew_bad n (by omega) w)
  have c3 := Lib.hid (fun w => awake_any w)
  go_enter Try.func3, Try.ntmps3
  go_wp2_with fail
  refine (c1.out _).mono ?_
  rintro e w' ⟨rfl, rfl⟩
  go_wp2_with fail
  refine (c2.out _).mono ?_
  rintro e w' ⟨rfl, rfl⟩
  go_wp2_with fail
  refine wp_loop_rounds 1 ?_
  rw [rounds_succ]
  go_wp2_with fail
  refine (c3.out _).mono ?_
  rintro e w' ⟨rfl, hb⟩
  have HX := Lib.hid hb
  clear hb
  go_wp2
  go_ret
  exact ⟨rfl, HX.out⟩

set_option maxRecDepth 100000 in
set_option maxHeartbeats 4000000 in
theorem plays_highz (n : Int) (a : Option Addr) (L cap : Nat) (w : World) (hL : ¬ 60 < (L : Int)) (h : 8192 < n) (h2 : decide (n ≤ 8192) = false) (h3 : decide (300 < n) = true) (hz : ¬ 0 < (L : Int)) :
    Calls Try.prog 3 #[.int .i64 n, .slice a L cap] w fun e w' => e = .returned (.bool true) ∧ Below w.heap.size w w' := by
  have c1 := Lib.hid (fun w => snew_bad n (by omega) w)
  have c2 := Lib.hid (fun w => rnew_bad n (by omega) w)
  have c3 := Lib.hid (fun w => awake_any w)
  go_enter Try.func3, Try.ntmps3
  go_wp2_with fail
  refine (c1.out _).mono ?_
  rintro e w' ⟨rfl, rfl⟩
  go_wp2_with fail
  refine (c2.out _).mono ?_
  rintro e w' ⟨rfl, rfl⟩
  go_wp2_with fail
  refine wp_loop_rounds 1 ?_
  rw [rounds_succ]
  go_wp2_with fail
  refine (c3.out _).mono ?_
  rintro e w' ⟨rfl, hb⟩
  have HX := Lib.hid hb
  clear hb
  go_wp2
  go_ret
  exact ⟨rfl, HX.out⟩

set_option maxRecDepth 100000 in
set_option maxHeartbeats 4000000 in
theorem plays_highp (n : Int) (a : Option Addr) (L cap : Nat) (w : World) (hL : ¬ 60 < (L : Int)) (h : 8192 < n) (h2 : decide (n ≤ 8192) = false) (h3 : decide (300 < n) = true) (hz : 0 < (L : Int)) :
    Calls Try.prog 3 #[.int .i64 n, .slice a L cap] w fun e w' => e = .returned (.bool true) ∧ Below w.heap.size w w' := by
  have c1 := Lib.hid (fun w => snew_bad n (by omega) w)
  have c2 := Lib.hid (fun w => rnew_bad n (by omega) w)
  have c3 := Lib.hid (fun w => awake_any w)
  go_enter Try.func3, Try.ntmps3
  go_wp2_with fail
  refine (c1.out _).mono ?_
  rintro e w' ⟨rfl, rfl⟩
  go_wp2_with fail
  refine (c2.out _).mono ?_
  rintro e w' ⟨rfl, rfl⟩
  go_wp2_with fail
  refine wp_loop_rounds 1 ?_
  rw [rounds_succ]
  go_wp2_with fail
  refine (c3.out _).mono ?_
  rintro e w' ⟨rfl, hb⟩
  have HX := Lib.hid hb
  clear hb
  go_wp2
  go_ret
  exact ⟨rfl, HX.out⟩

theorem plays_law (n : Int) (v : Value) (L : Nat) (z : Nat → Nat → Int) (w : World) (h0 : (Lit.int .i64 n).wf = true) (hs : Slr w v L 3 z) (hz : ∀ i, i < L → ∀ j, j < 3 → InI (z i j)) (hm : L ≤ maxLen) :
    Calls Try.prog 3 #[.int .i64 n, v] w fun e w' => e = .returned (.bool true) ∧ Below w.heap.size w w' := by
  obtain ⟨a, cap, rfl, ha⟩ := hs
  unfold maxLen at hm
  by_cases c0 : 60 < (L : Int)
  · exact plays_no0 n a L cap (by omega) w c0
  by_cases c1 : 300 < n ∧ n ≤ 8192
  · exact plays_no1 n a L cap (by omega) w c0 c1.1 c1.2
  by_cases c2 : n < 0
  · by_cases c4 : 0 < (L : Int)
    · exact plays_lowp n a L cap w c0 c2 c4
    · exact plays_lowz n a L cap w c0 c2 c4
  by_cases c3 : 8192 < n
  · by_cases c4 : 0 < (L : Int)
    · exact plays_highp n a L cap w c0 c3 (dF (by omega)) (dT (by omega)) c4
    · exact plays_highz n a L cap w c0 c3 (dF (by omega)) (dT (by omega)) c4
  obtain ⟨m, rfl⟩ : ∃ m : Nat, n = m := ⟨n.toNat, by omega⟩
  exact plays_yes m L a cap z w (by omega) (by omega) ha hz
end Go.Proofs.Ytoobmooagjobnaa
