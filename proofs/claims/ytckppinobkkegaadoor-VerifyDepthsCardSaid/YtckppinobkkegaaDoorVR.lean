/-
  The reference's Is and reach.
-/
import Derived.Test.YtckppinobkkegaaDoorVQ
set_option linter.unusedVariables false
namespace Go.Proofs.YtckppinobkkegaaDoor
open Go Go.RowKit

set_option maxHeartbeats 4000000 in
theorem ris_any (v : Value) (xs : List Int) (m : Nat) (w : World) (hv : Sl w v xs) (hl : xs.length ≤ 1000000) : Calls Tryd.prog 30 #[v, .int .i64 (m : Int)] w (BoolI (xs.length = m ∧ ∀ x ∈ xs, betw 0 1000 x) w) := by
  have HS := Lib.hid hv
  obtain ⟨a, cap, rfl, _⟩ := hv
  have HB : Hid ((xs.length = m ∧ ∀ x ∈ xs, betw 0 1000 x) ↔ (xs.length = m ∧ ∀ k, k < xs.length → betw 0 1000 (xs.getD k 0))) := Lib.hid (by rw [all_iff])
  obtain ⟨Q, hQ⟩ : ∃ Q, (xs.length = m ∧ ∀ x ∈ xs, betw 0 1000 x) = Q := ⟨_, rfl⟩
  rw [hQ] at HB ⊢
  clear hQ
  obtain ⟨n, hn⟩ : ∃ n, xs.length = n := ⟨_, rfl⟩
  have HN := Lib.hid hn
  rw [hn] at HB hl ⊢
  clear hn
  by_cases hnm : n = m
  · subst hnm
    have d0 : ((n : Int) != (n : Int)) = false := bneF rfl
    go_enter Tryd.func30, Tryd.ntmps30
    go_wp2_with fail
    go_loopw [5] (fun iv wr => ∃ i : Nat, i ≤ n ∧ iv = .int .i64 (i : Int) ∧ (∀ k, k < i → betw 0 1000 (xs.getD k 0)) ∧ Touch [] w wr) (fun iv _ => n + 1 - (intOf iv).toNat)
    case atStart => exact ⟨0, by omega, rfl, fun k hk => by omega, Touch.refl _ _⟩
    case round =>
      obtain ⟨i, hi0, rfl, hall, ht⟩ := hrel
      have HA := Lib.hid hall
      have HT := Lib.hid ht
      clear hall
      by_cases hin : i < n
      · have hlt : (i : Int) < (n : Int) := by omega
        obtain ⟨g, off, hg, xo⟩ := HS.out.ix (q := i) (by rw [HN.out]; exact hin)
        subst hg
        have x0 := xo _ ht
        obtain ⟨x, hx⟩ : ∃ x, xs.getD i 0 = x := ⟨_, rfl⟩
        rw [hx] at x0
        have HX := Lib.hid hx
        clear xo ht hx
        by_cases hb : 0 ≤ x ∧ x ≤ 1000
        · have HW : Hid (∀ w, Calls Tryd.prog 28 #[.int .i64 x, .int .i64 0, .int .i64 1000] w (BoolQ true w)) := Lib.hid (fun wz => by have := rin_any x 0 1000 wz; rwa [show decide (0 ≤ x ∧ x ≤ 1000) = true from dT hb] at this)
          have HBX := Lib.hid hb
          clear hb
          go_wp2_with fail
          refine (HW.out _).mono ?_
          rintro e w3 ⟨rfl, rfl⟩
          clear x0
          go_wp2_with fail
          go_roundw
          case rel =>
            refine ⟨i + 1, by omega, by go_num, fun k hk => ?_, HT.out⟩
            by_cases e : k = i
            · subst e; rw [HX.out]; exact HBX.out
            · exact HA.out k (by omega)
          case measure => simp [intOf]; omega
        · have HW : Hid (∀ w, Calls Tryd.prog 28 #[.int .i64 x, .int .i64 0, .int .i64 1000] w (BoolQ false w)) := Lib.hid (fun wz => by have := rin_any x 0 1000 wz; rwa [show decide (0 ≤ x ∧ x ≤ 1000) = false from dF hb] at this)
          have HE : Hid (¬ Q) := Lib.hid (fun q => hb (by have := (HB.out.1 q).2 i hin; rw [HX.out] at this; exact this))
          clear hb
          go_wp2_with fail
          refine (HW.out _).mono ?_
          rintro e w3 ⟨rfl, rfl⟩
          clear x0
          go_wp2_with fail
          go_ret
          exact ⟨_, rfl, ⟨fun h => (by cases h), fun q => absurd q HE.out⟩, HT.out⟩
      · obtain rfl : i = n := by omega
        have HE : Hid Q := Lib.hid (HB.out.2 ⟨(by first | rfl | trivial), HA.out⟩)
        clear ht
        go_wp2_with fail
        go_ret
        exact ⟨_, rfl, ⟨fun _ => HE.out, fun _ => rfl⟩, HT.out⟩
  · have d0 : ((n : Int) != (m : Int)) = true := bneT (by omega)
    have HE : Hid (¬ Q) := Lib.hid (fun q => hnm (HB.out.1 q).1)
    clear hnm
    go_enter Tryd.func30, Tryd.ntmps30
    go_wp2_with fail
    go_ret
    exact ⟨_, rfl, ⟨fun h => (by cases h), fun q => absurd q HE.out⟩, Touch.refl _ _⟩
set_option maxHeartbeats 4000000 in
theorem reach_any (b s : Int) (w : World) (h0 : 0 ≤ b) (h1 : b ≤ 8192) (h2 : 0 ≤ s) (h3 : s ≤ 64) : Calls Tryd.prog 29 #[.agg #[.int .i64 b, .int .i64 s]] w (IntQ (b + max s 1) w) := by
  have hb : Blk (w.alloc (.cells #[.int .i64 b, .int .i64 s] 57)) w.heap.size #[.int .i64 b, .int .i64 s] 57 := Blk.new rfl
  have HT0 := Lib.hid ((Touch.refl [] w).alloc (.cells #[.int .i64 b, .int .i64 s] 57))
  have c0 := hb.cell (i := 0) rfl
  have c1 := hb.cell (i := 1) rfl
  clear hb
  by_cases hs : s < 1
  · obtain rfl : s = 0 := by omega
    rw [show max (0 : Int) 1 = 1 from rfl]
    go_enter Tryd.func29, Tryd.ntmps29
    go_wp2_with fail
    go_ret
    exact ⟨rfl, HT0.out⟩
  · have d0 : decide (s < 1) = false := dF hs
    rw [show max s 1 = s from by omega]
    clear hs
    go_enter Tryd.func29, Tryd.ntmps29
    go_wp2_with fail
    go_ret
    exact ⟨rfl, HT0.out⟩
end Go.Proofs.YtckppinobkkegaaDoor
