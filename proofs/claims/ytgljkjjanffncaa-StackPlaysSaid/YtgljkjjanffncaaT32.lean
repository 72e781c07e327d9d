/-
  StackPlays.
-/
import Derived.Test.YtgljkjjanffncaaT31
import Derived.Test.YtgljkjjanffncaaO
set_option linter.unusedVariables false
namespace Go.Proofs.Ytgljkjjanffncaa
open Go.RowKit Go.BigFrame

/-- Both stacks, behind any steps. -/
def Aft (k sb g N at' n base t : Nat) (w w' : World) : Prop := ∃ f S, KsF w' k sb g f N at' n S ∧ Rs w' [k, sb, g] base t n S ∧ Touch [] w w'
theorem KsF.lts {w : World} {k sb g N at' sz : Nat} {f : Nat → Int} {S : List Frm} (h : KsF w k sb g f N at' sz S) : ∀ b ∈ [k, sb, g], b < w.heap.size := fun b hb => by
  simp at hb
  rcases hb with rfl | rfl | rfl
  · exact h.1.obj.lt
  · exact h.1.st.1.lt
  · exact h.1.st.2.1.lt
section
variable {k sb g N at' n base t : Nat} {w w' : World}
theorem aft_step (kd x y z : Int) (hz : z ≤ 9223372036854775807) (hn : n ≤ 60) (h1 : w.heap.size ≤ k ∧ w.heap.size ≤ g ∧ w.heap.size ≤ base) (h : Aft k sb g N at' n base t w w') :
    Calls Try.prog 11 #[.pointer (some ⟨k, 0, none⟩), .pointer (some ⟨t, 0, none⟩), .agg #[.int .i64 kd, .int .i64 x, .int .i64 y, .int .i64 z]] w' fun e w'' => e = .returned (.bool true) ∧ Aft k sb g N at' n base t w w'' := by
  obtain ⟨f, S, k1, k2, k3⟩ := h
  obtain ⟨F, r, rfl⟩ := k1.2.ne
  refine (step_any k sb g N at' n base t [k, sb, g] f F r x y z w' kd hz hn k1 k2 (by simp) k1.lts).mono ?_
  rintro e w'' ⟨he, S', ⟨f', q1, _⟩, q2, L, ht, hL⟩
  refine ⟨he, f', S', q1, q2, (k3.transF ht (fun b hb hlt => ?_))⟩
  rcases hL b hb with e | e | e
  · omega
  · omega
  · omega
theorem aft_same (hn : n ≤ 60) (h : Aft k sb g N at' n base t w w') :
    Calls Try.prog 12 #[.pointer (some ⟨k, 0, none⟩), .pointer (some ⟨t, 0, none⟩)] w' fun e w'' => e = .returned (.bool true) ∧ Aft k sb g N at' n base t w w'' := by
  obtain ⟨f, S, k1, k2, k3⟩ := h
  obtain ⟨F, r, rfl⟩ := k1.2.ne
  refine (same_any k sb g N at' n base t [k, sb, g] f F r w' hn k1 k2).mono ?_
  rintro e w'' ⟨he, ht⟩
  obtain ⟨v, ps, k2⟩ := k2
  exact ⟨he, f, _, k1.still ht, ⟨v, ps, k2.still ht⟩, k3.trans ht⟩
end
set_option maxRecDepth 100000 in
set_option maxHeartbeats 4000000 in
theorem plays_out (size : Int) (v : Value) (L : Nat) (z : Nat → Nat → Int) (w : World) (hs : Slr w v L 4 z) (hm : L ≤ maxLen) (h : 60 < L ∨ size < 0 ∨ 60 < size) :
    Calls Try.prog 3 #[.int .i64 size, v] w fun e w' => e = .returned (.bool true) ∧ Below w.heap.size w w' := by
  obtain ⟨ad, cap, rfl, _⟩ := hs
  unfold maxLen at hm
  by_cases hL : 60 < L
  · have d : decide ((60 : Int) < (L : Int)) = true := dT (by omega)
    clear h
    go_enter Try.func3, Try.ntmps3
    go_wp2_with fail
    refine (awake_any _).mono ?_
    rintro e w1 ⟨rfl, ht⟩
    go_wp2
    go_ret
    exact ⟨rfl, ht.below (Nat.le_refl _) (by simp)⟩
  · have d : decide ((60 : Int) < (L : Int)) = false := dF (by omega)
    by_cases h0 : size < 0
    · have d2 : decide (size < 0) = true := dT h0
      clear h
      go_enter Try.func3, Try.ntmps3
      go_wp2_with fail
      refine (awake_any _).mono ?_
      rintro e w1 ⟨rfl, ht⟩
      go_wp2
      go_ret
      exact ⟨rfl, ht.below (Nat.le_refl _) (by simp)⟩
    · have d2 : decide (size < 0) = false := dF h0
      have d3 : decide (60 < size) = true := dT (by omega)
      clear h
      go_enter Try.func3, Try.ntmps3
      go_wp2_with fail
      refine (awake_any _).mono ?_
      rintro e w1 ⟨rfl, ht⟩
      go_wp2
      go_ret
      exact ⟨rfl, ht.below (Nat.le_refl _) (by simp)⟩
set_option maxRecDepth 100000 in
set_option maxHeartbeats 32000000 in
theorem plays_in (n : Nat) (v : Value) (L : Nat) (z : Nat → Nat → Int) (w : World) (hs : Slr w v L 4 z) (hz : ∀ i, i < L → ∀ j, j < 4 → InI (z i j)) (h : L ≤ 60) (hn : n ≤ 60) :
    Calls Try.prog 3 #[.int .i64 n, v] w fun e w' => e = .returned (.bool true) ∧ Below w.heap.size w w' := by
  obtain ⟨ad, cap, rfl, hrow⟩ := hs
  have HR := Lib.hid hrow
  have HZ := Lib.hid hz
  clear hrow hz
  have d : decide ((60 : Int) < (L : Int)) = false := dF (by omega)
  have d2 : decide ((n : Int) < 0) = false := dF (by omega)
  have d3 : decide ((60 : Int) < (n : Int)) = false := dF (by omega)
  have HN := Lib.hid hn
  go_enter Try.func3, Try.ntmps3
  go_wp2_with fail
  refine (snew_ok 100 (by omega) _).mono ?_
  rintro e w1 ⟨sb, g, rfl, hst, hsb, hg, ht⟩
  have HS := Lib.hid hst
  have HT := Lib.hid ht
  have HB : Hid (w.heap.size ≤ sb ∧ w.heap.size ≤ g) := Lib.hid ⟨hsb, hg⟩
  clear hst ht hsb hg
  have HC := Lib.hid (knew_yes sb g 100 20 n (fun _ => 0) _ HS.out (by omega) (by omega))
  go_wp2_with fail
  refine HC.out.mono ?_
  rintro e w2 ⟨rfl, hk, ht⟩
  have HX : Hid (w.heap.size ≤ w1.heap.size) := Lib.hid HT.out.size
  obtain ⟨k, hkk⟩ : ∃ k, w1.heap.size = k := ⟨_, rfl⟩
  rw [hkk] at hk HX ⊢
  have HK : Hid (KsF w2 k sb g (fun _ => 0) 100 20 n [⟨0, [], []⟩]) := Lib.hid ⟨hk, rfl, fun j hj => by simp at hj⟩
  have HT := Lib.hid (HT.out.trans ht)
  clear hk ht HS hkk HC
  go_wp2_with fail
  refine (rnew_ok [k, sb, g] n w2 HK.out.lts).mono ?_
  rintro e w3 ⟨t, rfl, hr, ht⟩
  have HAf : Hid (Aft k sb g 100 20 n w2.heap.size t w w3) := Lib.hid ⟨_, _, HK.out.still ht, hr, HT.out.trans ht⟩
  have HXX : Hid (w.heap.size ≤ k ∧ w.heap.size ≤ g ∧ w.heap.size ≤ w2.heap.size) := Lib.hid ⟨HX.out, HB.out.2, HT.out.size⟩
  obtain ⟨base, hbase⟩ : ∃ b, w2.heap.size = b := ⟨_, rfl⟩
  rw [hbase] at HAf HXX
  clear hr ht HK HT HB HX hbase
  go_wp2_with fail
  go_loopw [9] (fun i wr => ∃ (j : Nat), j ≤ L ∧ i = .int .i64 j ∧ Aft k sb g 100 20 n base t w wr) (fun i _ => L + 1 - (intOf i).toNat)
  case atStart => exact ⟨0, by omega, rfl, HAf.out⟩
  case round =>
    clear HAf
    obtain ⟨j, hj, rfl, hth⟩ := hrel
    have HTH := Lib.hid hth
    by_cases hjn : j < L
    · have hlt : (j : Int) < (L : Int) := by omega
      have HZR := HR.out
      rcases HZR with h | ⟨lg, loff, rfl, hlg, hrow⟩
      · exfalso; omega
      have HXr : Hid (∀ w', Touch [] w w' → ∀ k, k < 4 → w'.cell? ⟨lg, loff + (j * 4 + k), none⟩ = some (.int .i64 (z j k))) := Lib.hid (fun w' ht k hk => by rw [World.cell?_of_block (w := w) (a := ⟨lg, loff + (j * 4 + k), none⟩) (ht.block lg hlg (by simp))]; exact hrow j hjn k hk)
      have HZ3 : Hid (z j 3 ≤ 9223372036854775807) := Lib.hid (HZ.out j hjn 3 (by omega)).2
      clear hrow
      obtain ⟨_, _, _, _, htt⟩ := hth
      have c0 := HXr.out _ htt 0 (by omega)
      have c1 := HXr.out _ htt 1 (by omega)
      have c2 := HXr.out _ htt 2 (by omega)
      have c3 := HXr.out _ htt 3 (by omega)
      rw [Nat.add_zero] at c0
      rw [← Nat.add_assoc] at c1 c2 c3
      clear htt HXr
      go_wp2_with fail
      refine (aft_step (z j 0) (z j 1) (z j 2) (z j 3) HZ3.out HN.out HXX.out HTH.out).mono ?_
      rintro e w4 ⟨rfl, h1⟩
      have HTH := Lib.hid h1
      clear h1 c0 c1 c2 c3
      go_wp2_with fail
      refine (aft_same HN.out HTH.out).mono ?_
      rintro e w5 ⟨rfl, h1⟩
      have HTH := Lib.hid h1
      clear h1
      go_wp2
      go_roundw
      case rel => exact ⟨j + 1, by omega, by go_num, HTH.out⟩
      case measure => simp [intOf]; omega
    · have hlt : ¬ (j : Int) < (L : Int) := by omega
      clear hth
      go_wp2_with fail
      refine (awake_any _).mono ?_
      rintro e w9 ⟨rfl, ht⟩
      go_wp2
      go_ret
      obtain ⟨_, _, _, _, htt⟩ := HTH.out
      exact ⟨rfl, (htt.trans ht).below (Nat.le_refl _) (by simp)⟩
theorem plays_any (size : Int) (v : Value) (L : Nat) (z : Nat → Nat → Int) (w : World) (_ : (Lit.int .i64 size).wf = true) (hs : Slr w v L 4 z) (hz : ∀ i, i < L → ∀ j, j < 4 → InI (z i j)) (hm : L ≤ maxLen) :
    Calls Try.prog 3 #[.int .i64 size, v] w fun e w' => e = .returned (.bool true) ∧ Below w.heap.size w w' := by
  by_cases h : 60 < L ∨ size < 0 ∨ 60 < size
  · exact plays_out size v L z w hs hm h
  · obtain ⟨n, rfl⟩ : ∃ n : Nat, size = n := ⟨size.toNat, by omega⟩
    exact plays_in n v L z w hs hz (by omega) (by omega)
end Go.Proofs.Ytgljkjjanffncaa
