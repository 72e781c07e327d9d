/-
  Lists of events: whether they are alike, one by one, in both packages.
-/
import Derived.Test.YtgdpjkhkgdcfjaaDoorEB
import Derived.Test.YtgdpjkhkgdcfjaaDoorO
import Derived.Laws.StructEq
set_option linter.unusedVariables false
namespace Go.Proofs.YtgdpjkhkgdcfjaaDoor
open Go Go.RowKit

/-- Element i's cells. -/
theorem Slr.at5 {w : World} {a : Option Addr} {n cap : Nat} {z : Nat → Nat → Int} (h : Slr w (.slice a n cap) n 5 z) {i : Nat} (hi : i < n) : ∃ g off, a = some ⟨g, off, none⟩ ∧ ∀ w', Touch [] w w' →
    w'.cell? ⟨g, off + i * 5, none⟩ = some (.int .i64 (z i 0)) ∧ w'.cell? ⟨g, off + i * 5 + 1, none⟩ = some (.int .i64 (z i 1)) ∧ w'.cell? ⟨g, off + i * 5 + 2, none⟩ = some (.int .i64 (z i 2)) ∧ w'.cell? ⟨g, off + i * 5 + 3, none⟩ = some (.int .i64 (z i 3)) ∧ w'.cell? ⟨g, off + i * 5 + 4, none⟩ = some (.int .i64 (z i 4)) := by
  obtain ⟨a', cap', he, h⟩ := h
  cases he
  rcases h with h | ⟨g, off, rfl, hg, hc⟩
  · omega
  · refine ⟨g, off, rfl, fun w' ht => ?_⟩
    have hc' : ∀ j, j < 5 → w'.cell? ⟨g, off + (i * 5 + j), none⟩ = some (.int .i64 (z i j)) := fun j hj => by
      rw [World.cell?_of_block (w := w) (a := ⟨g, off + (i * 5 + j), none⟩) (ht.block g hg (by simp))]; exact hc i hi j hj
    have d0 := hc' 0 (by omega)
    have d1 := hc' 1 (by omega)
    have d2 := hc' 2 (by omega)
    have d3 := hc' 3 (by omega)
    have d4 := hc' 4 (by omega)
    rw [Nat.add_zero] at d0
    rw [← Nat.add_assoc] at d1 d2 d3 d4
    exact ⟨d0, d1, d2, d3, d4⟩
theorem Slr.touch {w w' : World} {v : Value} {n nf : Nat} {z : Nat → Nat → Int} (h : Slr w v n nf z) (ht : Touch [] w w') : Slr w' v n nf z := by
  obtain ⟨a, cap, rfl, h⟩ := h
  refine ⟨a, cap, rfl, ?_⟩
  rcases h with h | ⟨g, off, rfl, hg, hc⟩
  · exact .inl h
  · exact .inr ⟨g, off, rfl, Nat.lt_of_lt_of_le hg ht.size, fun i hi j hj => by
      rw [World.cell?_of_block (w := w) (a := ⟨g, off + (i * nf + j), none⟩) (ht.block g hg (by simp))]; exact hc i hi j hj⟩
theorem Slr.form {w : World} {v : Value} {n nf : Nat} {z : Nat → Nat → Int} (h : Slr w v n nf z) : ∃ a c, v = .slice a n c := by obtain ⟨a, c, h, _⟩ := h; exact ⟨a, c, h⟩
def eqE (z y : Nat → Nat → Int) (n : Nat) : Prop := ∀ i, i < n → ∀ j, j < 5 → z i j = y i j
instance (z y : Nat → Nat → Int) (n : Nat) : Decidable (eqE z y n) := by unfold eqE; exact inferInstance
def eqL (n m : Nat) (z y : Nat → Nat → Int) : Bool := decide (n = m ∧ eqE z y n)
theorem eqE_succ {z y : Nat → Nat → Int} {n : Nat} (h : eqE z y n) (hj : ∀ j, j < 5 → z n j = y n j) : eqE z y (n + 1) := fun i hi => by
  by_cases e : i = n
  · subst e; exact hj
  · exact h i (by omega)
def BoolP (b : Bool) (w : World) (e : Ending) (w' : World) : Prop := e = .returned (.bool b) ∧ Touch [] w w'
set_option maxHeartbeats 32000000 in
set_option maxRecDepth 100000 in
theorem equal_any (v u : Value) (n m : Nat) (z y : Nat → Nat → Int) (w : World) (hv : Slr w v n 5 z) (hu : Slr w u m 5 y) (hn : n ≤ 9223372036854775807) (hm : m ≤ 9223372036854775807) : Calls Tryd.prog 25 #[v, u] w (BoolP (eqL n m z y) w) := by
  obtain ⟨va, vc, rfl⟩ := hv.form
  obtain ⟨ua, uc, rfl⟩ := hu.form
  have HV := Lib.hid hv
  have HU := Lib.hid hu
  clear hv hu
  by_cases hnm : n = m
  · subst hnm
    have HL : Hid (eqE z y n → eqL n n z y = true) := Lib.hid (fun h => decide_eq_true ⟨rfl, h⟩)
    have HF : Hid (¬ eqE z y n → eqL n n z y = false) := Lib.hid (fun h => decide_eq_false (fun h2 => h h2.2))
    have hne : ((n : Int) != (n : Int)) = false := bneF rfl
    go_enter Tryd.func25, Tryd.ntmps25
    go_wp2
    go_loopw [13] (fun kv wr => ∃ k : Nat, k ≤ n ∧ kv = .int .i64 (k : Int) ∧ Touch [] w wr ∧ eqE z y k) (fun kv _ => n + 1 - (intOf kv).toNat)
    case atStart => exact ⟨0, by omega, rfl, Touch.refl _ _, fun i hi => by omega⟩
    case round =>
      obtain ⟨k, hk, rfl, ht, heq⟩ := hrel
      have HT := Lib.hid ht
      have HE := Lib.hid heq
      clear ht heq
      by_cases hlt : k < n
      · obtain ⟨g, off, hga, hc⟩ := HV.out.at5 hlt
        obtain ⟨g2, off2, hgb, hd⟩ := HU.out.at5 (i := k) (by omega)
        subst hga
        subst hgb
        obtain ⟨a0, ha0⟩ : ∃ x, z k 0 = x := ⟨_, rfl⟩
        obtain ⟨a1, ha1⟩ : ∃ x, z k 1 = x := ⟨_, rfl⟩
        obtain ⟨a2, ha2⟩ : ∃ x, z k 2 = x := ⟨_, rfl⟩
        obtain ⟨a3, ha3⟩ : ∃ x, z k 3 = x := ⟨_, rfl⟩
        obtain ⟨a4, ha4⟩ : ∃ x, z k 4 = x := ⟨_, rfl⟩
        obtain ⟨b0, hb0⟩ : ∃ x, y k 0 = x := ⟨_, rfl⟩
        obtain ⟨b1, hb1⟩ : ∃ x, y k 1 = x := ⟨_, rfl⟩
        obtain ⟨b2, hb2⟩ : ∃ x, y k 2 = x := ⟨_, rfl⟩
        obtain ⟨b3, hb3⟩ : ∃ x, y k 3 = x := ⟨_, rfl⟩
        obtain ⟨b4, hb4⟩ : ∃ x, y k 4 = x := ⟨_, rfl⟩
        rw [ha0, ha1, ha2, ha3, ha4] at hc
        rw [hb0, hb1, hb2, hb3, hb4] at hd
        have HC := Lib.hid hc
        have HD := Lib.hid hd
        have x0 : ∀ q : Later wr, q.world.cell? ⟨g, off + k * 5, none⟩ = some (.int .i64 a0) := fun q => (HC.out _ (HT.out.trans q.ok)).1
        have x1 : ∀ q : Later wr, q.world.cell? ⟨g, off + k * 5 + 1, none⟩ = some (.int .i64 a1) := fun q => (HC.out _ (HT.out.trans q.ok)).2.1
        have x2 : ∀ q : Later wr, q.world.cell? ⟨g, off + k * 5 + 2, none⟩ = some (.int .i64 a2) := fun q => (HC.out _ (HT.out.trans q.ok)).2.2.1
        have x3 : ∀ q : Later wr, q.world.cell? ⟨g, off + k * 5 + 3, none⟩ = some (.int .i64 a3) := fun q => (HC.out _ (HT.out.trans q.ok)).2.2.2.1
        have x4 : ∀ q : Later wr, q.world.cell? ⟨g, off + k * 5 + 4, none⟩ = some (.int .i64 a4) := fun q => (HC.out _ (HT.out.trans q.ok)).2.2.2.2
        have y0 : ∀ q : Later wr, q.world.cell? ⟨g2, off2 + k * 5, none⟩ = some (.int .i64 b0) := fun q => (HD.out _ (HT.out.trans q.ok)).1
        have y1 : ∀ q : Later wr, q.world.cell? ⟨g2, off2 + k * 5 + 1, none⟩ = some (.int .i64 b1) := fun q => (HD.out _ (HT.out.trans q.ok)).2.1
        have y2 : ∀ q : Later wr, q.world.cell? ⟨g2, off2 + k * 5 + 2, none⟩ = some (.int .i64 b2) := fun q => (HD.out _ (HT.out.trans q.ok)).2.2.1
        have y3 : ∀ q : Later wr, q.world.cell? ⟨g2, off2 + k * 5 + 3, none⟩ = some (.int .i64 b3) := fun q => (HD.out _ (HT.out.trans q.ok)).2.2.2.1
        have y4 : ∀ q : Later wr, q.world.cell? ⟨g2, off2 + k * 5 + 4, none⟩ = some (.int .i64 b4) := fun q => (HD.out _ (HT.out.trans q.ok)).2.2.2.2
        clear hc hd
        by_cases heq : a0 = b0 ∧ a1 = b1 ∧ a2 = b2 ∧ a3 = b3 ∧ a4 = b4
        · obtain ⟨e0, e1, e2, e3, e4⟩ := heq
          have HES : Hid (eqE z y (k + 1)) := Lib.hid (eqE_succ HE.out (fun j hj => by
            rcases (by omega : j = 0 ∨ j = 1 ∨ j = 2 ∨ j = 3 ∨ j = 4) with rfl | rfl | rfl | rfl | rfl
            · rw [ha0, hb0]; exact e0
            · rw [ha1, hb1]; exact e1
            · rw [ha2, hb2]; exact e2
            · rw [ha3, hb3]; exact e3
            · rw [ha4, hb4]; exact e4))
          clear ha0 ha1 ha2 ha3 ha4 hb0 hb1 hb2 hb3 hb4
          subst e0; subst e1; subst e2; subst e3; subst e4
          go_wp2_with fail
          refine wp_region_later (by kernel_rfl) (by kernel_rfl) ?_
          repeat (first
            | (go_big_quiet_step ((with_reducible rfl)))
            | (quiet_step (fail)))
          refine wpQuiet_nil ?_
          intro wq hw'
          obtain ⟨⟨wq', hwq⟩, hwe⟩ := hw'
          have hwe : wq = wq' := hwe
          subst hwe
          have HTn := Lib.hid (HT.out.trans hwq)
          clear hwe hwq x0 x1 x2 x3 x4 y0 y1 y2 y3 y4
          go_wp2
          go_roundw
          case rel => exact ⟨k + 1, by omega, by go_num, HTn.out, HES.out⟩
          case measure => simp [intOf] <;> omega
        · have HQ : Hid (eqL n n z y = false) := Lib.hid (HF.out (fun h => heq ⟨by rw [← ha0, ← hb0]; exact h k hlt 0 (by omega), by rw [← ha1, ← hb1]; exact h k hlt 1 (by omega), by rw [← ha2, ← hb2]; exact h k hlt 2 (by omega), by rw [← ha3, ← hb3]; exact h k hlt 3 (by omega), by rw [← ha4, ← hb4]; exact h k hlt 4 (by omega)⟩))
          clear ha0 ha1 ha2 ha3 ha4 hb0 hb1 hb2 hb3 hb4
          rcases (by
            by_cases e0 : a0 = b0
            · by_cases e1 : a1 = b1
              · by_cases e2 : a2 = b2
                · by_cases e3 : a3 = b3
                  · exact .inr (.inr (.inr (.inr ⟨e0, e1, e2, e3, beqF (fun e4 => heq ⟨e0, e1, e2, e3, e4⟩)⟩)))
                  · exact .inr (.inr (.inr (.inl ⟨e0, e1, e2, beqF e3⟩)))
                · exact .inr (.inr (.inl ⟨e0, e1, beqF e2⟩))
              · exact .inr (.inl ⟨e0, beqF e1⟩)
            · exact .inl (beqF e0) : (a0 == b0) = false ∨ (a0 = b0 ∧ (a1 == b1) = false) ∨ (a0 = b0 ∧ a1 = b1 ∧ (a2 == b2) = false) ∨ (a0 = b0 ∧ a1 = b1 ∧ a2 = b2 ∧ (a3 == b3) = false) ∨ (a0 = b0 ∧ a1 = b1 ∧ a2 = b2 ∧ a3 = b3 ∧ (a4 == b4) = false)) with d | ⟨rfl, d⟩ | ⟨rfl, rfl, d⟩ | ⟨rfl, rfl, rfl, d⟩ | ⟨rfl, rfl, rfl, rfl, d⟩
          all_goals
            clear heq
            go_wp2_with fail
            refine wp_region_later (by kernel_rfl) (by kernel_rfl) ?_
            repeat (first
              | (go_big_quiet_step ((with_reducible rfl)))
              | (quiet_step (fail)))
            refine wpQuiet_nil ?_
            intro wq hw'
            obtain ⟨⟨wq', hwq⟩, hwe⟩ := hw'
            have hwe : wq = wq' := hwe
            subst hwe
            have HTn := Lib.hid (HT.out.trans hwq)
            clear hwe hwq x0 x1 x2 x3 x4 y0 y1 y2 y3 y4
            go_wp2
            go_ret
            exact ⟨by rw [HQ.out]; rfl, HTn.out⟩
      · obtain rfl : k = n := by omega
        have HQ : Hid (eqL k k z y = true) := Lib.hid (HL.out HE.out)
        go_wp2
        go_ret
        exact ⟨by rw [HQ.out]; rfl, HT.out⟩
  · have HQ : Hid (eqL n m z y = false) := Lib.hid (decide_eq_false (fun h => hnm h.1))
    have hne : ((n : Int) != (m : Int)) = true := bneT (by omega)
    clear hnm
    go_enter Tryd.func25, Tryd.ntmps25
    go_wp2
    go_ret
    exact ⟨by rw [HQ.out]; rfl, Touch.refl _ _⟩
def preL (n m : Nat) (z y : Nat → Nat → Int) : Bool := decide (n ≤ m ∧ eqE z y n)
set_option maxHeartbeats 32000000 in
set_option maxRecDepth 100000 in
theorem rprefix_any (v u : Value) (n m : Nat) (z y : Nat → Nat → Int) (w : World) (hv : Slr w v n 5 z) (hu : Slr w u m 5 y) (hn : n ≤ 9223372036854775807) (hm : m ≤ 9223372036854775807) : Calls Tryd.prog 16 #[v, u] w (BoolP (preL n m z y) w) := by
  obtain ⟨va, vc, rfl⟩ := hv.form
  obtain ⟨ua, uc, rfl⟩ := hu.form
  have HV := Lib.hid hv
  have HU := Lib.hid hu
  clear hv hu
  by_cases hnm : n ≤ m
  · have HL : Hid (eqE z y n → preL n m z y = true) := Lib.hid (fun h => decide_eq_true ⟨hnm, h⟩)
    have HF : Hid (¬ eqE z y n → preL n m z y = false) := Lib.hid (fun h => decide_eq_false (fun h2 => h h2.2))
    have hne : decide ((m : Int) < (n : Int)) = false := dF (by omega)
    have hne2 : decide (m < n) = false := dF (by omega)
    go_enter Tryd.func16, Tryd.ntmps16
    go_wp2
    go_loopw [5] (fun kv wr => ∃ k : Nat, k ≤ n ∧ kv = .int .i64 (k : Int) ∧ Touch [] w wr ∧ eqE z y k) (fun kv _ => n + 1 - (intOf kv).toNat)
    case atStart => exact ⟨0, by omega, rfl, Touch.refl _ _, fun i hi => by omega⟩
    case round =>
      obtain ⟨k, hk, rfl, ht, heq⟩ := hrel
      have HT := Lib.hid ht
      have HE := Lib.hid heq
      clear ht heq
      by_cases hlt : k < n
      · obtain ⟨g, off, hga, hc⟩ := HV.out.at5 hlt
        obtain ⟨g2, off2, hgb, hd⟩ := HU.out.at5 (i := k) (by omega)
        subst hga
        subst hgb
        obtain ⟨a0, ha0⟩ : ∃ x, z k 0 = x := ⟨_, rfl⟩
        obtain ⟨a1, ha1⟩ : ∃ x, z k 1 = x := ⟨_, rfl⟩
        obtain ⟨a2, ha2⟩ : ∃ x, z k 2 = x := ⟨_, rfl⟩
        obtain ⟨a3, ha3⟩ : ∃ x, z k 3 = x := ⟨_, rfl⟩
        obtain ⟨a4, ha4⟩ : ∃ x, z k 4 = x := ⟨_, rfl⟩
        obtain ⟨b0, hb0⟩ : ∃ x, y k 0 = x := ⟨_, rfl⟩
        obtain ⟨b1, hb1⟩ : ∃ x, y k 1 = x := ⟨_, rfl⟩
        obtain ⟨b2, hb2⟩ : ∃ x, y k 2 = x := ⟨_, rfl⟩
        obtain ⟨b3, hb3⟩ : ∃ x, y k 3 = x := ⟨_, rfl⟩
        obtain ⟨b4, hb4⟩ : ∃ x, y k 4 = x := ⟨_, rfl⟩
        rw [ha0, ha1, ha2, ha3, ha4] at hc
        rw [hb0, hb1, hb2, hb3, hb4] at hd
        have HC := Lib.hid hc
        have HD := Lib.hid hd
        have x0 : ∀ q : Later wr, q.world.cell? ⟨g, off + k * 5, none⟩ = some (.int .i64 a0) := fun q => (HC.out _ (HT.out.trans q.ok)).1
        have x1 : ∀ q : Later wr, q.world.cell? ⟨g, off + k * 5 + 1, none⟩ = some (.int .i64 a1) := fun q => (HC.out _ (HT.out.trans q.ok)).2.1
        have x2 : ∀ q : Later wr, q.world.cell? ⟨g, off + k * 5 + 2, none⟩ = some (.int .i64 a2) := fun q => (HC.out _ (HT.out.trans q.ok)).2.2.1
        have x3 : ∀ q : Later wr, q.world.cell? ⟨g, off + k * 5 + 3, none⟩ = some (.int .i64 a3) := fun q => (HC.out _ (HT.out.trans q.ok)).2.2.2.1
        have x4 : ∀ q : Later wr, q.world.cell? ⟨g, off + k * 5 + 4, none⟩ = some (.int .i64 a4) := fun q => (HC.out _ (HT.out.trans q.ok)).2.2.2.2
        have y0 : ∀ q : Later wr, q.world.cell? ⟨g2, off2 + k * 5, none⟩ = some (.int .i64 b0) := fun q => (HD.out _ (HT.out.trans q.ok)).1
        have y1 : ∀ q : Later wr, q.world.cell? ⟨g2, off2 + k * 5 + 1, none⟩ = some (.int .i64 b1) := fun q => (HD.out _ (HT.out.trans q.ok)).2.1
        have y2 : ∀ q : Later wr, q.world.cell? ⟨g2, off2 + k * 5 + 2, none⟩ = some (.int .i64 b2) := fun q => (HD.out _ (HT.out.trans q.ok)).2.2.1
        have y3 : ∀ q : Later wr, q.world.cell? ⟨g2, off2 + k * 5 + 3, none⟩ = some (.int .i64 b3) := fun q => (HD.out _ (HT.out.trans q.ok)).2.2.2.1
        have y4 : ∀ q : Later wr, q.world.cell? ⟨g2, off2 + k * 5 + 4, none⟩ = some (.int .i64 b4) := fun q => (HD.out _ (HT.out.trans q.ok)).2.2.2.2
        clear hc hd
        by_cases heq : a0 = b0 ∧ a1 = b1 ∧ a2 = b2 ∧ a3 = b3 ∧ a4 = b4
        · obtain ⟨e0, e1, e2, e3, e4⟩ := heq
          have HES : Hid (eqE z y (k + 1)) := Lib.hid (eqE_succ HE.out (fun j hj => by
            rcases (by omega : j = 0 ∨ j = 1 ∨ j = 2 ∨ j = 3 ∨ j = 4) with rfl | rfl | rfl | rfl | rfl
            · rw [ha0, hb0]; exact e0
            · rw [ha1, hb1]; exact e1
            · rw [ha2, hb2]; exact e2
            · rw [ha3, hb3]; exact e3
            · rw [ha4, hb4]; exact e4))
          clear ha0 ha1 ha2 ha3 ha4 hb0 hb1 hb2 hb3 hb4
          subst e0; subst e1; subst e2; subst e3; subst e4
          go_wp2_with fail
          refine wp_region_later (by kernel_rfl) (by kernel_rfl) ?_
          repeat (first
            | (go_big_quiet_step ((with_reducible rfl)))
            | (quiet_step (fail)))
          refine wpQuiet_nil ?_
          intro wq hw'
          obtain ⟨⟨wq', hwq⟩, hwe⟩ := hw'
          have hwe : wq = wq' := hwe
          subst hwe
          have HTn := Lib.hid (HT.out.trans hwq)
          clear hwe hwq x0 x1 x2 x3 x4 y0 y1 y2 y3 y4
          go_wp2
          go_roundw
          case rel => exact ⟨k + 1, by omega, by go_num, HTn.out, HES.out⟩
          case measure => simp [intOf] <;> omega
        · have HQ : Hid (preL n m z y = false) := Lib.hid (HF.out (fun h => heq ⟨by rw [← ha0, ← hb0]; exact h k hlt 0 (by omega), by rw [← ha1, ← hb1]; exact h k hlt 1 (by omega), by rw [← ha2, ← hb2]; exact h k hlt 2 (by omega), by rw [← ha3, ← hb3]; exact h k hlt 3 (by omega), by rw [← ha4, ← hb4]; exact h k hlt 4 (by omega)⟩))
          clear ha0 ha1 ha2 ha3 ha4 hb0 hb1 hb2 hb3 hb4
          rcases (by
            by_cases e0 : a0 = b0
            · by_cases e1 : a1 = b1
              · by_cases e2 : a2 = b2
                · by_cases e3 : a3 = b3
                  · exact .inr (.inr (.inr (.inr ⟨e0, e1, e2, e3, beqF (fun e4 => heq ⟨e0, e1, e2, e3, e4⟩)⟩)))
                  · exact .inr (.inr (.inr (.inl ⟨e0, e1, e2, beqF e3⟩)))
                · exact .inr (.inr (.inl ⟨e0, e1, beqF e2⟩))
              · exact .inr (.inl ⟨e0, beqF e1⟩)
            · exact .inl (beqF e0) : (a0 == b0) = false ∨ (a0 = b0 ∧ (a1 == b1) = false) ∨ (a0 = b0 ∧ a1 = b1 ∧ (a2 == b2) = false) ∨ (a0 = b0 ∧ a1 = b1 ∧ a2 = b2 ∧ (a3 == b3) = false) ∨ (a0 = b0 ∧ a1 = b1 ∧ a2 = b2 ∧ a3 = b3 ∧ (a4 == b4) = false)) with d | ⟨rfl, d⟩ | ⟨rfl, rfl, d⟩ | ⟨rfl, rfl, rfl, d⟩ | ⟨rfl, rfl, rfl, rfl, d⟩
          all_goals
            clear heq
            go_wp2_with fail
            refine wp_region_later (by kernel_rfl) (by kernel_rfl) ?_
            repeat (first
              | (go_big_quiet_step ((with_reducible rfl)))
              | (quiet_step (fail)))
            refine wpQuiet_nil ?_
            intro wq hw'
            obtain ⟨⟨wq', hwq⟩, hwe⟩ := hw'
            have hwe : wq = wq' := hwe
            subst hwe
            have HTn := Lib.hid (HT.out.trans hwq)
            clear hwe hwq x0 x1 x2 x3 x4 y0 y1 y2 y3 y4
            go_wp2
            go_ret
            exact ⟨by rw [HQ.out]; rfl, HTn.out⟩
      · obtain rfl : k = n := by omega
        have HQ : Hid (preL k m z y = true) := Lib.hid (HL.out HE.out)
        go_wp2
        go_ret
        exact ⟨by rw [HQ.out]; rfl, HT.out⟩
  · have HQ : Hid (preL n m z y = false) := Lib.hid (decide_eq_false (fun h => hnm h.1))
    have hne : decide ((m : Int) < (n : Int)) = true := dT (by omega)
    have hne2 : decide (m < n) = true := dT (by omega)
    clear hnm
    go_enter Tryd.func16, Tryd.ntmps16
    go_wp2
    go_ret
    exact ⟨by rw [HQ.out]; rfl, Touch.refl _ _⟩
end Go.Proofs.YtgdpjkhkgdcfjaaDoor
