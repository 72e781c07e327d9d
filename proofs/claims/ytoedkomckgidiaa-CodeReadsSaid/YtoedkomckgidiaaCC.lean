/-
  Slices of structs of numbers, read; whether two are alike.
-/
import Derived.Test.YtoedkomckgidiaaCB
import Derived.Test.YtoedkomckgidiaaR
import Derived.Test.YtoedkomckgidiaaO
import Derived.Test.YtoedkomckgidiaaRows
import Derived.Laws.StructEq
set_option linter.unusedVariables false
namespace Go.Proofs.Ytoedkomckgidiaa
open Go Go.RowKit

theorem Slr.touch {w w' : World} {v : Value} {n nf : Nat} {z : Nat → Nat → Int} (h : Slr w v n nf z) (ht : Touch [] w w') : Slr w' v n nf z := by
  obtain ⟨a, cap, rfl, h⟩ := h
  refine ⟨a, cap, rfl, ?_⟩
  rcases h with h | ⟨g, off, rfl, hg, hc⟩
  · exact .inl h
  · exact .inr ⟨g, off, rfl, Nat.lt_of_lt_of_le hg ht.size, fun i hi j hj => by
      rw [World.cell?_of_block (w := w) (a := ⟨g, off + (i * nf + j), none⟩) (ht.block g hg (by simp))]; exact hc i hi j hj⟩
theorem Slr.form {w : World} {v : Value} {n nf : Nat} {z : Nat → Nat → Int} (h : Slr w v n nf z) : ∃ a c, v = .slice a n c := by obtain ⟨a, c, h, _⟩ := h; exact ⟨a, c, h⟩
/-- One number's place, and the number. -/
theorem Slr.ix {w : World} {a : Option Addr} {n cap nf : Nat} {z : Nat → Nat → Int} (h : Slr w (.slice a n cap) n nf z) {i : Nat} (hi : i < n) : ∃ g off, a = some ⟨g, off, none⟩ ∧ ∀ w', Touch [] w w' → ∀ j, j < nf → w'.cell? ⟨g, off + (i * nf + j), none⟩ = some (.int .i64 (z i j)) := by
  obtain ⟨a', cap', he, h⟩ := h
  cases he
  rcases h with h | ⟨g, off, rfl, hg, hc⟩
  · omega
  · exact ⟨g, off, rfl, fun w' ht j hj => by
      rw [World.cell?_of_block (w := w) (a := ⟨g, off + (i * nf + j), none⟩) (ht.block g hg (by simp))]; exact hc i hi j hj⟩
def eqE (k : Nat) (z y : Nat → Nat → Int) (n : Nat) : Prop := ∀ i, i < n → ∀ j, j < k → z i j = y i j
instance (k : Nat) (z y : Nat → Nat → Int) (n : Nat) : Decidable (eqE k z y n) := by unfold eqE; exact inferInstance
def eqL (k n m : Nat) (z y : Nat → Nat → Int) : Bool := decide (n = m ∧ eqE k z y n)
theorem eqE_succ {k : Nat} {z y : Nat → Nat → Int} {n : Nat} (h : eqE k z y n) (hj : ∀ j, j < k → z n j = y n j) : eqE k z y (n + 1) := fun i hi => by
  by_cases e : i = n
  · subst e; exact hj
  · exact h i (by omega)
def BoolP (b : Bool) (w : World) (e : Ending) (w' : World) : Prop := e = .returned (.bool b) ∧ Touch [] w w'
theorem Slr.at2 {w : World} {a : Option Addr} {n cap : Nat} {z : Nat → Nat → Int} (h : Slr w (.slice a n cap) n 2 z) {i : Nat} (hi : i < n) : ∃ g off, a = some ⟨g, off, none⟩ ∧ ∀ w', Touch [] w w' →
    w'.cell? ⟨g, off + i * 2, none⟩ = some (.int .i64 (z i 0)) ∧ w'.cell? ⟨g, off + i * 2 + 1, none⟩ = some (.int .i64 (z i 1)) := by
  obtain ⟨g, off, rfl, hc⟩ := h.ix hi
  refine ⟨g, off, rfl, fun w' ht => ?_⟩
  have d0 := hc w' ht 0 (by omega)
  have d1 := hc w' ht 1 (by omega)
  rw [Nat.add_zero] at d0
  rw [← Nat.add_assoc] at d1
  exact ⟨d0, d1⟩
theorem Slr.at3 {w : World} {a : Option Addr} {n cap : Nat} {z : Nat → Nat → Int} (h : Slr w (.slice a n cap) n 3 z) {i : Nat} (hi : i < n) : ∃ g off, a = some ⟨g, off, none⟩ ∧ ∀ w', Touch [] w w' →
    w'.cell? ⟨g, off + i * 3, none⟩ = some (.int .i64 (z i 0)) ∧ w'.cell? ⟨g, off + i * 3 + 1, none⟩ = some (.int .i64 (z i 1)) ∧ w'.cell? ⟨g, off + i * 3 + 2, none⟩ = some (.int .i64 (z i 2)) := by
  obtain ⟨g, off, rfl, hc⟩ := h.ix hi
  refine ⟨g, off, rfl, fun w' ht => ?_⟩
  have d0 := hc w' ht 0 (by omega)
  have d1 := hc w' ht 1 (by omega)
  have d2 := hc w' ht 2 (by omega)
  rw [Nat.add_zero] at d0
  rw [← Nat.add_assoc] at d1 d2
  exact ⟨d0, d1, d2⟩
set_option maxHeartbeats 32000000 in
set_option maxRecDepth 100000 in
theorem equal_instr (v u : Value) (n m : Nat) (z y : Nat → Nat → Int) (w : World) (hv : Slr w v n 3 z) (hu : Slr w u m 3 y) (hn : n ≤ 9223372036854775807) (hm : m ≤ 9223372036854775807) : Calls Try.prog 49 #[v, u] w (BoolP (eqL 3 n m z y) w) := by
  obtain ⟨va, vc, rfl⟩ := hv.form
  obtain ⟨ua, uc, rfl⟩ := hu.form
  have HV := Lib.hid hv
  have HU := Lib.hid hu
  clear hv hu
  by_cases hnm : n = m
  · subst hnm
    have HL : Hid (eqE 3 z y n → eqL 3 n n z y = true) := Lib.hid (fun h => decide_eq_true ⟨rfl, h⟩)
    have HF : Hid (¬ eqE 3 z y n → eqL 3 n n z y = false) := Lib.hid (fun h => decide_eq_false (fun h2 => h h2.2))
    have hne : ((n : Int) != (n : Int)) = false := bneF rfl
    go_enter Try.func49, Try.ntmps49
    go_wp2
    go_loopw [13] (fun kv wr => ∃ k : Nat, k ≤ n ∧ kv = .int .i64 (k : Int) ∧ Touch [] w wr ∧ eqE 3 z y k) (fun kv _ => n + 1 - (intOf kv).toNat)
    case atStart => exact ⟨0, by omega, rfl, Touch.refl _ _, fun i hi => by omega⟩
    case round =>
      obtain ⟨k, hk, rfl, ht, heq⟩ := hrel
      have HT := Lib.hid ht
      have HE := Lib.hid heq
      clear ht heq
      by_cases hlt : k < n
      · obtain ⟨g, off, hga, hc⟩ := HV.out.at3 hlt
        obtain ⟨g2, off2, hgb, hd⟩ := HU.out.at3 (i := k) (by omega)
        subst hga
        subst hgb
        obtain ⟨a0, ha0⟩ : ∃ x, z k 0 = x := ⟨_, rfl⟩
        obtain ⟨a1, ha1⟩ : ∃ x, z k 1 = x := ⟨_, rfl⟩
        obtain ⟨a2, ha2⟩ : ∃ x, z k 2 = x := ⟨_, rfl⟩
        obtain ⟨b0, hb0⟩ : ∃ x, y k 0 = x := ⟨_, rfl⟩
        obtain ⟨b1, hb1⟩ : ∃ x, y k 1 = x := ⟨_, rfl⟩
        obtain ⟨b2, hb2⟩ : ∃ x, y k 2 = x := ⟨_, rfl⟩
        rw [ha0, ha1, ha2] at hc
        rw [hb0, hb1, hb2] at hd
        have HC := Lib.hid hc
        have HD := Lib.hid hd
        have x0 : ∀ q : Later wr, q.world.cell? ⟨g, off + k * 3, none⟩ = some (.int .i64 a0) := fun q => (HC.out _ (HT.out.trans q.ok)).1
        have x1 : ∀ q : Later wr, q.world.cell? ⟨g, off + k * 3 + 1, none⟩ = some (.int .i64 a1) := fun q => (HC.out _ (HT.out.trans q.ok)).2.1
        have x2 : ∀ q : Later wr, q.world.cell? ⟨g, off + k * 3 + 2, none⟩ = some (.int .i64 a2) := fun q => (HC.out _ (HT.out.trans q.ok)).2.2
        have y0 : ∀ q : Later wr, q.world.cell? ⟨g2, off2 + k * 3, none⟩ = some (.int .i64 b0) := fun q => (HD.out _ (HT.out.trans q.ok)).1
        have y1 : ∀ q : Later wr, q.world.cell? ⟨g2, off2 + k * 3 + 1, none⟩ = some (.int .i64 b1) := fun q => (HD.out _ (HT.out.trans q.ok)).2.1
        have y2 : ∀ q : Later wr, q.world.cell? ⟨g2, off2 + k * 3 + 2, none⟩ = some (.int .i64 b2) := fun q => (HD.out _ (HT.out.trans q.ok)).2.2
        clear hc hd
        by_cases heq : a0 = b0 ∧ a1 = b1 ∧ a2 = b2
        · obtain ⟨e0, e1, e2⟩ := heq
          have HES : Hid (eqE 3 z y (k + 1)) := Lib.hid (eqE_succ HE.out (fun j hj => by
            rcases (by omega : j = 0 ∨ j = 1 ∨ j = 2) with rfl | rfl | rfl
            · rw [ha0, hb0]; exact e0
            · rw [ha1, hb1]; exact e1
            · rw [ha2, hb2]; exact e2))
          clear ha0 ha1 ha2 hb0 hb1 hb2
          subst e0; subst e1; subst e2
          go_wp2_with fail
          refine wp_region_later (by kernel_rfl) (by kernel_rfl) ?_
          repeat (first
            | (go_big_quiet_step ((with_reducible rfl)))
            | (quiet_step (fail)))
          refine wpQuiet_nil ?_
          intro wq hw'
          obtain ⟨⟨wq', hwq⟩, hwe⟩ := hw'
          have hwe : wq = wq' := hwe
          subst hwe
          have HTn := Lib.hid (HT.out.trans hwq)
          clear hwe hwq x0 x1 x2 y0 y1 y2
          go_wp2
          go_roundw
          case rel => exact ⟨k + 1, by omega, by go_num, HTn.out, HES.out⟩
          case measure => simp [intOf] <;> omega
        · have HQ : Hid (eqL 3 n n z y = false) := Lib.hid (HF.out (fun h => heq ⟨by rw [← ha0, ← hb0]; exact h k hlt 0 (by omega), by rw [← ha1, ← hb1]; exact h k hlt 1 (by omega), by rw [← ha2, ← hb2]; exact h k hlt 2 (by omega)⟩))
          clear ha0 ha1 ha2 hb0 hb1 hb2
          rcases (by
            by_cases e0 : a0 = b0
            · by_cases e1 : a1 = b1
              · exact .inr (.inr (⟨e0, e1, beqF (fun e2 => heq ⟨e0, e1, e2⟩)⟩))
              · exact .inr (.inl (⟨e0, beqF e1⟩))
            · exact .inl (beqF e0) : ((a0 == b0) = false) ∨ (a0 = b0 ∧ (a1 == b1) = false) ∨ (a0 = b0 ∧ a1 = b1 ∧ (a2 == b2) = false)) with d | ⟨rfl, d⟩ | ⟨rfl, rfl, d⟩
          all_goals
            clear heq
            go_wp2_with fail
            refine wp_region_later (by kernel_rfl) (by kernel_rfl) ?_
            repeat (first
              | (go_big_quiet_step ((with_reducible rfl)))
              | (quiet_step (fail)))
            refine wpQuiet_nil ?_
            intro wq hw'
            obtain ⟨⟨wq', hwq⟩, hwe⟩ := hw'
            have hwe : wq = wq' := hwe
            subst hwe
            have HTn := Lib.hid (HT.out.trans hwq)
            clear hwe hwq x0 x1 x2 y0 y1 y2
            go_wp2
            go_ret
            exact ⟨by rw [HQ.out]; rfl, HTn.out⟩
      · obtain rfl : k = n := by omega
        have HQ : Hid (eqL 3 k k z y = true) := Lib.hid (HL.out HE.out)
        go_wp2
        go_ret
        exact ⟨by rw [HQ.out]; rfl, HT.out⟩
  · have HQ : Hid (eqL 3 n m z y = false) := Lib.hid (decide_eq_false (fun h => hnm h.1))
    have hne : ((n : Int) != (m : Int)) = true := bneT (by omega)
    clear hnm
    go_enter Try.func49, Try.ntmps49
    go_wp2
    go_ret
    exact ⟨by rw [HQ.out]; rfl, Touch.refl _ _⟩
set_option maxHeartbeats 32000000 in
set_option maxRecDepth 100000 in
theorem equal_entry (v u : Value) (n m : Nat) (z y : Nat → Nat → Int) (w : World) (hv : Slr w v n 3 z) (hu : Slr w u m 3 y) (hn : n ≤ 9223372036854775807) (hm : m ≤ 9223372036854775807) : Calls Try.prog 50 #[v, u] w (BoolP (eqL 3 n m z y) w) := by
  obtain ⟨va, vc, rfl⟩ := hv.form
  obtain ⟨ua, uc, rfl⟩ := hu.form
  have HV := Lib.hid hv
  have HU := Lib.hid hu
  clear hv hu
  by_cases hnm : n = m
  · subst hnm
    have HL : Hid (eqE 3 z y n → eqL 3 n n z y = true) := Lib.hid (fun h => decide_eq_true ⟨rfl, h⟩)
    have HF : Hid (¬ eqE 3 z y n → eqL 3 n n z y = false) := Lib.hid (fun h => decide_eq_false (fun h2 => h h2.2))
    have hne : ((n : Int) != (n : Int)) = false := bneF rfl
    go_enter Try.func50, Try.ntmps50
    go_wp2
    go_loopw [13] (fun kv wr => ∃ k : Nat, k ≤ n ∧ kv = .int .i64 (k : Int) ∧ Touch [] w wr ∧ eqE 3 z y k) (fun kv _ => n + 1 - (intOf kv).toNat)
    case atStart => exact ⟨0, by omega, rfl, Touch.refl _ _, fun i hi => by omega⟩
    case round =>
      obtain ⟨k, hk, rfl, ht, heq⟩ := hrel
      have HT := Lib.hid ht
      have HE := Lib.hid heq
      clear ht heq
      by_cases hlt : k < n
      · obtain ⟨g, off, hga, hc⟩ := HV.out.at3 hlt
        obtain ⟨g2, off2, hgb, hd⟩ := HU.out.at3 (i := k) (by omega)
        subst hga
        subst hgb
        obtain ⟨a0, ha0⟩ : ∃ x, z k 0 = x := ⟨_, rfl⟩
        obtain ⟨a1, ha1⟩ : ∃ x, z k 1 = x := ⟨_, rfl⟩
        obtain ⟨a2, ha2⟩ : ∃ x, z k 2 = x := ⟨_, rfl⟩
        obtain ⟨b0, hb0⟩ : ∃ x, y k 0 = x := ⟨_, rfl⟩
        obtain ⟨b1, hb1⟩ : ∃ x, y k 1 = x := ⟨_, rfl⟩
        obtain ⟨b2, hb2⟩ : ∃ x, y k 2 = x := ⟨_, rfl⟩
        rw [ha0, ha1, ha2] at hc
        rw [hb0, hb1, hb2] at hd
        have HC := Lib.hid hc
        have HD := Lib.hid hd
        have x0 : ∀ q : Later wr, q.world.cell? ⟨g, off + k * 3, none⟩ = some (.int .i64 a0) := fun q => (HC.out _ (HT.out.trans q.ok)).1
        have x1 : ∀ q : Later wr, q.world.cell? ⟨g, off + k * 3 + 1, none⟩ = some (.int .i64 a1) := fun q => (HC.out _ (HT.out.trans q.ok)).2.1
        have x2 : ∀ q : Later wr, q.world.cell? ⟨g, off + k * 3 + 2, none⟩ = some (.int .i64 a2) := fun q => (HC.out _ (HT.out.trans q.ok)).2.2
        have y0 : ∀ q : Later wr, q.world.cell? ⟨g2, off2 + k * 3, none⟩ = some (.int .i64 b0) := fun q => (HD.out _ (HT.out.trans q.ok)).1
        have y1 : ∀ q : Later wr, q.world.cell? ⟨g2, off2 + k * 3 + 1, none⟩ = some (.int .i64 b1) := fun q => (HD.out _ (HT.out.trans q.ok)).2.1
        have y2 : ∀ q : Later wr, q.world.cell? ⟨g2, off2 + k * 3 + 2, none⟩ = some (.int .i64 b2) := fun q => (HD.out _ (HT.out.trans q.ok)).2.2
        clear hc hd
        by_cases heq : a0 = b0 ∧ a1 = b1 ∧ a2 = b2
        · obtain ⟨e0, e1, e2⟩ := heq
          have HES : Hid (eqE 3 z y (k + 1)) := Lib.hid (eqE_succ HE.out (fun j hj => by
            rcases (by omega : j = 0 ∨ j = 1 ∨ j = 2) with rfl | rfl | rfl
            · rw [ha0, hb0]; exact e0
            · rw [ha1, hb1]; exact e1
            · rw [ha2, hb2]; exact e2))
          clear ha0 ha1 ha2 hb0 hb1 hb2
          subst e0; subst e1; subst e2
          go_wp2_with fail
          refine wp_region_later (by kernel_rfl) (by kernel_rfl) ?_
          repeat (first
            | (go_big_quiet_step ((with_reducible rfl)))
            | (quiet_step (fail)))
          refine wpQuiet_nil ?_
          intro wq hw'
          obtain ⟨⟨wq', hwq⟩, hwe⟩ := hw'
          have hwe : wq = wq' := hwe
          subst hwe
          have HTn := Lib.hid (HT.out.trans hwq)
          clear hwe hwq x0 x1 x2 y0 y1 y2
          go_wp2
          go_roundw
          case rel => exact ⟨k + 1, by omega, by go_num, HTn.out, HES.out⟩
          case measure => simp [intOf] <;> omega
        · have HQ : Hid (eqL 3 n n z y = false) := Lib.hid (HF.out (fun h => heq ⟨by rw [← ha0, ← hb0]; exact h k hlt 0 (by omega), by rw [← ha1, ← hb1]; exact h k hlt 1 (by omega), by rw [← ha2, ← hb2]; exact h k hlt 2 (by omega)⟩))
          clear ha0 ha1 ha2 hb0 hb1 hb2
          rcases (by
            by_cases e0 : a0 = b0
            · by_cases e1 : a1 = b1
              · exact .inr (.inr (⟨e0, e1, beqF (fun e2 => heq ⟨e0, e1, e2⟩)⟩))
              · exact .inr (.inl (⟨e0, beqF e1⟩))
            · exact .inl (beqF e0) : ((a0 == b0) = false) ∨ (a0 = b0 ∧ (a1 == b1) = false) ∨ (a0 = b0 ∧ a1 = b1 ∧ (a2 == b2) = false)) with d | ⟨rfl, d⟩ | ⟨rfl, rfl, d⟩
          all_goals
            clear heq
            go_wp2_with fail
            refine wp_region_later (by kernel_rfl) (by kernel_rfl) ?_
            repeat (first
              | (go_big_quiet_step ((with_reducible rfl)))
              | (quiet_step (fail)))
            refine wpQuiet_nil ?_
            intro wq hw'
            obtain ⟨⟨wq', hwq⟩, hwe⟩ := hw'
            have hwe : wq = wq' := hwe
            subst hwe
            have HTn := Lib.hid (HT.out.trans hwq)
            clear hwe hwq x0 x1 x2 y0 y1 y2
            go_wp2
            go_ret
            exact ⟨by rw [HQ.out]; rfl, HTn.out⟩
      · obtain rfl : k = n := by omega
        have HQ : Hid (eqL 3 k k z y = true) := Lib.hid (HL.out HE.out)
        go_wp2
        go_ret
        exact ⟨by rw [HQ.out]; rfl, HT.out⟩
  · have HQ : Hid (eqL 3 n m z y = false) := Lib.hid (decide_eq_false (fun h => hnm h.1))
    have hne : ((n : Int) != (m : Int)) = true := bneT (by omega)
    clear hnm
    go_enter Try.func50, Try.ntmps50
    go_wp2
    go_ret
    exact ⟨by rw [HQ.out]; rfl, Touch.refl _ _⟩
set_option maxHeartbeats 32000000 in
set_option maxRecDepth 100000 in
theorem equal_cell (v u : Value) (n m : Nat) (z y : Nat → Nat → Int) (w : World) (hv : Slr w v n 2 z) (hu : Slr w u m 2 y) (hn : n ≤ 9223372036854775807) (hm : m ≤ 9223372036854775807) : Calls Try.prog 51 #[v, u] w (BoolP (eqL 2 n m z y) w) := by
  obtain ⟨va, vc, rfl⟩ := hv.form
  obtain ⟨ua, uc, rfl⟩ := hu.form
  have HV := Lib.hid hv
  have HU := Lib.hid hu
  clear hv hu
  by_cases hnm : n = m
  · subst hnm
    have HL : Hid (eqE 2 z y n → eqL 2 n n z y = true) := Lib.hid (fun h => decide_eq_true ⟨rfl, h⟩)
    have HF : Hid (¬ eqE 2 z y n → eqL 2 n n z y = false) := Lib.hid (fun h => decide_eq_false (fun h2 => h h2.2))
    have hne : ((n : Int) != (n : Int)) = false := bneF rfl
    go_enter Try.func51, Try.ntmps51
    go_wp2
    go_loopw [13] (fun kv wr => ∃ k : Nat, k ≤ n ∧ kv = .int .i64 (k : Int) ∧ Touch [] w wr ∧ eqE 2 z y k) (fun kv _ => n + 1 - (intOf kv).toNat)
    case atStart => exact ⟨0, by omega, rfl, Touch.refl _ _, fun i hi => by omega⟩
    case round =>
      obtain ⟨k, hk, rfl, ht, heq⟩ := hrel
      have HT := Lib.hid ht
      have HE := Lib.hid heq
      clear ht heq
      by_cases hlt : k < n
      · obtain ⟨g, off, hga, hc⟩ := HV.out.at2 hlt
        obtain ⟨g2, off2, hgb, hd⟩ := HU.out.at2 (i := k) (by omega)
        subst hga
        subst hgb
        obtain ⟨a0, ha0⟩ : ∃ x, z k 0 = x := ⟨_, rfl⟩
        obtain ⟨a1, ha1⟩ : ∃ x, z k 1 = x := ⟨_, rfl⟩
        obtain ⟨b0, hb0⟩ : ∃ x, y k 0 = x := ⟨_, rfl⟩
        obtain ⟨b1, hb1⟩ : ∃ x, y k 1 = x := ⟨_, rfl⟩
        rw [ha0, ha1] at hc
        rw [hb0, hb1] at hd
        have HC := Lib.hid hc
        have HD := Lib.hid hd
        have x0 : ∀ q : Later wr, q.world.cell? ⟨g, off + k * 2, none⟩ = some (.int .i64 a0) := fun q => (HC.out _ (HT.out.trans q.ok)).1
        have x1 : ∀ q : Later wr, q.world.cell? ⟨g, off + k * 2 + 1, none⟩ = some (.int .i64 a1) := fun q => (HC.out _ (HT.out.trans q.ok)).2
        have y0 : ∀ q : Later wr, q.world.cell? ⟨g2, off2 + k * 2, none⟩ = some (.int .i64 b0) := fun q => (HD.out _ (HT.out.trans q.ok)).1
        have y1 : ∀ q : Later wr, q.world.cell? ⟨g2, off2 + k * 2 + 1, none⟩ = some (.int .i64 b1) := fun q => (HD.out _ (HT.out.trans q.ok)).2
        clear hc hd
        by_cases heq : a0 = b0 ∧ a1 = b1
        · obtain ⟨e0, e1⟩ := heq
          have HES : Hid (eqE 2 z y (k + 1)) := Lib.hid (eqE_succ HE.out (fun j hj => by
            rcases (by omega : j = 0 ∨ j = 1) with rfl | rfl
            · rw [ha0, hb0]; exact e0
            · rw [ha1, hb1]; exact e1))
          clear ha0 ha1 hb0 hb1
          subst e0; subst e1
          go_wp2_with fail
          refine wp_region_later (by kernel_rfl) (by kernel_rfl) ?_
          repeat (first
            | (go_big_quiet_step ((with_reducible rfl)))
            | (quiet_step (fail)))
          refine wpQuiet_nil ?_
          intro wq hw'
          obtain ⟨⟨wq', hwq⟩, hwe⟩ := hw'
          have hwe : wq = wq' := hwe
          subst hwe
          have HTn := Lib.hid (HT.out.trans hwq)
          clear hwe hwq x0 x1 y0 y1
          go_wp2
          go_roundw
          case rel => exact ⟨k + 1, by omega, by go_num, HTn.out, HES.out⟩
          case measure => simp [intOf] <;> omega
        · have HQ : Hid (eqL 2 n n z y = false) := Lib.hid (HF.out (fun h => heq ⟨by rw [← ha0, ← hb0]; exact h k hlt 0 (by omega), by rw [← ha1, ← hb1]; exact h k hlt 1 (by omega)⟩))
          clear ha0 ha1 hb0 hb1
          rcases (by
            by_cases e0 : a0 = b0
            · exact .inr (⟨e0, beqF (fun e1 => heq ⟨e0, e1⟩)⟩)
            · exact .inl (beqF e0) : ((a0 == b0) = false) ∨ (a0 = b0 ∧ (a1 == b1) = false)) with d | ⟨rfl, d⟩
          all_goals
            clear heq
            go_wp2_with fail
            refine wp_region_later (by kernel_rfl) (by kernel_rfl) ?_
            repeat (first
              | (go_big_quiet_step ((with_reducible rfl)))
              | (quiet_step (fail)))
            refine wpQuiet_nil ?_
            intro wq hw'
            obtain ⟨⟨wq', hwq⟩, hwe⟩ := hw'
            have hwe : wq = wq' := hwe
            subst hwe
            have HTn := Lib.hid (HT.out.trans hwq)
            clear hwe hwq x0 x1 y0 y1
            go_wp2
            go_ret
            exact ⟨by rw [HQ.out]; rfl, HTn.out⟩
      · obtain rfl : k = n := by omega
        have HQ : Hid (eqL 2 k k z y = true) := Lib.hid (HL.out HE.out)
        go_wp2
        go_ret
        exact ⟨by rw [HQ.out]; rfl, HT.out⟩
  · have HQ : Hid (eqL 2 n m z y = false) := Lib.hid (decide_eq_false (fun h => hnm h.1))
    have hne : ((n : Int) != (m : Int)) = true := bneT (by omega)
    clear hnm
    go_enter Try.func51, Try.ntmps51
    go_wp2
    go_ret
    exact ⟨by rw [HQ.out]; rfl, Touch.refl _ _⟩
set_option maxHeartbeats 32000000 in
set_option maxRecDepth 100000 in
theorem equal_spawn (v u : Value) (n m : Nat) (z y : Nat → Nat → Int) (w : World) (hv : Slr w v n 2 z) (hu : Slr w u m 2 y) (hn : n ≤ 9223372036854775807) (hm : m ≤ 9223372036854775807) : Calls Try.prog 53 #[v, u] w (BoolP (eqL 2 n m z y) w) := by
  obtain ⟨va, vc, rfl⟩ := hv.form
  obtain ⟨ua, uc, rfl⟩ := hu.form
  have HV := Lib.hid hv
  have HU := Lib.hid hu
  clear hv hu
  by_cases hnm : n = m
  · subst hnm
    have HL : Hid (eqE 2 z y n → eqL 2 n n z y = true) := Lib.hid (fun h => decide_eq_true ⟨rfl, h⟩)
    have HF : Hid (¬ eqE 2 z y n → eqL 2 n n z y = false) := Lib.hid (fun h => decide_eq_false (fun h2 => h h2.2))
    have hne : ((n : Int) != (n : Int)) = false := bneF rfl
    go_enter Try.func53, Try.ntmps53
    go_wp2
    go_loopw [13] (fun kv wr => ∃ k : Nat, k ≤ n ∧ kv = .int .i64 (k : Int) ∧ Touch [] w wr ∧ eqE 2 z y k) (fun kv _ => n + 1 - (intOf kv).toNat)
    case atStart => exact ⟨0, by omega, rfl, Touch.refl _ _, fun i hi => by omega⟩
    case round =>
      obtain ⟨k, hk, rfl, ht, heq⟩ := hrel
      have HT := Lib.hid ht
      have HE := Lib.hid heq
      clear ht heq
      by_cases hlt : k < n
      · obtain ⟨g, off, hga, hc⟩ := HV.out.at2 hlt
        obtain ⟨g2, off2, hgb, hd⟩ := HU.out.at2 (i := k) (by omega)
        subst hga
        subst hgb
        obtain ⟨a0, ha0⟩ : ∃ x, z k 0 = x := ⟨_, rfl⟩
        obtain ⟨a1, ha1⟩ : ∃ x, z k 1 = x := ⟨_, rfl⟩
        obtain ⟨b0, hb0⟩ : ∃ x, y k 0 = x := ⟨_, rfl⟩
        obtain ⟨b1, hb1⟩ : ∃ x, y k 1 = x := ⟨_, rfl⟩
        rw [ha0, ha1] at hc
        rw [hb0, hb1] at hd
        have HC := Lib.hid hc
        have HD := Lib.hid hd
        have x0 : ∀ q : Later wr, q.world.cell? ⟨g, off + k * 2, none⟩ = some (.int .i64 a0) := fun q => (HC.out _ (HT.out.trans q.ok)).1
        have x1 : ∀ q : Later wr, q.world.cell? ⟨g, off + k * 2 + 1, none⟩ = some (.int .i64 a1) := fun q => (HC.out _ (HT.out.trans q.ok)).2
        have y0 : ∀ q : Later wr, q.world.cell? ⟨g2, off2 + k * 2, none⟩ = some (.int .i64 b0) := fun q => (HD.out _ (HT.out.trans q.ok)).1
        have y1 : ∀ q : Later wr, q.world.cell? ⟨g2, off2 + k * 2 + 1, none⟩ = some (.int .i64 b1) := fun q => (HD.out _ (HT.out.trans q.ok)).2
        clear hc hd
        by_cases heq : a0 = b0 ∧ a1 = b1
        · obtain ⟨e0, e1⟩ := heq
          have HES : Hid (eqE 2 z y (k + 1)) := Lib.hid (eqE_succ HE.out (fun j hj => by
            rcases (by omega : j = 0 ∨ j = 1) with rfl | rfl
            · rw [ha0, hb0]; exact e0
            · rw [ha1, hb1]; exact e1))
          clear ha0 ha1 hb0 hb1
          subst e0; subst e1
          go_wp2_with fail
          refine wp_region_later (by kernel_rfl) (by kernel_rfl) ?_
          repeat (first
            | (go_big_quiet_step ((with_reducible rfl)))
            | (quiet_step (fail)))
          refine wpQuiet_nil ?_
          intro wq hw'
          obtain ⟨⟨wq', hwq⟩, hwe⟩ := hw'
          have hwe : wq = wq' := hwe
          subst hwe
          have HTn := Lib.hid (HT.out.trans hwq)
          clear hwe hwq x0 x1 y0 y1
          go_wp2
          go_roundw
          case rel => exact ⟨k + 1, by omega, by go_num, HTn.out, HES.out⟩
          case measure => simp [intOf] <;> omega
        · have HQ : Hid (eqL 2 n n z y = false) := Lib.hid (HF.out (fun h => heq ⟨by rw [← ha0, ← hb0]; exact h k hlt 0 (by omega), by rw [← ha1, ← hb1]; exact h k hlt 1 (by omega)⟩))
          clear ha0 ha1 hb0 hb1
          rcases (by
            by_cases e0 : a0 = b0
            · exact .inr (⟨e0, beqF (fun e1 => heq ⟨e0, e1⟩)⟩)
            · exact .inl (beqF e0) : ((a0 == b0) = false) ∨ (a0 = b0 ∧ (a1 == b1) = false)) with d | ⟨rfl, d⟩
          all_goals
            clear heq
            go_wp2_with fail
            refine wp_region_later (by kernel_rfl) (by kernel_rfl) ?_
            repeat (first
              | (go_big_quiet_step ((with_reducible rfl)))
              | (quiet_step (fail)))
            refine wpQuiet_nil ?_
            intro wq hw'
            obtain ⟨⟨wq', hwq⟩, hwe⟩ := hw'
            have hwe : wq = wq' := hwe
            subst hwe
            have HTn := Lib.hid (HT.out.trans hwq)
            clear hwe hwq x0 x1 y0 y1
            go_wp2
            go_ret
            exact ⟨by rw [HQ.out]; rfl, HTn.out⟩
      · obtain rfl : k = n := by omega
        have HQ : Hid (eqL 2 k k z y = true) := Lib.hid (HL.out HE.out)
        go_wp2
        go_ret
        exact ⟨by rw [HQ.out]; rfl, HT.out⟩
  · have HQ : Hid (eqL 2 n m z y = false) := Lib.hid (decide_eq_false (fun h => hnm h.1))
    have hne : ((n : Int) != (m : Int)) = true := bneT (by omega)
    clear hnm
    go_enter Try.func53, Try.ntmps53
    go_wp2
    go_ret
    exact ⟨by rw [HQ.out]; rfl, Touch.refl _ _⟩
end Go.Proofs.Ytoedkomckgidiaa
