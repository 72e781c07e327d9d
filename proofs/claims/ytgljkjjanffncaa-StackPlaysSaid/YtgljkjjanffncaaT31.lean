/-
  Both stacks are the same.
-/
import Derived.Test.YtgljkjjanffncaaT30
set_option linter.unusedVariables false
namespace Go.Proofs.Ytgljkjjanffncaa
open Go.RowKit Go.BigFrame

section
variable (k sb g N at' sz base t : Nat) (C : List Nat) (f : Nat → Int) (F : Frm) (r : List Frm) (w : World)
theorem top1 (i a : Int) (b : Bool) (h : KsF w k sb g f N at' sz (F :: r)) (h1 : (topM i (F :: r)).1 = a) (h2 : (topM i (F :: r)).2 = b) : Calls Try.prog 21 #[.pointer (some ⟨k, 0, none⟩), .int .i64 i] w fun e w' => e = .returned (.tuple #[.int .i64 a, .bool b]) ∧ Touch [] w w' := by
  subst h1 h2; exact top_m k sb g f N at' sz F r w i h
theorem loc1 (i a : Int) (b : Bool) (h : KsF w k sb g f N at' sz (F :: r)) (h1 : (locM i (F :: r)).1 = a) (h2 : (locM i (F :: r)).2 = b) : Calls Try.prog 18 #[.pointer (some ⟨k, 0, none⟩), .int .i64 i] w fun e w' => e = .returned (.tuple #[.int .i64 a, .bool b]) ∧ Touch [] w w' := by
  subst h1 h2; exact loc_m k sb g f N at' sz F r w i h
theorem top2 (v : Value) (ps : Nat → Nat → Value) (i a : Int) (b : Bool) (hb : F.ops.length ≤ 9000 ∧ r.length ≤ 9000) (h : Rz w C base t sz v ps (F :: r)) (h1 : (topM i (F :: r)).1 = a) (h2 : (topM i (F :: r)).2 = b) : Calls Try.prog 32 #[.pointer (some ⟨t, 0, none⟩), .int .i64 i] w fun e w' => e = .returned (.tuple #[.int .i64 a, .bool b]) ∧ Touch [] w w' := by
  subst h1 h2; exact rtopv_q C base t sz F r v ps w i (by omega) (by omega) h
theorem loc2 (v : Value) (ps : Nat → Nat → Value) (i a : Int) (b : Bool) (hb : F.loc.length ≤ 9000 ∧ r.length ≤ 9000) (h : Rz w C base t sz v ps (F :: r)) (h1 : (locM i (F :: r)).1 = a) (h2 : (locM i (F :: r)).2 = b) : Calls Try.prog 33 #[.pointer (some ⟨t, 0, none⟩), .int .i64 i] w fun e w' => e = .returned (.tuple #[.int .i64 a, .bool b]) ∧ Touch [] w w' := by
  subst h1 h2; exact rloc_q C base t sz F r v ps w i (by omega) (by omega) h
theorem len1 (T : Nat) (h : KsF w k sb g f N at' sz (F :: r)) (hT : topS (F :: r) = T) : Calls Try.prog 17 #[.pointer (some ⟨k, 0, none⟩)] w fun e w' => e = .returned (.int .i64 T) ∧ w = w' := by
  subst hT; exact len_m k sb g f N at' sz F r w h
theorem frames1 (n : Nat) (h : KsF w k sb g f N at' sz (F :: r)) (hn : r.length = n) : Calls Try.prog 16 #[.pointer (some ⟨k, 0, none⟩)] w fun e w' => e = .returned (.int .i64 n) ∧ w = w' := by
  subst hn; exact frames_m k sb g f N at' sz F r w h
theorem operands1 (m : Nat) (h : KsF w k sb g f N at' sz (F :: r)) (hm : F.ops.length = m) : Calls Try.prog 15 #[.pointer (some ⟨k, 0, none⟩)] w fun e w' => e = .returned (.int .i64 m) ∧ Touch [] w w' := by
  subst hm; exact operands_m k sb g f N at' sz F r w h
theorem len2 (v : Value) (ps : Nat → Nat → Value) (T : Nat) (h : Rz w C base t sz v ps (F :: r)) (hb : topS (F :: r) ≤ 9000 ∧ r.length ≤ 9000) (hT : topS (F :: r) = T) : Calls Try.prog 29 #[.pointer (some ⟨t, 0, none⟩)] w fun e w' => e = .returned (.int .i64 T) ∧ Touch [] w w' := by
  subst hT
  exact (rlen_q C base t sz (F :: r) v ps w (by simp; omega) (by omega) (by simp) h).mono (fun e w' h => by first | exact h | (obtain ⟨h1, rfl⟩ := h; exact ⟨h1, Touch.refl _ _⟩))
theorem frames2 (v : Value) (ps : Nat → Nat → Value) (n : Nat) (h : Rz w C base t sz v ps (F :: r)) (hb : r.length ≤ 9000) (hn : r.length = n) : Calls Try.prog 30 #[.pointer (some ⟨t, 0, none⟩)] w fun e w' => e = .returned (.int .i64 n) ∧ Touch [] w w' := by
  subst hn; exact rframes_q C base t sz F r v ps w (by omega) h
theorem operands2 (v : Value) (ps : Nat → Nat → Value) (m : Nat) (h : Rz w C base t sz v ps (F :: r)) (hb : r.length ≤ 9000) (hm : F.ops.length = m) : Calls Try.prog 31 #[.pointer (some ⟨t, 0, none⟩)] w fun e w' => e = .returned (.int .i64 m) ∧ Touch [] w w' := by
  subst hm; exact roperands_q C base t sz F r v ps w (by omega) h
set_option maxRecDepth 100000 in
set_option maxHeartbeats 32000000 in
theorem same_any (hs : sz ≤ 60) (h1 : KsF w k sb g f N at' sz (F :: r)) (h2 : Rs w C base t sz (F :: r)) : Calls Try.prog 12 #[.pointer (some ⟨k, 0, none⟩), .pointer (some ⟨t, 0, none⟩)] w fun e w' => e = .returned (.bool true) ∧ Touch [] w w' := by
  obtain ⟨v, ps, h2⟩ := h2
  have HK := Lib.hid h1
  have HR := Lib.hid h2
  have HM : Hid (F.loc.length ≤ 9000 ∧ topS (F :: r) ≤ 9000 ∧ r.length ≤ 9000 ∧ F.ops.length ≤ 9000) := Lib.hid (by have := h1.loc; have := topS_ops F r; omega)
  obtain ⟨T, hT⟩ : ∃ T, topS (F :: r) = T := ⟨_, rfl⟩
  obtain ⟨n, hn⟩ : ∃ n, r.length = n := ⟨_, rfl⟩
  obtain ⟨m, hm⟩ : ∃ m, F.ops.length = m := ⟨_, rfl⟩
  have hm9 : m ≤ 9000 := by have := HM.out; omega
  have HTT := Lib.hid hT
  have HN := Lib.hid hn
  have HO := Lib.hid hm
  have HA := Lib.hid (Touch.refl [] w)
  clear h1 h2 hs hT hn hm
  go_enter Try.func12, Try.ntmps12
  go_wp2_with fail
  refine (len1 k sb g N at' sz f F r w T HK.out HTT.out).mono ?_
  rintro e v1 ⟨rfl, rfl⟩
  go_wp2_with fail
  refine (len2 sz base t C F r w v ps T HR.out ⟨HM.out.2.1, HM.out.2.2.1⟩ HTT.out).mono ?_
  rintro e v2 ⟨rfl, ht⟩
  have HA := Lib.hid (HA.out.trans ht)
  clear ht
  go_wp2_with fail
  refine (frames1 k sb g N at' sz f F r _ n (HK.out.still HA.out) HN.out).mono ?_
  rintro e v3 ⟨rfl, rfl⟩
  go_wp2_with fail
  refine (frames2 sz base t C F r _ v ps n (HR.out.still HA.out) HM.out.2.2.1 HN.out).mono ?_
  rintro e v4 ⟨rfl, ht⟩
  have HA := Lib.hid (HA.out.trans ht)
  clear ht
  go_wp2_with fail
  refine (operands1 k sb g N at' sz f F r _ m (HK.out.still HA.out) HO.out).mono ?_
  rintro e v5 ⟨rfl, ht⟩
  have HA := Lib.hid (HA.out.trans ht)
  clear ht
  go_wp2_with fail
  refine (operands2 sz base t C F r _ v ps m (HR.out.still HA.out) HM.out.2.2.1 HO.out).mono ?_
  rintro e v6 ⟨rfl, ht⟩
  have HA := Lib.hid (HA.out.trans ht)
  clear ht
  go_wp2
  go_loopw [5, 6, 7, 8, 9] (fun i _ _ _ _ wr => ∃ (j : Nat) (p : Int), j ≤ m + 2 ∧ p = (j : Int) - 1 ∧ i = .int .i64 p ∧ Touch [] w wr) (fun i _ _ _ _ _ => m + 5 - (intOf i + 1).toNat)
  case atStart => exact ⟨0, -1, by omega, by omega, rfl, HA.out⟩
  case round =>
    clear HA
    obtain ⟨j, p, hj, hp, rfl, ht⟩ := hrel
    have HA := Lib.hid ht
    have HP := Lib.hid hp
    have hp1 : -1 ≤ p := by omega
    have hp2 : p ≤ 9100 := by omega
    clear ht hp
    go_wp2_with fail
    refine (operands2 sz base t C F r _ v ps m (HR.out.still HA.out) HM.out.2.2.1 HO.out).mono ?_
    rintro e v7 ⟨rfl, ht⟩
    have HA := Lib.hid (HA.out.trans ht)
    clear ht
    by_cases hpm : p ≤ (m : Int)
    · obtain ⟨ra, hra⟩ : ∃ v, (topM p (F :: r)).1 = v := ⟨_, rfl⟩
      obtain ⟨rb, hrb⟩ : ∃ v, (topM p (F :: r)).2 = v := ⟨_, rfl⟩
      have HRA := Lib.hid hra
      have HRB := Lib.hid hrb
      clear hra hrb
      have q1 : (ra != ra) = false := bneF rfl
      have q2 : (rb != rb) = false := by cases rb <;> rfl
      go_wp2_with fail
      refine (top1 k sb g N at' sz f F r _ p ra rb (HK.out.still HA.out) HRA.out HRB.out).mono ?_
      rintro e v8 ⟨rfl, ht⟩
      have HA := Lib.hid (HA.out.trans ht)
      clear ht
      go_wp2_with fail
      refine (top2 sz base t C F r _ v ps p ra rb ⟨HM.out.2.2.2, HM.out.2.2.1⟩ (HR.out.still HA.out) HRA.out HRB.out).mono ?_
      rintro e v9 ⟨rfl, ht⟩
      have HA := Lib.hid (HA.out.trans ht)
      clear ht
      go_wp2
      go_roundw
      case rel => exact ⟨j + 1, p + 1, by have := HP.out; omega, by have := HP.out; omega, by go_num, HA.out⟩
      case measure => simp [intOf]; omega
    · go_wp2
      go_loopw [10, 11, 12, 13, 14] (fun i _ _ _ _ wr => ∃ (j : Nat) (p : Int), j ≤ 11 ∧ p = (j : Int) - 1 ∧ i = .int .i64 p ∧ Touch [] w wr) (fun i _ _ _ _ _ => 15 - (intOf i + 1).toNat)
      case atStart => exact ⟨0, -1, by omega, by omega, rfl, HA.out⟩
      case round =>
        clear HA HP hpm hp1 hp2
        obtain ⟨j, p, hj, hp, rfl, ht⟩ := hrel
        have HA := Lib.hid ht
        have HP := Lib.hid hp
        have hp1 : -1 ≤ p := by omega
        have hp2 : p ≤ 9100 := by omega
        clear ht hp
        by_cases hpm : p < 10
        · obtain ⟨ra, hra⟩ : ∃ v, (locM p (F :: r)).1 = v := ⟨_, rfl⟩
          obtain ⟨rb, hrb⟩ : ∃ v, (locM p (F :: r)).2 = v := ⟨_, rfl⟩
          have HRA := Lib.hid hra
          have HRB := Lib.hid hrb
          clear hra hrb
          have q1 : (ra != ra) = false := bneF rfl
          have q2 : (rb != rb) = false := by cases rb <;> rfl
          go_wp2_with fail
          refine (loc1 k sb g N at' sz f F r _ p ra rb (HK.out.still HA.out) HRA.out HRB.out).mono ?_
          rintro e v8 ⟨rfl, ht⟩
          have HA := Lib.hid (HA.out.trans ht)
          clear ht
          go_wp2_with fail
          refine (loc2 sz base t C F r _ v ps p ra rb ⟨HM.out.1, HM.out.2.2.1⟩ (HR.out.still HA.out) HRA.out HRB.out).mono ?_
          rintro e v9 ⟨rfl, ht⟩
          have HA := Lib.hid (HA.out.trans ht)
          clear ht
          go_wp2
          go_roundw
          case rel => exact ⟨j + 1, p + 1, by have := HP.out; omega, by have := HP.out; omega, by go_num, HA.out⟩
          case measure => simp [intOf]; omega
        · go_wp2
          go_ret
          exact ⟨rfl, HA.out⟩
end
end Go.Proofs.Ytgljkjjanffncaa
