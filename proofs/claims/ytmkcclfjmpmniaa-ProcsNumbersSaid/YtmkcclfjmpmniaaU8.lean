/-
  The process table: ProcsNumbers.
-/
import Derived.Test.YtmkcclfjmpmniaaT8
import Derived.Deep.Cut
import Derived.Deep.CutBlock
import Derived.Deep.CutRange
set_option linter.unusedVariables false
namespace Go.Proofs.Ytmkcclfjmpmniaa
open Go.RowKit Go.BigFrame

set_option maxRecDepth 100000 in
set_option maxHeartbeats 4000000 in
theorem numbers_low (mo : Int) (v : Value) (zs : List Int) (w : World) (hs : Sl w v zs) (hm : zs.length ≤ maxLen) (h : mo < 1) :
    Calls Try.prog 4 #[.int .i64 mo, v] w fun e w' => e = .returned (.bool true) ∧ Below w.heap.size w w' := by
  obtain ⟨ad, cap, rfl, _⟩ := hs
  unfold maxLen at hm
  obtain ⟨L, hL⟩ : ∃ L, zs.length = L := ⟨_, rfl⟩
  rw [hL] at hm ⊢
  try rw [hL] at h
  clear hL
  have d1 : decide (mo < 1) = true := dT h
  go_enter Try.func4, Try.ntmps4
  go_wp2_with fail
  refine (awake_any _).mono ?_
  rintro e w1 ⟨rfl, ht⟩
  go_wp2
  go_ret
  exact ⟨rfl, ht.below (Nat.le_refl _) (by simp)⟩
set_option maxRecDepth 100000 in
set_option maxHeartbeats 4000000 in
theorem numbers_high (mo : Int) (v : Value) (zs : List Int) (w : World) (hs : Sl w v zs) (hm : zs.length ≤ maxLen) (h : 32 < mo) :
    Calls Try.prog 4 #[.int .i64 mo, v] w fun e w' => e = .returned (.bool true) ∧ Below w.heap.size w w' := by
  obtain ⟨ad, cap, rfl, _⟩ := hs
  unfold maxLen at hm
  obtain ⟨L, hL⟩ : ∃ L, zs.length = L := ⟨_, rfl⟩
  rw [hL] at hm ⊢
  try rw [hL] at h
  clear hL
  have d1 : decide (mo < 1) = false := dF (by omega)
  have d2 : decide (32 < mo) = true := dT h
  go_enter Try.func4, Try.ntmps4
  go_wp2_with fail
  refine (awake_any _).mono ?_
  rintro e w1 ⟨rfl, ht⟩
  go_wp2
  go_ret
  exact ⟨rfl, ht.below (Nat.le_refl _) (by simp)⟩
set_option maxRecDepth 100000 in
set_option maxHeartbeats 4000000 in
theorem numbers_long (mo : Int) (v : Value) (zs : List Int) (w : World) (hs : Sl w v zs) (hm : zs.length ≤ maxLen) (h1 : 1 ≤ mo) (h2 : mo ≤ 32) (h : 60 < zs.length) :
    Calls Try.prog 4 #[.int .i64 mo, v] w fun e w' => e = .returned (.bool true) ∧ Below w.heap.size w w' := by
  obtain ⟨ad, cap, rfl, _⟩ := hs
  unfold maxLen at hm
  obtain ⟨L, hL⟩ : ∃ L, zs.length = L := ⟨_, rfl⟩
  rw [hL] at hm ⊢
  try rw [hL] at h
  clear hL
  have d1 : decide (mo < 1) = false := dF (by omega)
  have d2 : decide (32 < mo) = false := dF (by omega)
  have d3 : decide ((60 : Int) < (L : Int)) = true := dT (by omega)
  go_enter Try.func4, Try.ntmps4
  go_wp2_with fail
  refine (awake_any _).mono ?_
  rintro e w1 ⟨rfl, ht⟩
  go_wp2
  go_ret
  exact ⟨rfl, ht.below (Nat.le_refl _) (by simp)⟩

/-- At the head of a round. -/
def NuK (w0 w : World) (b mo k : Nat) (lv : Value) : Prop := ∃ (N : Nat) (ps : Nat → Nat → Int) (live : List Int), lv = .int .i64 N ∧ N = live.length + k ∧ live.length ≤ mo ∧ Nu w0 w b mo N ps live (.slice none 0 0) []
set_option maxRecDepth 100000 in
set_option maxHeartbeats 64000000 in
theorem numbers_in (mo : Nat) (v : Value) (zs : List Int) (w : World) (hs : Sl w v zs) (hu : ∀ y ∈ zs, InI y) (h1 : 1 ≤ mo) (h2 : mo ≤ 32) (h : zs.length ≤ 60) :
    Calls Try.prog 4 #[.int .i64 mo, v] w fun e w' => e = .returned (.bool true) ∧ Below w.heap.size w w' := by
  obtain ⟨ad, cap, rfl, hrow⟩ := hs
  have HR := Lib.hid hrow
  have HU := Lib.hid hu
  clear hu
  obtain ⟨L, hL⟩ : ∃ L, zs.length = L := ⟨_, rfl⟩
  have HL := Lib.hid hL
  rw [hL] at h ⊢
  clear hrow hL
  have d1 : decide ((mo : Int) < 1) = false := dF (by omega)
  have d2 : decide (32 < (mo : Int)) = false := dF (by omega)
  have d3 : decide ((60 : Int) < (L : Int)) = false := dF (by omega)
  go_enter Try.func4, Try.ntmps4
  go_wp2_with fail
  refine (new_ok mo _ (by omega) (by omega)).mono ?_
  rintro e w1 ⟨b, rfl, h3, hb, ht⟩
  have HB0 : Hid (NuK w w1 b mo 0 (.int .i64 0)) := Lib.hid ⟨0, _, [], rfl, rfl, Nat.zero_le _, Nu.start h3 hb ht⟩
  have HT0 := Lib.hid ht
  clear h3 hb ht
  clear d1 d2 d3
  go_wp2_with fail
  go_loopw [7, 8] (fun lv i wr => ∃ (k : Nat), k ≤ L + 1 ∧ i = .int .i64 k ∧ Touch [] w wr ∧ (k ≤ L → NuK w wr b mo k lv)) (fun _ i _ => L + 2 - (intOf i).toNat)
  case atStart => exact ⟨0, by omega, rfl, HT0.out, fun _ => HB0.out⟩
  case round =>
    clear HB0 HT0
    obtain ⟨k, hk, rfl, ht0, hth⟩ := hrel
    have HT := Lib.hid ht0
    clear ht0
    by_cases hkL : k ≤ L
    · obtain ⟨N, ps, live, rfl, hN, hmo, h3⟩ := hth hkL
      have HK : Hid (NuK w wr b mo k (.int .i64 N)) := Lib.hid ⟨N, ps, live, rfl, hN, hmo, h3⟩
      clear h3 hth hN hmo HT
      have hle : (k : Int) ≤ (L : Int) := by omega
      obtain ⟨wo, rfl⟩ : ∃ wo : World, wo = wr := ⟨_, rfl⟩
      go_wp2_with fail
      go_loopw [7] (fun lv wi => NuK w wi b mo k lv) (fun lv _ => mo + k + 1 - (intOf lv).toNat)
      case atStart => exact HK.out
      case round =>
        clear HK
        obtain ⟨N, ps, live, rfl, hN, hmo, h3⟩ := hrel
        have H := Lib.hid h3
        clear h3
        obtain ⟨m, hm⟩ : ∃ m, live.length = m := ⟨_, rfl⟩
        rw [hm] at hN hmo
        have HN := Lib.hid hN
        have HM := Lib.hid hm
        have hN9 : N ≤ 93 := by omega
        clear hN hm
        by_cases hfull : m < mo
        · have q1 : (m : Int) < (mo : Int) := by omega
          go_wp2_with fail
          refine (nu_live H.out m (by rw [HM.out])).mono ?_
          rintro e wl ⟨rfl, rfl⟩
          go_wp2_with fail
          refine (nu_spawn H.out (by omega) (by rw [HM.out]; omega)).mono ?_
          rintro e ws ⟨rfl, h4⟩
          have H4 := Lib.hid h4
          clear h4 H
          go_wp2
          go_roundw
          case rel => exact ⟨N + 1, _, _, by go_num, by rw [List.length_append, HM.out, HN.out]; simp; omega, by rw [List.length_append, HM.out]; simp; omega, H4.out⟩
          case measure => simp [intOf]; have := HN.out; omega
        · obtain rfl : m = mo := by omega
          have q1 : ¬ (m : Int) < (m : Int) := by omega
          go_wp2_with fail
          refine (nu_live H.out m (by rw [HM.out])).mono ?_
          rintro e wl ⟨rfl, rfl⟩
          go_wp2_with fail
          refine (nu_full H.out (by omega) (by rw [HM.out])).mono ?_
          rintro e ws ⟨rfl, ht⟩
          have H := Lib.hid (H.out.touch ht)
          clear ht
          go_wp2_with fail
          refine (nu_ready H.out (by omega) m HM.out).mono ?_
          rintro e wq ⟨ra, rc, rfl, h4⟩
          have H := Lib.hid h4.drop
          clear h4
          by_cases hkl : k < L
          · have q2 : (k : Int) < (L : Int) := by omega
            go_wp2_with fail
            refine (nu_ready H.out (by omega) m HM.out).mono ?_
            rintro e wz ⟨la, lc, rfl, h4⟩
            have HZR := HR.out
            rcases HZR with hh | ⟨lg, loff, rfl, hlg, hrow⟩
            · exfalso; have := HL.out; rw [hh] at this; simp at this; omega
            have c0 : wz.cell? ⟨lg, loff + k, none⟩ = some (.int .i64 (zs.getD k 0)) := hrow.touch h4.t hlg (by simp) k (by rw [HL.out]; exact hkl)
            have hzi : InI (zs.getD k 0) := HU.out _ (by rw [List.getD_eq_getElem?_getD, List.getElem?_eq_getElem (by rw [HL.out]; exact hkl)]; simp)
            obtain ⟨z, hz⟩ : ∃ z, zs.getD k 0 = z := ⟨_, rfl⟩
            rw [hz] at c0 hzi
            unfold InI at hzi
            obtain ⟨z1, z2⟩ := hzi
            have H5 := Lib.hid h4
            have hmpos : (0 : Int) < (m : Int) := by omega
            have hm32 : (m : Int) ≤ 32 := by omega
            have hrb : z.tmod (m : Int) < (m : Int) ∧ -(m : Int) < z.tmod (m : Int) := ⟨Int.tmod_lt_of_pos _ hmpos, Int.lt_tmod_of_pos _ hmpos⟩
            obtain ⟨hr1, hr2⟩ := hrb
            clear hz hrow h4
            have hform : ∃ g off, la = some ⟨g, off, none⟩ := by
              obtain ⟨a2, c2, e2, e3 | ⟨g, off, e4, _⟩⟩ := H5.out.sl
              · have := HM.out; rw [e3] at this; simp at this; omega
              · cases e2; exact ⟨g, off, e4⟩
            obtain ⟨g, off, rfl⟩ := hform
            by_cases hneg : z.tmod (m : Int) < 0
            · have q3 : decide (z.tmod (m : Int) < 0) = true := dT hneg
              have hqm : (-z.tmod (m : Int)).toNat < m := by omega
              have hq : True := trivial
              have c1 := H5.out.cell (q := (-z.tmod (m : Int)).toNat) (by rw [HM.out]; omega)
              have hp : live.getD (-z.tmod (m : Int)).toNat 0 ∈ live := by rw [List.getD_eq_getElem?_getD, List.getElem?_eq_getElem (by rw [HM.out]; omega)]; simp
              have HLow := Lib.hid (H5.out.lowp hp)
              have HP := Lib.hid hp
              obtain ⟨p, hpp⟩ : ∃ p, live.getD (-z.tmod (m : Int)).toNat 0 = p := ⟨_, rfl⟩
              rw [hpp] at c1 HLow HP
              have HPP := Lib.hid hpp
              clear hpp hp hq
              go_wp2_with fail
              refine (nu_end H5.out (by omega) p HP.out).mono ?_
              rintro e wE ⟨rfl, live', hl', h6⟩
              have H6 := Lib.hid h6
              have HL' := Lib.hid hl'
              clear h6 hl'
              have c2 := H6.out.cell (q := (-z.tmod (m : Int)).toNat) (by rw [HM.out]; omega)
              rw [HPP.out] at c2
              go_wp2_with fail
              refine (nu_gone H6.out (by omega) p (end_is HLow.out)).mono ?_
              rintro e wG ⟨rfl, rfl⟩
              go_wp2_with fail
              refine (nu_state H6.out (by omega) p (end_is HLow.out)).mono ?_
              rintro e wS ⟨rfl, rfl⟩
              go_wp2
              go_roundw
              case rel => exact ⟨k + 1, by omega, by go_num, H6.out.t, fun _ => ⟨N, _, live', rfl, by have := HL'.out; have := HM.out; have := HN.out; omega, by have := HL'.out; have := HM.out; omega, H6.out.drop⟩⟩
              case measure => simp [intOf]; omega
            · have q3 : decide (z.tmod (m : Int) < 0) = false := dF hneg
              have hqm : (z.tmod (m : Int)).toNat < m := by omega
              have hq : True := trivial
              have c1 := H5.out.cell (q := (z.tmod (m : Int)).toNat) (by rw [HM.out]; omega)
              have hp : live.getD (z.tmod (m : Int)).toNat 0 ∈ live := by rw [List.getD_eq_getElem?_getD, List.getElem?_eq_getElem (by rw [HM.out]; omega)]; simp
              have HLow := Lib.hid (H5.out.lowp hp)
              have HP := Lib.hid hp
              obtain ⟨p, hpp⟩ : ∃ p, live.getD (z.tmod (m : Int)).toNat 0 = p := ⟨_, rfl⟩
              rw [hpp] at c1 HLow HP
              have HPP := Lib.hid hpp
              clear hpp hp hq
              go_wp2_with fail
              refine (nu_end H5.out (by omega) p HP.out).mono ?_
              rintro e wE ⟨rfl, live', hl', h6⟩
              have H6 := Lib.hid h6
              have HL' := Lib.hid hl'
              clear h6 hl'
              have c2 := H6.out.cell (q := (z.tmod (m : Int)).toNat) (by rw [HM.out]; omega)
              rw [HPP.out] at c2
              go_wp2_with fail
              refine (nu_gone H6.out (by omega) p (end_is HLow.out)).mono ?_
              rintro e wG ⟨rfl, rfl⟩
              go_wp2_with fail
              refine (nu_state H6.out (by omega) p (end_is HLow.out)).mono ?_
              rintro e wS ⟨rfl, rfl⟩
              go_wp2
              go_roundw
              case rel => exact ⟨k + 1, by omega, by go_num, H6.out.t, fun _ => ⟨N, _, live', rfl, by have := HL'.out; have := HM.out; have := HN.out; omega, by have := HL'.out; have := HM.out; omega, H6.out.drop⟩⟩
              case measure => simp [intOf]; omega
          · have q2 : ¬ (k : Int) < (L : Int) := by omega
            go_wp2
            go_roundw
            case rel => exact ⟨k + 1, by omega, by go_num, H.out.t, fun hh => by omega⟩
            case measure => simp [intOf]; omega
    · have hle : ¬ (k : Int) ≤ (L : Int) := by omega
      clear hth
      go_wp2_with fail
      refine (awake_any _).mono ?_
      rintro e w9 ⟨rfl, ht⟩
      go_wp2
      go_ret
      exact ⟨rfl, (HT.out.trans ht).below (Nat.le_refl _) (by simp)⟩
theorem numbers_any (mo : Int) (v : Value) (zs : List Int) (w : World) (_ : (Lit.int .i64 mo).wf = true) (hs : Sl w v zs) (hu : ∀ y ∈ zs, InI y) (hm : zs.length ≤ maxLen) :
    Calls Try.prog 4 #[.int .i64 mo, v] w fun e w' => e = .returned (.bool true) ∧ Below w.heap.size w w' := by
  by_cases h1 : mo < 1
  · exact numbers_low mo v zs w hs hm h1
  · by_cases h2 : 32 < mo
    · exact numbers_high mo v zs w hs hm h2
    · by_cases h3 : 60 < zs.length
      · exact numbers_long mo v zs w hs hm (by omega) (by omega) h3
      · obtain ⟨m, rfl⟩ : ∃ m : Nat, mo = (m : Int) := ⟨mo.toNat, by omega⟩
        exact numbers_in m v zs w hs hu (by omega) (by omega) (by omega)
end Go.Proofs.Ytmkcclfjmpmniaa
