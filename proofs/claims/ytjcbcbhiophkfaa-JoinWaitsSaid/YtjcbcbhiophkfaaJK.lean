/-
  Who joins waits for all that it forked, in whichever order they end: JoinWaits.
-/
import Derived.Test.YtjcbcbhiophkfaaJJ
import Derived.Test.YtjcbcbhiophkfaaO
import Derived.Deep.RegionHeld3
import Derived.Deep.Cut
import Derived.Deep.CutBlock
set_option linter.unusedVariables false
namespace Go.Proofs.Ytjcbcbhiophkfaa
open Go.RowKit Go.BigFrame

set_option maxRecDepth 100000 in
set_option maxHeartbeats 4000000 in
theorem waits_1 (n : Int) (v : Value) (zs : List Int) (c : Int) (w : World) (hs : Sl w v zs) (hl : zs.length ≤ maxLen) (h : n < 1) :
    Calls Try.prog 4 #[.int .i64 n, v, .int .i64 c] w fun e w' => e = .returned (.bool true) ∧ Below w.heap.size w w' := by
  obtain ⟨ad, cap, rfl, _⟩ := hs
  unfold maxLen at hl
  have d : decide (n < 1) = true := dT h
  go_enter Try.func4, Try.ntmps4
  go_wp2_with fail
  refine (awake_any _).mono ?_
  rintro e w1 ⟨rfl, ht⟩
  go_wp2
  go_ret
  exact ⟨rfl, ht.below (Nat.le_refl _) (by simp)⟩
set_option maxRecDepth 100000 in
set_option maxHeartbeats 4000000 in
theorem waits_2 (n : Int) (v : Value) (zs : List Int) (c : Int) (w : World) (hs : Sl w v zs) (hl : zs.length ≤ maxLen) (h : ¬ n < 1) (h2 : 20 < n) :
    Calls Try.prog 4 #[.int .i64 n, v, .int .i64 c] w fun e w' => e = .returned (.bool true) ∧ Below w.heap.size w w' := by
  obtain ⟨ad, cap, rfl, _⟩ := hs
  unfold maxLen at hl
  have d : decide (n < 1) = false := dF h
  have d2 : decide (20 < n) = true := dT h2
  go_enter Try.func4, Try.ntmps4
  go_wp2_with fail
  refine (awake_any _).mono ?_
  rintro e w1 ⟨rfl, ht⟩
  go_wp2
  go_ret
  exact ⟨rfl, ht.below (Nat.le_refl _) (by simp)⟩
set_option maxRecDepth 100000 in
set_option maxHeartbeats 4000000 in
theorem waits_3 (n : Int) (v : Value) (zs : List Int) (c : Int) (w : World) (hs : Sl w v zs) (hl : zs.length ≤ maxLen) (h : ¬ n < 1) (h2 : ¬ 20 < n) (h3 : 40 < zs.length) :
    Calls Try.prog 4 #[.int .i64 n, v, .int .i64 c] w fun e w' => e = .returned (.bool true) ∧ Below w.heap.size w w' := by
  obtain ⟨ad, cap, rfl, _⟩ := hs
  unfold maxLen at hl
  have d : decide (n < 1) = false := dF h
  have d2 : decide (20 < n) = false := dF h2
  have d3 : decide ((40 : Int) < (zs.length : Int)) = true := dT (by omega)
  go_enter Try.func4, Try.ntmps4
  go_wp2_with fail
  refine (awake_any _).mono ?_
  rintro e w1 ⟨rfl, ht⟩
  go_wp2
  go_ret
  exact ⟨rfl, ht.below (Nat.le_refl _) (by simp)⟩
set_option maxRecDepth 100000 in
set_option maxHeartbeats 64000000 in
theorem waits_in (N : Nat) (v : Value) (zs : List Int) (c : Int) (w : World) (hs : Sl w v zs) (hi : ∀ y ∈ zs, InI y) (h1 : 1 ≤ N) (h2 : N ≤ 20) (h3 : zs.length ≤ 40) :
    Calls Try.prog 4 #[.int .i64 (N : Int), v, .int .i64 c] w fun e w' => e = .returned (.bool true) ∧ Below w.heap.size w w' := by
  obtain ⟨ad, cap, rfl, hrz⟩ := hs
  have HR := Lib.hid hrz
  have HI := Lib.hid hi
  clear hrz hi
  obtain ⟨M, hM⟩ : ∃ M, zs.length = M := ⟨_, rfl⟩
  have HM := Lib.hid hM
  rw [hM] at h3 ⊢
  clear hM
  have d : decide ((N : Int) < 1) = false := dF (by omega)
  have d2 : decide ((20 : Int) < (N : Int)) = false := dF (by omega)
  have d3 : decide ((40 : Int) < (M : Int)) = false := dF (by omega)
  go_enter Try.func4, Try.ntmps4
  go_wp2_with fail
  refine (new_ok 30 _ (by omega) (by omega)).mono ?_
  rintro e w1 ⟨b, rfl, h1, hb, ht⟩
  have HS := Lib.hid h1
  have HA : Hid (Apt w [b] [] _) := Lib.hid (Apt.none (fun k hk => by simp at hk; omega) h1.lt ht)
  clear h1 hb ht
  go_wp2_with fail
  refine (spawn_ok b _ 30 0 (fun _ _ => 0) [] _ 0 HS.out (by omega) (by simp) (.inl rfl) (by simp)).mono ?_
  rintro e w2 ⟨F2, rfl, h1, h2⟩
  have HP : Hid (Pt w2 b F2 30 1 (addP (fun _ _ => 0) 0 (newF 0)) [1]) := Lib.hid h1
  have HL0 : Hid (Lf w (w2.alloc (.cells #[] 3)) F2 (.slice (some ⟨w2.heap.size, 0, none⟩) 0 0) []) := Lib.hid (Lf.new (HA.out.one h2) ((Touch.refl _ _).alloc _) (Qu.made (c := #[]) rfl (Nat.le_refl _) rfl (Nat.zero_le _)))
  have HP0 := Lib.hid (HP.out.still ((Touch.refl [] _).alloc (.cells #[] 3)))
  clear h1 h2 HS HA
  go_wp2
  go_loopw [9, 10] (fun lv i wr => ∃ (p : Nat) (F : List Nat) (ps : Nat → Nat → Int) (live xs : List Int), p ≤ N ∧ i = .int .i64 p ∧ Pt wr b F 30 (p + 1) ps live ∧ Wu (p + 1) ps live xs ∧ Lf w wr F lv xs) (fun _ i _ => N + 1 - (intOf i).toNat)
  case atStart => exact ⟨0, F2, _, _, [], by omega, rfl, HP0.out, Wu.zero, HL0.out⟩
  case round =>
    clear HP0 HL0 HP
    obtain ⟨p, F, ps, live, xs, hp, rfl, hpt, hwu, hlf⟩ := hrel
    obtain ⟨q, hq⟩ : ∃ q, p + 1 = q := ⟨_, rfl⟩
    rw [hq] at hpt hwu
    have HP := Lib.hid hpt
    have HW := Lib.hid hwu
    have HL := Lib.hid hlf
    obtain ⟨va, vc, rfl⟩ := Qu.form hlf.q
    have hxl := hwu.lef
    have hll := hwu.len
    clear hpt hwu hlf
    by_cases hpn : p < N
    · have hlt : (p : Int) < (N : Int) := by omega
      go_wp2_with fail
      refine (spawn_ok b F 30 q ps live _ 1 HP.out (by omega) (by omega) (.inr HW.out.isL) (by omega)).mono ?_
      rintro e w3 ⟨F3, rfl, h1, h2⟩
      have HL3 := Lib.hid (HL.out.fr h2)
      obtain ⟨v4, w4, hr, hl4, hp4⟩ := HL3.out.push h1 ((q : Int) + 1) (by omega)
      have HR4 := Lib.hid hr
      have HL4 := Lib.hid hl4
      have HP4 := Lib.hid hp4
      have HW4 := Lib.hid HW.out.spawn
      obtain ⟨va4, vc4, hv⟩ := Qu.form hl4.q
      rw [List.length_append, List.length_singleton] at hv
      subst hv
      clear h1 h2 hr hl4 hp4
      go_wp2_with (at_builtin; refine Lib.wpList_append_run _ rfl _ _ _ _ rfl _ _ rfl rfl _ _ (HR4.out _) ?_)
      go_roundw
      case rel => exact ⟨p + 1, F3, _, _, _, by omega, by go_num, by rw [hq]; exact HP4.out, by rw [hq]; exact HW4.out, by have h := HL4.out; rw [HW.out.lef] at h; exact h⟩
      case measure => simp [intOf]; omega
    · have hlt : ¬ (p : Int) < (N : Int) := by omega
      obtain rfl : p = N := by omega
      obtain rfl : q = p + 1 := hq.symm
      have HJ := Lib.hid (HW.out.join (by omega))
      have HJc := Lib.hid (join_s b F 30 (p + 1) ps live _ 1 HP.out HW.out.ok (by omega))
      rw [HJ.out.1] at HJc
      go_wp2_with fail
      refine HJc.out.mono ?_
      rintro e w3 ⟨F3, rfl, h1, h2, h3⟩
      have HP3 := Lib.hid h1
      have HW3 := Lib.hid (HJ.out.2 _ h2)
      have HL3 := Lib.hid (HL.out.fr h3)
      clear h1 h2 h3 hxl hll
      go_wp2_with fail
      go_loopw [9, 13] (fun lv i wr => ∃ (j : Nat) (F : List Nat) (ps : Nat → Nat → Int) (live xs : List Int), j + xs.length ≤ p ∧ i = .int .i64 j ∧ Pt wr b F 30 (p + 1) ps live ∧ Wt (p + 1) ps live xs ∧ Lf w wr F lv xs) (fun _ i _ => p + 1 - (intOf i).toNat)
      case atStart => exact ⟨0, F3, _, live, xs, by have := HW.out.lef; omega, rfl, HP3.out, HW3.out, HL3.out⟩
      case round =>
        clear HP3 HW3 HL3 HJ HJc HP HW HL hlt hp hpn
        obtain ⟨j, F, ps, live, xs, hj, rfl, hpt, hwt, hlf⟩ := hrel
        have HP := Lib.hid hpt
        have HW := Lib.hid hwt
        have HL := Lib.hid hlf
        have hsl := hlf.q.sl
        obtain ⟨va, vc, rfl⟩ := Qu.form hlf.q
        obtain ⟨m, hm⟩ : ∃ m, xs.length = m := ⟨_, rfl⟩
        have hj0 := hj
        rw [hm] at hj
        clear hpt hwt
        by_cases hpos : 0 < xs.length
        · have hlt : (0 : Int) < (m : Int) := by omega
          obtain ⟨ad0, cap0, he0, hrw⟩ := hsl
          cases he0
          rcases hrw with h | ⟨g, off, hga, hg, hrow⟩
          · exfalso; rw [h] at hpos; simp at hpos
          rw [hga] at hlf HL ⊢
          rw [hm] at HL ⊢
          have HZR := HR.out
          have hto := hlf.t
          clear hlf
          by_cases hjm : j < M
          · have hjm2 : (j : Int) < (M : Int) := by omega
            rcases HZR with h | ⟨lg, loff, rfl, hlg, hzr⟩
            · exfalso; have := HM.out; rw [h] at this; simp at this; omega
            have c0 := hzr.touch hto hlg (by simp) j (by rw [HM.out]; exact hjm)
            have HZ : Hid (InI (zs.getD j 0)) := Lib.hid (HI.out _ (by rw [List.getD_eq_getElem?_getD, List.getElem?_eq_getElem (by rw [HM.out]; exact hjm)]; simp))
            obtain ⟨z, hz⟩ : ∃ z, zs.getD j 0 = z := ⟨_, rfl⟩
            rw [hz] at c0 HZ
            clear hz hzr hto
            by_cases hz0 : 0 < z
            · have dz : decide (0 < z) = true := dT hz0
              have t1 : 0 ≤ z.tmod (m : Int) := Int.tmod_nonneg _ (by omega)
              have t2 : z.tmod (m : Int) < (m : Int) := Int.tmod_lt_of_pos _ hlt
              obtain ⟨k, hk0⟩ : ∃ k : Nat, z.tmod (m : Int) = k := ⟨(z.tmod (m : Int)).toNat, by omega⟩
              have hk : k < xs.length := by omega
              have hki : (k : Int) < (m : Int) := by omega
              have hc := hrow k hk
              clear hrow
              have hpin : xs.getD k 0 ∈ xs := by
                rw [List.getD_eq_getElem?_getD, List.getElem?_eq_getElem hk]; simp
              obtain ⟨pid, hpid⟩ : ∃ x, xs.getD k 0 = x := ⟨_, rfl⟩
              rw [hpid] at hc hpin
              have HE := Lib.hid (HW.out.end hpin c)
              have hless := wo_less hpin
              obtain ⟨ys, hys⟩ : ∃ ys, wo xs pid = ys := ⟨_, rfl⟩
              rw [hys] at HE hless
              have HWo := Lib.hid (without_any _ xs pid wr HL.out.q.sl (by omega))
              rw [hys] at HWo
              clear hys hpid hpin
              obtain ⟨m', hm'⟩ : ∃ m', ys.length = m' := ⟨_, rfl⟩
              have HM' := Lib.hid hm'
              rw [hm'] at hless
              obtain ⟨bb, hbb⟩ : ∃ bb, decide (ys = []) = bb := ⟨_, rfl⟩
              have e1 : ((if ys = [] then (1 : Int) else 0) == 1) = bb := by rw [← hbb]; split <;> simp_all
              have e2 : ((m' : Int) == 0) = bb := by
                rw [← hbb, ← hm']
                by_cases e : ys = []
                · rw [e]; rfl
                · rw [dF e]; exact beqF (fun h => e (List.eq_nil_of_length_eq_zero (by omega)))
              obtain ⟨res, hres⟩ : ∃ r, (if ys = [] then (1 : Int) else 0) = r := ⟨_, rfl⟩
              rw [hres] at e1
              have e4 : ((if ys = [] then (1 : Int) else 2) == 1) = bb := by rw [← hbb]; split <;> simp_all
              obtain ⟨sta, hsta⟩ : ∃ r, (if ys = [] then (1 : Int) else 2) = r := ⟨_, rfl⟩
              rw [hsta] at e4
              have HSt := Lib.hid hsta
              have e5 : (bb != bb) = false := by cases bb <;> rfl
              have HE1 : Hid (isL ps (p + 1) pid = true) := Lib.hid HE.out.1
              have HE2 : Hid (ejR ps (p + 1) pid c = res) := Lib.hid (by rw [HE.out.2.1]; exact hres)
              have HE3 := Lib.hid HE.out.2.2
              have HEj := Lib.hid (fun (w' : World) (F' : List Nat) (hp : Pt w' b F' 30 (p + 1) ps live) => ej_s b F' 30 (p + 1) ps live w' pid c hp HW.out.ok (by omega))
              unfold EjP at HEj
              rw [HE1.out, HE2.out] at HEj
              clear hbb hres hsta HE hm'
              go_wp2_with fail
              refine HWo.out.mono ?_
              rintro e w4 ⟨v4, rfl, hq, ht⟩
              have HL4 := Lib.hid (Lf.new HL.out.a ht hq)
              have HP4 := Lib.hid (HP.out.still ht)
              obtain ⟨va4, vc4, hv⟩ := Qu.form hq
              rw [HM'.out] at hv
              subst hv
              clear hq ht
              go_wp2_with fail
              refine (HEj.out _ F HP4.out).mono ?_
              rintro e w5 ⟨live5, ⟨F5, rfl, h1, h2, h3⟩, h4, h5⟩
              have HP5 := Lib.hid h1
              have HW5 := Lib.hid (HE3.out _ h2)
              have HL5 := Lib.hid (HL4.out.fr h3)
              have HS5 := Lib.hid (state_q b F5 30 (p + 1) _ live5 w5 1 sta h1 (by omega) (by rw [f1 (by omega), HW5.out.st]; exact HSt.out))
              clear h1 h2 h3 h4 h5
              go_wp2_with fail
              refine HS5.out.mono ?_
              rintro e w6 ⟨rfl, rfl⟩
              go_wp2
              go_roundw
              case rel => exact ⟨j + 1, F5, _, live5, ys, by rw [HM'.out]; omega, by go_num, HP5.out, HW5.out, HL5.out⟩
              case measure => simp [intOf]; omega
            · have dz : decide (0 < z) = false := dF hz0
              obtain ⟨k, hk0⟩ : ∃ k : Nat, k = 0 := ⟨0, rfl⟩
              have hk : k < xs.length := by omega
              have hc := hrow k hk
              rw [show off + k = off from by omega] at hc
              clear hrow
              have hpin : xs.getD k 0 ∈ xs := by
                rw [List.getD_eq_getElem?_getD, List.getElem?_eq_getElem hk]; simp
              obtain ⟨pid, hpid⟩ : ∃ x, xs.getD k 0 = x := ⟨_, rfl⟩
              rw [hpid] at hc hpin
              have HE := Lib.hid (HW.out.end hpin c)
              have hless := wo_less hpin
              obtain ⟨ys, hys⟩ : ∃ ys, wo xs pid = ys := ⟨_, rfl⟩
              rw [hys] at HE hless
              have HWo := Lib.hid (without_any _ xs pid wr HL.out.q.sl (by omega))
              rw [hys] at HWo
              clear hys hpid hpin
              obtain ⟨m', hm'⟩ : ∃ m', ys.length = m' := ⟨_, rfl⟩
              have HM' := Lib.hid hm'
              rw [hm'] at hless
              obtain ⟨bb, hbb⟩ : ∃ bb, decide (ys = []) = bb := ⟨_, rfl⟩
              have e1 : ((if ys = [] then (1 : Int) else 0) == 1) = bb := by rw [← hbb]; split <;> simp_all
              have e2 : ((m' : Int) == 0) = bb := by
                rw [← hbb, ← hm']
                by_cases e : ys = []
                · rw [e]; rfl
                · rw [dF e]; exact beqF (fun h => e (List.eq_nil_of_length_eq_zero (by omega)))
              obtain ⟨res, hres⟩ : ∃ r, (if ys = [] then (1 : Int) else 0) = r := ⟨_, rfl⟩
              rw [hres] at e1
              have e4 : ((if ys = [] then (1 : Int) else 2) == 1) = bb := by rw [← hbb]; split <;> simp_all
              obtain ⟨sta, hsta⟩ : ∃ r, (if ys = [] then (1 : Int) else 2) = r := ⟨_, rfl⟩
              rw [hsta] at e4
              have HSt := Lib.hid hsta
              have e5 : (bb != bb) = false := by cases bb <;> rfl
              have HE1 : Hid (isL ps (p + 1) pid = true) := Lib.hid HE.out.1
              have HE2 : Hid (ejR ps (p + 1) pid c = res) := Lib.hid (by rw [HE.out.2.1]; exact hres)
              have HE3 := Lib.hid HE.out.2.2
              have HEj := Lib.hid (fun (w' : World) (F' : List Nat) (hp : Pt w' b F' 30 (p + 1) ps live) => ej_s b F' 30 (p + 1) ps live w' pid c hp HW.out.ok (by omega))
              unfold EjP at HEj
              rw [HE1.out, HE2.out] at HEj
              clear hbb hres hsta HE hm'
              go_wp2_with fail
              refine HWo.out.mono ?_
              rintro e w4 ⟨v4, rfl, hq, ht⟩
              have HL4 := Lib.hid (Lf.new HL.out.a ht hq)
              have HP4 := Lib.hid (HP.out.still ht)
              obtain ⟨va4, vc4, hv⟩ := Qu.form hq
              rw [HM'.out] at hv
              subst hv
              clear hq ht
              go_wp2_with fail
              refine (HEj.out _ F HP4.out).mono ?_
              rintro e w5 ⟨live5, ⟨F5, rfl, h1, h2, h3⟩, h4, h5⟩
              have HP5 := Lib.hid h1
              have HW5 := Lib.hid (HE3.out _ h2)
              have HL5 := Lib.hid (HL4.out.fr h3)
              have HS5 := Lib.hid (state_q b F5 30 (p + 1) _ live5 w5 1 sta h1 (by omega) (by rw [f1 (by omega), HW5.out.st]; exact HSt.out))
              clear h1 h2 h3 h4 h5
              go_wp2_with fail
              refine HS5.out.mono ?_
              rintro e w6 ⟨rfl, rfl⟩
              go_wp2
              go_roundw
              case rel => exact ⟨j + 1, F5, _, live5, ys, by rw [HM'.out]; omega, by go_num, HP5.out, HW5.out, HL5.out⟩
              case measure => simp [intOf]; omega
          · have hjm2 : ¬ (j : Int) < (M : Int) := by omega
            obtain ⟨k, hk0⟩ : ∃ k : Nat, k = 0 := ⟨0, rfl⟩
            have hk : k < xs.length := by omega
            have hc := hrow k hk
            rw [show off + k = off from by omega] at hc
            clear hrow
            have hpin : xs.getD k 0 ∈ xs := by
              rw [List.getD_eq_getElem?_getD, List.getElem?_eq_getElem hk]; simp
            obtain ⟨pid, hpid⟩ : ∃ x, xs.getD k 0 = x := ⟨_, rfl⟩
            rw [hpid] at hc hpin
            have HE := Lib.hid (HW.out.end hpin c)
            have hless := wo_less hpin
            obtain ⟨ys, hys⟩ : ∃ ys, wo xs pid = ys := ⟨_, rfl⟩
            rw [hys] at HE hless
            have HWo := Lib.hid (without_any _ xs pid wr HL.out.q.sl (by omega))
            rw [hys] at HWo
            clear hys hpid hpin
            obtain ⟨m', hm'⟩ : ∃ m', ys.length = m' := ⟨_, rfl⟩
            have HM' := Lib.hid hm'
            rw [hm'] at hless
            obtain ⟨bb, hbb⟩ : ∃ bb, decide (ys = []) = bb := ⟨_, rfl⟩
            have e1 : ((if ys = [] then (1 : Int) else 0) == 1) = bb := by rw [← hbb]; split <;> simp_all
            have e2 : ((m' : Int) == 0) = bb := by
              rw [← hbb, ← hm']
              by_cases e : ys = []
              · rw [e]; rfl
              · rw [dF e]; exact beqF (fun h => e (List.eq_nil_of_length_eq_zero (by omega)))
            obtain ⟨res, hres⟩ : ∃ r, (if ys = [] then (1 : Int) else 0) = r := ⟨_, rfl⟩
            rw [hres] at e1
            have e4 : ((if ys = [] then (1 : Int) else 2) == 1) = bb := by rw [← hbb]; split <;> simp_all
            obtain ⟨sta, hsta⟩ : ∃ r, (if ys = [] then (1 : Int) else 2) = r := ⟨_, rfl⟩
            rw [hsta] at e4
            have HSt := Lib.hid hsta
            have e5 : (bb != bb) = false := by cases bb <;> rfl
            have HE1 : Hid (isL ps (p + 1) pid = true) := Lib.hid HE.out.1
            have HE2 : Hid (ejR ps (p + 1) pid c = res) := Lib.hid (by rw [HE.out.2.1]; exact hres)
            have HE3 := Lib.hid HE.out.2.2
            have HEj := Lib.hid (fun (w' : World) (F' : List Nat) (hp : Pt w' b F' 30 (p + 1) ps live) => ej_s b F' 30 (p + 1) ps live w' pid c hp HW.out.ok (by omega))
            unfold EjP at HEj
            rw [HE1.out, HE2.out] at HEj
            clear hbb hres hsta HE hm'
            go_wp2_with fail
            refine HWo.out.mono ?_
            rintro e w4 ⟨v4, rfl, hq, ht⟩
            have HL4 := Lib.hid (Lf.new HL.out.a ht hq)
            have HP4 := Lib.hid (HP.out.still ht)
            obtain ⟨va4, vc4, hv⟩ := Qu.form hq
            rw [HM'.out] at hv
            subst hv
            clear hq ht
            go_wp2_with fail
            refine (HEj.out _ F HP4.out).mono ?_
            rintro e w5 ⟨live5, ⟨F5, rfl, h1, h2, h3⟩, h4, h5⟩
            have HP5 := Lib.hid h1
            have HW5 := Lib.hid (HE3.out _ h2)
            have HL5 := Lib.hid (HL4.out.fr h3)
            have HS5 := Lib.hid (state_q b F5 30 (p + 1) _ live5 w5 1 sta h1 (by omega) (by rw [f1 (by omega), HW5.out.st]; exact HSt.out))
            clear h1 h2 h3 h4 h5
            go_wp2_with fail
            refine HS5.out.mono ?_
            rintro e w6 ⟨rfl, rfl⟩
            go_wp2
            go_roundw
            case rel => exact ⟨j + 1, F5, _, live5, ys, by rw [HM'.out]; omega, by go_num, HP5.out, HW5.out, HL5.out⟩
            case measure => simp [intOf]; omega
        · have hlt : ¬ (0 : Int) < (m : Int) := by omega
          obtain rfl : xs = [] := List.eq_nil_of_length_eq_zero (by omega)
          have HX := Lib.hid HW.out.last
          have HJc := Lib.hid (join_s b F 30 (p + 1) ps live _ 1 HP.out HW.out.ok (by omega))
          rw [HX.out.1] at HJc
          have hm0 : m = 0 := by simpa using hm.symm
          subst hm0
          clear hsl hlf
          go_wp2_with fail
          refine HJc.out.mono ?_
          rintro e w5 ⟨F5, rfl, h1, h2, h3⟩
          have HL5 := Lib.hid (HL.out.fr h3)
          clear h1 h2 h3
          go_wp2_with fail
          refine (awake_any _).mono ?_
          rintro e w9 ⟨rfl, ht⟩
          go_wp2
          go_ret
          exact ⟨rfl, (HL5.out.t.trans ht).below (Nat.le_refl _) (by simp)⟩
theorem waits_any (n : Int) (v : Value) (zs : List Int) (c : Int) (w : World) (_ : (Lit.int .i64 n).wf = true) (hs : Sl w v zs) (hi : ∀ y ∈ zs, InI y) (hl : zs.length ≤ maxLen) (_ : (Lit.int .i64 c).wf = true) :
    Calls Try.prog 4 #[.int .i64 n, v, .int .i64 c] w fun e w' => e = .returned (.bool true) ∧ Below w.heap.size w w' := by
  by_cases h1 : n < 1
  · exact waits_1 n v zs c w hs hl h1
  · by_cases h2 : 20 < n
    · exact waits_2 n v zs c w hs hl h1 h2
    · by_cases h3 : 40 < zs.length
      · exact waits_3 n v zs c w hs hl h1 h2 h3
      · obtain ⟨N, rfl⟩ : ∃ N : Nat, n = N := ⟨n.toNat, by omega⟩
        exact waits_in N v zs c w hs hi (by omega) (by omega) (by omega)
end Go.Proofs.Ytjcbcbhiophkfaa
