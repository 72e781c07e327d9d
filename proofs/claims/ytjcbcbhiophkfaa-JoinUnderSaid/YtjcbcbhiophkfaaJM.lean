/-
  Who descends from one descends from its parent, too: JoinUnder.
-/
import Derived.Test.YtjcbcbhiophkfaaJL
import Derived.Test.YtjcbcbhiophkfaaO
import Derived.Deep.RegionHeld3
import Derived.Deep.Cut
import Derived.Deep.CutBlock
set_option linter.unusedVariables false
namespace Go.Proofs.Ytjcbcbhiophkfaa
open Go.RowKit Go.BigFrame

set_option maxRecDepth 100000 in
set_option maxHeartbeats 4000000 in
theorem unders_1 (v : Value) (zs : List Int) (w : World) (hs : Sl w v zs) (hl : zs.length ≤ maxLen) (h : 25 < zs.length) :
    Calls Try.prog 5 #[v] w fun e w' => e = .returned (.bool true) ∧ Below w.heap.size w w' := by
  obtain ⟨ad, cap, rfl, _⟩ := hs
  unfold maxLen at hl
  have d : decide ((25 : Int) < (zs.length : Int)) = true := dT (by omega)
  go_enter Try.func5, Try.ntmps5
  go_wp2_with fail
  refine (awake_any _).mono ?_
  rintro e w1 ⟨rfl, ht⟩
  go_wp2
  go_ret
  exact ⟨rfl, ht.below (Nat.le_refl _) (by simp)⟩
set_option maxRecDepth 100000 in
set_option maxHeartbeats 64000000 in
theorem unders_in (v : Value) (zs : List Int) (w : World) (hs : Sl w v zs) (hi : ∀ y ∈ zs, InI y) (h3 : zs.length ≤ 25) :
    Calls Try.prog 5 #[v] w fun e w' => e = .returned (.bool true) ∧ Below w.heap.size w w' := by
  obtain ⟨ad, cap, rfl, hrz⟩ := hs
  have HR := Lib.hid hrz
  have HI := Lib.hid hi
  clear hrz hi
  obtain ⟨M, hM⟩ : ∃ M, zs.length = M := ⟨_, rfl⟩
  have HM := Lib.hid hM
  rw [hM] at h3 ⊢
  clear hM
  have d3 : decide ((25 : Int) < (M : Int)) = false := dF (by omega)
  go_enter Try.func5, Try.ntmps5
  go_wp2_with fail
  refine (new_ok 32 _ (by omega) (by omega)).mono ?_
  rintro e w1 ⟨b, rfl, h1, hb, ht⟩
  have HS := Lib.hid h1
  have HA : Hid (Apt w [b] [] _) := Lib.hid (Apt.none (fun k hk => by simp at hk; omega) h1.lt ht)
  clear h1 hb ht
  go_wp2_with fail
  refine (spawn_ok b _ 32 0 (fun _ _ => 0) [] _ 0 HS.out (by omega) (by simp) (.inl rfl) (by simp)).mono ?_
  rintro e w2 ⟨F2, rfl, h1, h2⟩
  have HP0 : Hid (Pt w2 b F2 32 1 (addP (fun _ _ => 0) 0 (newF 0)) [1]) := Lib.hid h1
  have HA0 := Lib.hid (HA.out.one h2)
  clear h1 h2 HS HA
  go_wp2
  go_loopw [5] (fun i wr => ∃ (p n : Nat) (F : List Nat) (ps : Nat → Nat → Int) (live : List Int), p ≤ M ∧ n = p + 1 ∧ i = .int .i64 p ∧ Pt wr b F 32 n ps live ∧ Wx n ps live ∧ Apt w F [] wr) (fun i _ => M + 1 - (intOf i).toNat)
  case atStart => exact ⟨0, 1, F2, _, _, by omega, rfl, rfl, HP0.out, Wx.zero, HA0.out⟩
  case round =>
    clear HP0 HA0
    obtain ⟨p, n, F, ps, live, hp, hn, rfl, hpt, hwx, hapt⟩ := hrel
    have HP := Lib.hid hpt
    have HW := Lib.hid hwx
    have HA := Lib.hid hapt
    have hll := hwx.len
    have hto := hapt.t
    have hn26 : n ≤ 26 := by omega
    have hn1 : 1 ≤ n := by omega
    have HN := Lib.hid hn
    clear hpt hwx hapt hn
    by_cases hpn : p < M
    · have hlt : (p : Int) < (M : Int) := by omega
      have HZR := HR.out
      rcases HZR with h | ⟨lg, loff, rfl, hlg, hzr⟩
      · exfalso; have := HM.out; rw [h] at this; simp at this; omega
      have c0 := hzr.touch hto hlg (by simp) p (by rw [HM.out]; exact hpn)
      obtain ⟨z, hz⟩ : ∃ z, zs.getD p 0 = z := ⟨_, rfl⟩
      rw [hz] at c0
      clear hz hzr hto
      have xz : ∀ qq : Later wr, qq.world.cell? ⟨lg, loff + p, none⟩ = some (.int .i64 z) := fun qq => qq.cell c0
      clear c0
      obtain ⟨k, hk, hkz⟩ := tmod_abs z n (by omega)
      have hnn : (0 : Int) < (n : Int) := by omega
      go_wp2_with fail
      refine wp_region_later (by kernel_rfl) (by kernel_rfl) ?_
      repeat (first
        | (go_big_quiet_step ((first | (with_reducible rfl) | exact Later.same (t0_q b F 32 n ps live _ (HP.out.still (Later.ok _)) HW.out.n1))))
        | (quiet_step (fail)))
      refine wpQuiet_nil ?_
      intro wq hw'
      obtain ⟨⟨wq', hwq⟩, hwe⟩ := hw'
      have hwe : wq = wq' := hwe
      subst hwe
      have HPd := Lib.hid (HP.out.still hwq)
      have HAd := Lib.hid (HA.out.touch hwq)
      clear hwe hwq xz
      obtain ⟨up, hup⟩ : ∃ up, z.tmod (n : Int) = up := ⟨_, rfl⟩
      rw [hup] at hkz ⊢
      clear hup
      rcases hkz with ⟨u1, u2⟩ | ⟨u1, u2⟩
      · have du : decide (up < 0) = true := dT u1
        clear u1
        go_wp2_with fail
        refine (spawn_ok b F 32 n ps live _ ((k : Int) + 1) HPd.out (by omega) (by omega) (.inr (HW.out.live hk)) (by omega)).mono ?_
        rintro e w3 ⟨F3, rfl, h1, h2⟩
        have HP3 := Lib.hid h1
        have HA3 := Lib.hid (HAd.out.one h2)
        have HW3 := Lib.hid (HW.out.spawn hk)
        clear h1 h2
        go_wp2
        go_roundw
        case rel => exact ⟨p + 1, n + 1, F3, _, _, by omega, by have := HN.out; omega, by go_num, HP3.out, HW3.out, HA3.out⟩
        case measure => simp [intOf]; omega
      · have du : decide (up < 0) = false := dF (by omega)
        subst u2
        clear u1
        go_wp2_with fail
        refine (spawn_ok b F 32 n ps live _ ((k : Int) + 1) HPd.out (by omega) (by omega) (.inr (HW.out.live hk)) (by omega)).mono ?_
        rintro e w3 ⟨F3, rfl, h1, h2⟩
        have HP3 := Lib.hid h1
        have HA3 := Lib.hid (HAd.out.one h2)
        have HW3 := Lib.hid (HW.out.spawn hk)
        clear h1 h2
        go_wp2
        go_roundw
        case rel => exact ⟨p + 1, n + 1, F3, _, _, by omega, by have := HN.out; omega, by go_num, HP3.out, HW3.out, HA3.out⟩
        case measure => simp [intOf]; omega
    · have hlt : ¬ (p : Int) < (M : Int) := by omega
      have HPq0 := Lib.hid (fun (w' : World) (ht : Touch [] wr w') (x p0 : Int) (h : fieldOf ps n x 1 = p0) => parent_q b F 32 n ps live w' x p0 (HP.out.still ht) (by omega) h)
      have HUq := Lib.hid (fun (w' : World) (ht : Touch [] wr w') (x : Int) (xs : List Int) (h : undL ps n x = xs) => under_1 b F 32 n ps live w' x xs HW.out.par (HP.out.still ht) (by omega) h)
      have HCn := Lib.hid (fun (w' : World) (ht : Touch [] wr w') => count_q b F 32 n ps live w' (HP.out.still ht))
      go_wp2_with fail
      go_loopw [9] (fun i w3 => ∃ (i0 : Nat), 1 ≤ i0 ∧ i0 ≤ n + 1 ∧ i = .int .i64 i0 ∧ Touch [] wr w3) (fun i _ => n + 2 - (intOf i).toNat)
      case atStart => exact ⟨1, by omega, by omega, rfl, Touch.refl _ _⟩
      case round =>
        obtain ⟨i0, hi1, hi2, rfl, hto3⟩ := hrel
        have HT3 := Lib.hid hto3
        clear hto3
        go_wp2_with fail
        refine (HCn.out _ HT3.out).mono ?_
        rintro e w4 ⟨rfl, rfl⟩
        by_cases hin : i0 ≤ n
        · have hlti : (i0 : Int) ≤ (n : Int) := by omega
          obtain ⟨k, hik⟩ : ∃ k : Nat, i0 = k + 1 := ⟨i0 - 1, by omega⟩
          have hkn : k < n := by omega
          have HIK := Lib.hid hik
          clear hik
          obtain ⟨xs, hxs⟩ : ∃ xs, undL ps n (i0 : Int) = xs := ⟨_, rfl⟩
          have hxs2 := hxs
          have HUf : Hid (Uf n ps (i0 : Int) xs) := Lib.hid (hxs ▸ Uf.of HW.out.par (by omega) (by omega))
          have HUn := Lib.hid (HUq.out _ HT3.out (i0 : Int) xs hxs)
          clear hxs hxs2
          obtain ⟨m, hm⟩ : ∃ m, xs.length = m := ⟨_, rfl⟩
          have hmn : m ≤ n := by rw [← hm]; exact HUf.out.len
          go_wp2_with fail
          refine HUn.out.mono ?_
          rintro e w5 ⟨vx, rfl, hq, ht⟩
          have HT5 := Lib.hid (HT3.out.trans ht)
          have HX5 := Lib.hid hq.sl
          obtain ⟨va, vc, hv⟩ := Qu.form hq
          rw [hm] at hv
          subst hv
          clear hq ht
          have HH5 := Lib.hid (has_l _ xs (i0 : Int) w5 HX5.out (by omega))
          rw [dF HUf.out.no] at HH5
          go_wp2_with fail
          refine HH5.out.mono ?_
          rintro e w6 ⟨rfl, rfl⟩
          obtain ⟨p0, hp0⟩ : ∃ p0, ps k 1 = p0 := ⟨_, rfl⟩
          have HPq := Lib.hid (HPq0.out _ HT5.out (i0 : Int) p0 (by rw [HIK.out]; push_cast; rw [fieldOf_in _ hkn]; exact hp0))
          have hab := HW.out.above hkn
          rw [hp0] at hab
          have hle := (HW.out.par k hkn).2
          rw [hp0] at hle
          clear hp0
          go_wp2_with fail
          refine HPq.out.mono ?_
          rintro e w7 ⟨rfl, rfl⟩
          by_cases hp00 : 0 < p0
          · have dp : decide (0 < p0) = true := dT hp00
            obtain ⟨ys, hys⟩ : ∃ ys, undL ps n p0 = ys := ⟨_, rfl⟩
            have hab := hab hp00
            rw [hys] at hab
            have hyl : ys.length ≤ n := by rw [← hys]; exact undL_len _ _ _
            have HUn2 := Lib.hid (HUq.out _ HT5.out p0 ys hys)
            have hmem : (i0 : Int) ∈ ys := by rw [HIK.out]; push_cast; exact hab
            clear hys hab
            go_wp2_with fail
            refine HPq.out.mono ?_
            rintro e w7 ⟨rfl, rfl⟩
            go_wp2_with fail
            refine HUn2.out.mono ?_
            rintro e wu ⟨vy, rfl, hq, ht⟩
            have HTu := Lib.hid (HT5.out.trans ht)
            have HXs := Lib.hid (HX5.out.touch ht (fun _ _ => by simp))
            have HPu := Lib.hid (HP.out.still HTu.out)
            have HHy := Lib.hid (has_l _ ys (i0 : Int) wu hq.sl (by omega))
            rw [dT hmem] at HHy
            obtain ⟨ya, yc, rfl⟩ := Qu.form hq
            clear hq ht hmem hyl
            go_wp2_with fail
            refine HHy.out.mono ?_
            rintro e w9 ⟨rfl, rfl⟩
            go_wp2_with fail
            go_loopw [11] (fun qi wr => ∃ (q : Nat), q ≤ m ∧ qi = .int .i64 q ∧ Touch [] wu wr) (fun qi _ => m + 1 - (intOf qi).toNat)
            case atStart => exact ⟨0, by omega, rfl, Touch.refl _ _⟩
            case round =>
              obtain ⟨q, hq, rfl, hti⟩ := hrel
              have HTi := Lib.hid hti
              have HQi := Lib.hid (HXs.out.touch hti (fun _ _ => by simp))
              have HPi := Lib.hid (HPu.out.still hti)
              clear hti
              by_cases hqm : q < m
              · have hltq : (q : Int) < (m : Int) := by omega
                have hsl := HQi.out
                obtain ⟨ad0, cap0, he0, hrw⟩ := hsl
                simp only [Value.slice.injEq] at he0
                obtain ⟨e1, -, e3⟩ := he0
                subst e1
                subst e3
                rcases hrw with h | ⟨g, off, rfl, hg, hrow⟩
                · exfalso; rw [h] at hm; simp at hm; omega
                have hq2 : q < xs.length := by omega
                have hc := hrow q hq2
                obtain ⟨y, hy⟩ : ∃ y, xs.getD q 0 = y := ⟨_, rfl⟩
                rw [hy] at hc
                have hymem : y ∈ xs := by rw [← hy, List.getD_eq_getElem?_getD, List.getElem?_eq_getElem hq2]; simp
                have xq : ∀ qq : Later wr, qq.world.cell? ⟨g, off + q, none⟩ = some (.int .i64 y) := fun qq => qq.cell hc
                obtain ⟨pr, hpr⟩ : ∃ pr, fieldOf ps n y 1 = pr := ⟨_, rfl⟩
                have hp2 : pr = (i0 : Int) ∨ pr ∈ xs := by rw [← hpr]; exact HUf.out.par y hymem
                have HPR := Lib.hid hpr
                clear hpr hymem
                by_cases hp1 : pr = (i0 : Int)
                · by_cases hq0 : q = 0
                  · have d1 : (pr != (i0 : Int)) = false := bneF hp1
                    clear hp1
                    have d2 : decide ((0 : Int) < (q : Int)) = false := dF (by omega)
                    have d2n : decide (0 < q) = false := dF (by omega)
                    clear hq0
                    clear hrow hc hy
                    go_wp2_with fail
                    refine wp_region_later (by kernel_rfl) (by kernel_rfl) ?_
                    repeat (first
                      | (go_big_quiet_step ((first | (with_reducible rfl) | exact Later.same (parent_q b F 32 n ps live _ y pr (HPi.out.still (Later.ok _)) (by omega) HPR.out))))
                      | (quiet_step (fail)))
                    refine wpQuiet_nil ?_
                    intro wq hw'
                    obtain ⟨⟨wq', hwq⟩, hwe⟩ := hw'
                    have hwe : wq = wq' := hwe
                    subst hwe
                    have HTq := Lib.hid (HTi.out.trans hwq)
                    clear hwe hwq xq
                    go_wp2
                    go_roundw
                    case rel => exact ⟨q + 1, by omega, by go_num, HTq.out⟩
                    case measure => simp [intOf]; omega
                  · have d1 : (pr != (i0 : Int)) = false := bneF hp1
                    clear hp1
                    have d2 : decide ((0 : Int) < (q : Int)) = true := dT (by omega)
                    have d2n : decide (0 < q) = true := dT (by omega)
                    obtain ⟨r, hr⟩ : ∃ r : Nat, q = r + 1 := ⟨q - 1, by omega⟩
                    have v1 : IntKind.i64.wrap ((q : Int) - 1) = (r : Int) := by rw [show (q : Int) - 1 = (r : Int) from by omega]; exact IntWalk.i64_in _ (by omega)
                    have hrm : (r : Int) < (m : Int) := by omega
                    have hasc : xs.getD r 0 < xs.getD q 0 := by
                      have h1 : r < xs.length := by omega
                      have h2 : q < xs.length := by omega
                      rw [List.getD_eq_getElem?_getD, List.getD_eq_getElem?_getD, List.getElem?_eq_getElem h1, List.getElem?_eq_getElem h2]
                      exact List.pairwise_iff_getElem.1 HUf.out.asc r q h1 h2 (by omega)
                    rw [hy] at hasc
                    have hcr := hrow r (by omega)
                    obtain ⟨y2, hy2⟩ : ∃ y2, xs.getD r 0 = y2 := ⟨_, rfl⟩
                    rw [hy2] at hcr hasc
                    have xr : ∀ qq : Later wr, qq.world.cell? ⟨g, off + r, none⟩ = some (.int .i64 y2) := fun qq => qq.cell hcr
                    have d3 : decide (y ≤ y2) = false := dF (by omega)
                    clear hasc hcr hy2 hq0
                    have HRq := Lib.hid hr
                    clear hr
                    clear hrow hc hy
                    go_wp2_with fail
                    refine wp_region_later (by kernel_rfl) (by kernel_rfl) ?_
                    repeat (first
                      | (go_big_quiet_step ((first | (with_reducible rfl) | exact Later.same (parent_q b F 32 n ps live _ y pr (HPi.out.still (Later.ok _)) (by omega) HPR.out))))
                      | (quiet_step (fail)))
                    refine wpQuiet_nil ?_
                    intro wq hw'
                    obtain ⟨⟨wq', hwq⟩, hwe⟩ := hw'
                    have hwe : wq = wq' := hwe
                    subst hwe
                    have HTq := Lib.hid (HTi.out.trans hwq)
                    clear hwe hwq xq xr
                    go_wp2
                    go_roundw
                    case rel => exact ⟨q + 1, by omega, by go_num, HTq.out⟩
                    case measure => simp [intOf]; omega
                · have hp2 : pr ∈ xs := hp2.resolve_left hp1
                  by_cases hq0 : q = 0
                  · have d1 : (pr != (i0 : Int)) = true := bneT hp1
                    have HH := Lib.hid (fun (w' : World) (ht : Touch [] wr w') => has_l _ xs pr w' (HQi.out.touch ht (fun _ _ => by simp)) (by omega))
                    rw [dT hp2] at HH
                    clear hp2
                    clear hp1
                    have d2 : decide ((0 : Int) < (q : Int)) = false := dF (by omega)
                    have d2n : decide (0 < q) = false := dF (by omega)
                    clear hq0
                    clear hrow hc hy
                    go_wp2_with fail
                    refine wp_region_later (by kernel_rfl) (by kernel_rfl) ?_
                    repeat (first
                      | (go_big_quiet_step ((first | (with_reducible rfl) | exact Later.same (parent_q b F 32 n ps live _ y pr (HPi.out.still (Later.ok _)) (by omega) HPR.out) | exact Later.same (HH.out _ (Later.ok _)))))
                      | (quiet_step (fail)))
                    refine wpQuiet_nil ?_
                    intro wq hw'
                    obtain ⟨⟨wq', hwq⟩, hwe⟩ := hw'
                    have hwe : wq = wq' := hwe
                    subst hwe
                    have HTq := Lib.hid (HTi.out.trans hwq)
                    clear hwe hwq xq
                    go_wp2
                    go_roundw
                    case rel => exact ⟨q + 1, by omega, by go_num, HTq.out⟩
                    case measure => simp [intOf]; omega
                  · have d1 : (pr != (i0 : Int)) = true := bneT hp1
                    have HH := Lib.hid (fun (w' : World) (ht : Touch [] wr w') => has_l _ xs pr w' (HQi.out.touch ht (fun _ _ => by simp)) (by omega))
                    rw [dT hp2] at HH
                    clear hp2
                    clear hp1
                    have d2 : decide ((0 : Int) < (q : Int)) = true := dT (by omega)
                    have d2n : decide (0 < q) = true := dT (by omega)
                    obtain ⟨r, hr⟩ : ∃ r : Nat, q = r + 1 := ⟨q - 1, by omega⟩
                    have v1 : IntKind.i64.wrap ((q : Int) - 1) = (r : Int) := by rw [show (q : Int) - 1 = (r : Int) from by omega]; exact IntWalk.i64_in _ (by omega)
                    have hrm : (r : Int) < (m : Int) := by omega
                    have hasc : xs.getD r 0 < xs.getD q 0 := by
                      have h1 : r < xs.length := by omega
                      have h2 : q < xs.length := by omega
                      rw [List.getD_eq_getElem?_getD, List.getD_eq_getElem?_getD, List.getElem?_eq_getElem h1, List.getElem?_eq_getElem h2]
                      exact List.pairwise_iff_getElem.1 HUf.out.asc r q h1 h2 (by omega)
                    rw [hy] at hasc
                    have hcr := hrow r (by omega)
                    obtain ⟨y2, hy2⟩ : ∃ y2, xs.getD r 0 = y2 := ⟨_, rfl⟩
                    rw [hy2] at hcr hasc
                    have xr : ∀ qq : Later wr, qq.world.cell? ⟨g, off + r, none⟩ = some (.int .i64 y2) := fun qq => qq.cell hcr
                    have d3 : decide (y ≤ y2) = false := dF (by omega)
                    clear hasc hcr hy2 hq0
                    have HRq := Lib.hid hr
                    clear hr
                    clear hrow hc hy
                    go_wp2_with fail
                    refine wp_region_later (by kernel_rfl) (by kernel_rfl) ?_
                    repeat (first
                      | (go_big_quiet_step ((first | (with_reducible rfl) | exact Later.same (parent_q b F 32 n ps live _ y pr (HPi.out.still (Later.ok _)) (by omega) HPR.out) | exact Later.same (HH.out _ (Later.ok _)))))
                      | (quiet_step (fail)))
                    refine wpQuiet_nil ?_
                    intro wq hw'
                    obtain ⟨⟨wq', hwq⟩, hwe⟩ := hw'
                    have hwe : wq = wq' := hwe
                    subst hwe
                    have HTq := Lib.hid (HTi.out.trans hwq)
                    clear hwe hwq xq xr
                    go_wp2
                    go_roundw
                    case rel => exact ⟨q + 1, by omega, by go_num, HTq.out⟩
                    case measure => simp [intOf]; omega
              · have hltq : ¬ (q : Int) < (m : Int) := by omega
                go_wp2
                go_roundw
                case rel => exact ⟨i0 + 1, by omega, by omega, by go_num, HTu.out.trans HTi.out⟩
                case measure => simp [intOf]; omega
          · have dp : decide (0 < p0) = false := dF hp00
            obtain ⟨wu, hwu⟩ : ∃ wu, w5 = wu := ⟨_, rfl⟩
            subst hwu
            have HTu := HT5
            have HXs := HX5
            have HPu := Lib.hid (HP.out.still HTu.out)
            clear hab
            go_wp2_with fail
            go_loopw [11] (fun qi wr => ∃ (q : Nat), q ≤ m ∧ qi = .int .i64 q ∧ Touch [] w5 wr) (fun qi _ => m + 1 - (intOf qi).toNat)
            case atStart => exact ⟨0, by omega, rfl, Touch.refl _ _⟩
            case round =>
              obtain ⟨q, hq, rfl, hti⟩ := hrel
              have HTi := Lib.hid hti
              have HQi := Lib.hid (HXs.out.touch hti (fun _ _ => by simp))
              have HPi := Lib.hid (HPu.out.still hti)
              clear hti
              by_cases hqm : q < m
              · have hltq : (q : Int) < (m : Int) := by omega
                have hsl := HQi.out
                obtain ⟨ad0, cap0, he0, hrw⟩ := hsl
                simp only [Value.slice.injEq] at he0
                obtain ⟨e1, -, e3⟩ := he0
                subst e1
                subst e3
                rcases hrw with h | ⟨g, off, rfl, hg, hrow⟩
                · exfalso; rw [h] at hm; simp at hm; omega
                have hq2 : q < xs.length := by omega
                have hc := hrow q hq2
                obtain ⟨y, hy⟩ : ∃ y, xs.getD q 0 = y := ⟨_, rfl⟩
                rw [hy] at hc
                have hymem : y ∈ xs := by rw [← hy, List.getD_eq_getElem?_getD, List.getElem?_eq_getElem hq2]; simp
                have xq : ∀ qq : Later wr, qq.world.cell? ⟨g, off + q, none⟩ = some (.int .i64 y) := fun qq => qq.cell hc
                obtain ⟨pr, hpr⟩ : ∃ pr, fieldOf ps n y 1 = pr := ⟨_, rfl⟩
                have hp2 : pr = (i0 : Int) ∨ pr ∈ xs := by rw [← hpr]; exact HUf.out.par y hymem
                have HPR := Lib.hid hpr
                clear hpr hymem
                by_cases hp1 : pr = (i0 : Int)
                · by_cases hq0 : q = 0
                  · have d1 : (pr != (i0 : Int)) = false := bneF hp1
                    clear hp1
                    have d2 : decide ((0 : Int) < (q : Int)) = false := dF (by omega)
                    have d2n : decide (0 < q) = false := dF (by omega)
                    clear hq0
                    clear hrow hc hy
                    go_wp2_with fail
                    refine wp_region_later (by kernel_rfl) (by kernel_rfl) ?_
                    repeat (first
                      | (go_big_quiet_step ((first | (with_reducible rfl) | exact Later.same (parent_q b F 32 n ps live _ y pr (HPi.out.still (Later.ok _)) (by omega) HPR.out))))
                      | (quiet_step (fail)))
                    refine wpQuiet_nil ?_
                    intro wq hw'
                    obtain ⟨⟨wq', hwq⟩, hwe⟩ := hw'
                    have hwe : wq = wq' := hwe
                    subst hwe
                    have HTq := Lib.hid (HTi.out.trans hwq)
                    clear hwe hwq xq
                    go_wp2
                    go_roundw
                    case rel => exact ⟨q + 1, by omega, by go_num, HTq.out⟩
                    case measure => simp [intOf]; omega
                  · have d1 : (pr != (i0 : Int)) = false := bneF hp1
                    clear hp1
                    have d2 : decide ((0 : Int) < (q : Int)) = true := dT (by omega)
                    have d2n : decide (0 < q) = true := dT (by omega)
                    obtain ⟨r, hr⟩ : ∃ r : Nat, q = r + 1 := ⟨q - 1, by omega⟩
                    have v1 : IntKind.i64.wrap ((q : Int) - 1) = (r : Int) := by rw [show (q : Int) - 1 = (r : Int) from by omega]; exact IntWalk.i64_in _ (by omega)
                    have hrm : (r : Int) < (m : Int) := by omega
                    have hasc : xs.getD r 0 < xs.getD q 0 := by
                      have h1 : r < xs.length := by omega
                      have h2 : q < xs.length := by omega
                      rw [List.getD_eq_getElem?_getD, List.getD_eq_getElem?_getD, List.getElem?_eq_getElem h1, List.getElem?_eq_getElem h2]
                      exact List.pairwise_iff_getElem.1 HUf.out.asc r q h1 h2 (by omega)
                    rw [hy] at hasc
                    have hcr := hrow r (by omega)
                    obtain ⟨y2, hy2⟩ : ∃ y2, xs.getD r 0 = y2 := ⟨_, rfl⟩
                    rw [hy2] at hcr hasc
                    have xr : ∀ qq : Later wr, qq.world.cell? ⟨g, off + r, none⟩ = some (.int .i64 y2) := fun qq => qq.cell hcr
                    have d3 : decide (y ≤ y2) = false := dF (by omega)
                    clear hasc hcr hy2 hq0
                    have HRq := Lib.hid hr
                    clear hr
                    clear hrow hc hy
                    go_wp2_with fail
                    refine wp_region_later (by kernel_rfl) (by kernel_rfl) ?_
                    repeat (first
                      | (go_big_quiet_step ((first | (with_reducible rfl) | exact Later.same (parent_q b F 32 n ps live _ y pr (HPi.out.still (Later.ok _)) (by omega) HPR.out))))
                      | (quiet_step (fail)))
                    refine wpQuiet_nil ?_
                    intro wq hw'
                    obtain ⟨⟨wq', hwq⟩, hwe⟩ := hw'
                    have hwe : wq = wq' := hwe
                    subst hwe
                    have HTq := Lib.hid (HTi.out.trans hwq)
                    clear hwe hwq xq xr
                    go_wp2
                    go_roundw
                    case rel => exact ⟨q + 1, by omega, by go_num, HTq.out⟩
                    case measure => simp [intOf]; omega
                · have hp2 : pr ∈ xs := hp2.resolve_left hp1
                  by_cases hq0 : q = 0
                  · have d1 : (pr != (i0 : Int)) = true := bneT hp1
                    have HH := Lib.hid (fun (w' : World) (ht : Touch [] wr w') => has_l _ xs pr w' (HQi.out.touch ht (fun _ _ => by simp)) (by omega))
                    rw [dT hp2] at HH
                    clear hp2
                    clear hp1
                    have d2 : decide ((0 : Int) < (q : Int)) = false := dF (by omega)
                    have d2n : decide (0 < q) = false := dF (by omega)
                    clear hq0
                    clear hrow hc hy
                    go_wp2_with fail
                    refine wp_region_later (by kernel_rfl) (by kernel_rfl) ?_
                    repeat (first
                      | (go_big_quiet_step ((first | (with_reducible rfl) | exact Later.same (parent_q b F 32 n ps live _ y pr (HPi.out.still (Later.ok _)) (by omega) HPR.out) | exact Later.same (HH.out _ (Later.ok _)))))
                      | (quiet_step (fail)))
                    refine wpQuiet_nil ?_
                    intro wq hw'
                    obtain ⟨⟨wq', hwq⟩, hwe⟩ := hw'
                    have hwe : wq = wq' := hwe
                    subst hwe
                    have HTq := Lib.hid (HTi.out.trans hwq)
                    clear hwe hwq xq
                    go_wp2
                    go_roundw
                    case rel => exact ⟨q + 1, by omega, by go_num, HTq.out⟩
                    case measure => simp [intOf]; omega
                  · have d1 : (pr != (i0 : Int)) = true := bneT hp1
                    have HH := Lib.hid (fun (w' : World) (ht : Touch [] wr w') => has_l _ xs pr w' (HQi.out.touch ht (fun _ _ => by simp)) (by omega))
                    rw [dT hp2] at HH
                    clear hp2
                    clear hp1
                    have d2 : decide ((0 : Int) < (q : Int)) = true := dT (by omega)
                    have d2n : decide (0 < q) = true := dT (by omega)
                    obtain ⟨r, hr⟩ : ∃ r : Nat, q = r + 1 := ⟨q - 1, by omega⟩
                    have v1 : IntKind.i64.wrap ((q : Int) - 1) = (r : Int) := by rw [show (q : Int) - 1 = (r : Int) from by omega]; exact IntWalk.i64_in _ (by omega)
                    have hrm : (r : Int) < (m : Int) := by omega
                    have hasc : xs.getD r 0 < xs.getD q 0 := by
                      have h1 : r < xs.length := by omega
                      have h2 : q < xs.length := by omega
                      rw [List.getD_eq_getElem?_getD, List.getD_eq_getElem?_getD, List.getElem?_eq_getElem h1, List.getElem?_eq_getElem h2]
                      exact List.pairwise_iff_getElem.1 HUf.out.asc r q h1 h2 (by omega)
                    rw [hy] at hasc
                    have hcr := hrow r (by omega)
                    obtain ⟨y2, hy2⟩ : ∃ y2, xs.getD r 0 = y2 := ⟨_, rfl⟩
                    rw [hy2] at hcr hasc
                    have xr : ∀ qq : Later wr, qq.world.cell? ⟨g, off + r, none⟩ = some (.int .i64 y2) := fun qq => qq.cell hcr
                    have d3 : decide (y ≤ y2) = false := dF (by omega)
                    clear hasc hcr hy2 hq0
                    have HRq := Lib.hid hr
                    clear hr
                    clear hrow hc hy
                    go_wp2_with fail
                    refine wp_region_later (by kernel_rfl) (by kernel_rfl) ?_
                    repeat (first
                      | (go_big_quiet_step ((first | (with_reducible rfl) | exact Later.same (parent_q b F 32 n ps live _ y pr (HPi.out.still (Later.ok _)) (by omega) HPR.out) | exact Later.same (HH.out _ (Later.ok _)))))
                      | (quiet_step (fail)))
                    refine wpQuiet_nil ?_
                    intro wq hw'
                    obtain ⟨⟨wq', hwq⟩, hwe⟩ := hw'
                    have hwe : wq = wq' := hwe
                    subst hwe
                    have HTq := Lib.hid (HTi.out.trans hwq)
                    clear hwe hwq xq xr
                    go_wp2
                    go_roundw
                    case rel => exact ⟨q + 1, by omega, by go_num, HTq.out⟩
                    case measure => simp [intOf]; omega
              · have hltq : ¬ (q : Int) < (m : Int) := by omega
                go_wp2
                go_roundw
                case rel => exact ⟨i0 + 1, by omega, by omega, by go_num, HTu.out.trans HTi.out⟩
                case measure => simp [intOf]; omega
        · have hlti : ¬ (i0 : Int) ≤ (n : Int) := by omega
          go_wp2_with fail
          refine (under_nil _).mono ?_
          rintro e w8 ⟨rfl, ht8⟩
          go_wp2_with fail
          refine (awake_any _).mono ?_
          rintro e w9 ⟨rfl, ht⟩
          go_wp2
          go_ret
          exact ⟨rfl, (((HA.out.t.trans HT3.out).trans ht8).trans ht).below (Nat.le_refl _) (by simp)⟩
theorem unders_any (v : Value) (zs : List Int) (w : World) (hs : Sl w v zs) (hi : ∀ y ∈ zs, InI y) (hl : zs.length ≤ maxLen) :
    Calls Try.prog 5 #[v] w fun e w' => e = .returned (.bool true) ∧ Below w.heap.size w w' := by
  by_cases h : 25 < zs.length
  · exact unders_1 v zs w hs hl h
  · exact unders_in v zs w hs hi (by omega)
end Go.Proofs.Ytjcbcbhiophkfaa
