/-
  The law of frames, inside its bounds.
-/
import Derived.Test.YtgljkjjanffncaaT8
set_option linter.unusedVariables false
namespace Go.Proofs.Ytgljkjjanffncaa
open Go.RowKit Go.BigFrame

set_option maxRecDepth 100000 in
set_option maxHeartbeats 32000000 in
theorem frames_in (va : Value) (xs : List Int) (pa lc : Nat) (vb : Value) (ys : List Int) (back : Int) (w : World) (ha : Sl w va xs) (ma : xs.length ≤ 20) (hb : Sl w vb ys) (mb : ys.length ≤ 20) (qp : pa ≤ xs.length) (qc : pa ≤ lc) (ql : lc ≤ 20) :
    Calls Try.prog 4 #[va, .int .i64 pa, .int .i64 lc, vb, .int .i64 back] w fun e w' => e = .returned (.bool true) ∧ Below w.heap.size w w' := by
  have HA := Lib.hid ha
  have HBB := Lib.hid hb
  obtain ⟨a, c, rfl, ra⟩ := ha
  obtain ⟨a', c', rfl, rb⟩ := hb
  obtain ⟨n, hn⟩ : ∃ n, xs.length = n := ⟨_, rfl⟩
  obtain ⟨m, hm⟩ : ∃ m, ys.length = m := ⟨_, rfl⟩
  have HN := Lib.hid hn
  have HM := Lib.hid hm
  rw [hn] at ma qp HA ⊢
  rw [hm] at mb HBB ⊢
  clear ra rb hn hm
  have q0 : decide ((20 : Int) < (n : Int)) = false := dF (by omega)
  have q1 : decide ((20 : Int) < (m : Int)) = false := dF (by omega)
  have q2 : decide ((pa : Int) < 0) = false := dF (by omega)
  have q3 : decide ((n : Int) < (pa : Int)) = false := dF (by omega)
  have q4 : decide ((lc : Int) < (pa : Int)) = false := dF (by omega)
  have q5 : decide ((20 : Int) < (lc : Int)) = false := dF (by omega)
  go_enter Try.func4, Try.ntmps4
  go_wp2_with fail
  refine (snew_ok 200 (by omega) _).mono ?_
  rintro e w1 ⟨sb, g, rfl, hst, hsb, hg, ht⟩
  have HS := Lib.hid hst
  have HT := Lib.hid ht
  have HB : Hid (w.heap.size ≤ sb ∧ w.heap.size ≤ g) := Lib.hid ⟨hsb, hg⟩
  clear hst ht hsb hg q0 q1 q2 q3 q4 q5
  go_wp2_with fail
  refine (knew_yes sb g 200 0 100 (fun _ => 0) _ HS.out (by omega) (by omega)).mono ?_
  rintro e w2 ⟨rfl, hk, ht⟩
  have HX : Hid (w.heap.size ≤ w1.heap.size) := Lib.hid HT.out.size
  obtain ⟨k, hkk⟩ : ∃ k, w1.heap.size = k := ⟨_, rfl⟩
  rw [hkk] at hk HX ⊢
  have HK := Lib.hid hk
  have HT := Lib.hid ((HT.out.trans ht).mono (S' := [k, g]) (by simp))
  clear hk ht HS hkk
  go_wp2_with fail
  go_loopw [14] (fun i wr => ∃ j : Nat, j ≤ n ∧ i = .int .i64 j ∧ Kv wr k sb g (lay (fun _ => 0) 0 xs j) 200 0 0 0 j 0 100 ∧ Touch [k, g] w wr) (fun i _ => n + 1 - (intOf i).toNat)
  case atStart => exact ⟨0, by omega, rfl, by rw [lay_zero]; exact HK.out, HT.out⟩
  case round =>
    obtain ⟨j, hj, rfl, hk, ht⟩ := hrel
    have HT := Lib.hid ht
    have HK := Lib.hid hk
    clear hk ht
    by_cases hjn : j < n
    · obtain ⟨g1, off, rfl, hc⟩ := Sl.get HA.out (below_kg HT.out HX.out HB.out.2) j (by rw [HN.out]; exact hjn)
      have HP := Lib.hid (push_yes k sb g (lay (fun _ => 0) 0 xs j) 200 0 0 0 j 0 100 _ (xs.getD j 0) HK.out (by omega))
      rw [lay_succ (fun _ => 0) 0 xs j (0 + j) (by omega)] at HP
      clear HK
      generalize xs.getD j 0 = z at *
      go_wp2_with fail
      refine HP.out.mono ?_
      rintro e w1 ⟨rfl, hk, ht⟩
      have HK := Lib.hid hk
      have HT := Lib.hid (HT.out.trans ht)
      clear hk ht
      clear HP
      go_wp2
      go_roundw
      case rel => exact ⟨j + 1, by omega, by go_num, HK.out, HT.out⟩
      case measure => simp [intOf]; omega
    · have hjn' : j = n := by omega
      rw [hjn'] at HK ⊢
      clear hjn'
      clear hjn hj
      obtain ⟨f1, hf1⟩ : ∃ f1, lay (fun _ => 0) 0 xs n = f1 := ⟨_, rfl⟩
      rw [hf1] at HK
      have HP := Lib.hid (call_yes k sb g f1 200 n 0 100 _ back pa lc HK.out qc (by omega) (by omega))
      have F2L : Hid (∀ i, i < n → callF f1 0 n pa lc back i = xs.getD i 0) := Lib.hid (fun i hi => by
        rw [call_lo _ _ _ _ _ _ qc qp hi, ← hf1, lay_in _ _ _ _ hi])
      have F2N : Hid (∀ i, n ≤ i → i < n - pa + lc → callF f1 0 n pa lc back i = 0) := Lib.hid (fun i hi h2 => call_new _ _ _ _ _ _ qc qp hi h2)
      have F2B : Hid (callF f1 0 n pa lc back (0 + (n - pa) + lc) = back) := Lib.hid (call_back _ _ _ _ _ _ (by omega))
      have F2K : Hid (callF f1 0 n pa lc back (0 + (n - pa) + lc + 1) = 0) := Lib.hid (call_link _ _ _ _ _ _ (by omega))
      obtain ⟨f2, hf2⟩ : ∃ f2, callF f1 0 n pa lc back = f2 := ⟨_, rfl⟩
      rw [hf2] at HP F2L F2N F2B F2K
      obtain ⟨ba, hba⟩ : ∃ ba, n - pa = ba := ⟨_, rfl⟩
      rw [hba] at HP F2N F2B F2K
      obtain ⟨np, hnp⟩ : ∃ np, ba + lc + 2 = np := ⟨_, rfl⟩
      rw [hnp] at HP
      have HBA := Lib.hid hba
      have HNP := Lib.hid hnp
      clear hf1 hf2 hba hnp HK
      go_wp2_with fail
      refine HP.out.mono ?_
      rintro e w1 ⟨rfl, hk, ht⟩
      have HK := Lib.hid hk
      have HT := Lib.hid (HT.out.trans ht)
      clear hk ht
      have HP := Lib.hid (operands_q k sb g f2 200 1 ba lc np 0 100 _ HK.out (by have := HNP.out; show ba + lc + 2 ≤ np; omega))
      rw [show np - flo 1 ba lc = 0 from by have := HNP.out; show np - (ba + lc + 2) = 0; omega] at HP
      go_wp2_with fail
      refine HP.out.mono ?_
      rintro e w2 ⟨rfl, ht⟩
      have HK := Lib.hid (HK.out.still ht)
      have HT := Lib.hid (HT.out.trans (ht.mono (by simp)))
      clear ht
      have HP := Lib.hid (frames_q k sb g f2 200 1 ba lc np 0 100 _ HK.out)
      go_wp2_with fail
      refine HP.out.mono ?_
      rintro e w3 ⟨rfl, rfl⟩
      have HP := Lib.hid (len_q k sb g f2 200 1 ba lc np 0 100 _ HK.out)
      have v10 : IntKind.i64.wrap ((n : Int) + 2) = (n : Int) + 2 := IntWalk.i64_in _ (by omega)
      have v11 : IntKind.i64.wrap ((n : Int) + 2 + (lc : Int)) = (n : Int) + 2 + (lc : Int) := IntWalk.i64_in _ (by omega)
      have v12 : IntKind.i64.wrap ((n : Int) + 2 + (lc : Int) - (pa : Int)) = (np : Int) := by have := HBA.out; have := HNP.out; rw [show (n : Int) + 2 + (lc : Int) - (pa : Int) = (np : Int) from by omega]; exact IntWalk.i64_in _ (by omega)
      go_wp2_with fail
      refine HP.out.mono ?_
      rintro e w3 ⟨rfl, rfl⟩
      clear HP
      go_wp2_with fail
      clear v10 v11 v12
      go_loopw [15, 16, 17, 18] (fun i y1 y2 y3 wr => ∃ (q : Nat) (y1' y2' y3' : Value), q ≤ lc ∧ i = .int .i64 q ∧ y1 = y1' ∧ y2 = y2' ∧ y3 = y3' ∧ Kv wr k sb g f2 200 1 ba lc np 0 100 ∧ Touch [k, g] w wr) (fun i _ _ _ _ => lc + 1 - (intOf i).toNat)
      case atStart => exact ⟨0, _, _, _, by omega, rfl, rfl, rfl, rfl, HK.out, HT.out⟩
      case round =>
        obtain ⟨j, y1, y2, y3, hj, rfl, rfl, rfl, rfl, hk, ht⟩ := hrel
        have HT := Lib.hid ht
        have HK := Lib.hid hk
        clear hk ht
        by_cases hjl : j < lc
        · have HP := Lib.hid (local_yes k sb g f2 200 ba lc np 0 100 _ 1 j HK.out (by omega) hjl (by have := HBA.out; omega))
          by_cases hjp : j < pa
          · obtain ⟨g1, off, rfl, hc⟩ := Sl.get HA.out (below_kg HT.out HX.out HB.out.2) (ba + j) (by rw [HN.out]; have := HBA.out; omega)
            have HC0 := Lib.hid hc
            clear hc
            rw [show 0 + ba + j = ba + j from by omega, F2L.out (ba + j) (by have := HBA.out; omega)] at HP
            obtain ⟨ix, hix⟩ : ∃ ix, ba + j = ix := ⟨_, rfl⟩
            rw [hix] at HP HC0
            obtain ⟨z, hz⟩ : ∃ z, xs.getD ix 0 = z := ⟨_, rfl⟩
            rw [hz] at HP HC0
            have HIX := Lib.hid hix
            have HZ := Lib.hid hz
            clear hix hz
            go_wp2_with fail
            refine HP.out.mono ?_
            rintro e w3 ⟨rfl, ht⟩
            have HC : Hid (w3.cell? ⟨g1, off + ix, none⟩ = some (.int .i64 z)) := Lib.hid (by
              obtain ⟨g2, off2, he, hc2⟩ := Sl.get HA.out (below_kg (HT.out.trans (ht.mono (by simp))) HX.out HB.out.2) ix (by rw [HN.out]; have := HBA.out; have := HIX.out; omega)
              rw [HZ.out] at hc2
              cases he; exact hc2)
            have HK := Lib.hid (HK.out.still ht)
            have HT := Lib.hid (HT.out.trans (ht.mono (by simp)))
            clear ht
            clear HP HC0
            have v20 : IntKind.i64.wrap ((n : Int) - (pa : Int)) = (ba : Int) := by have := HBA.out; rw [show (n : Int) - (pa : Int) = ((ba : Nat) : Int) from by omega]; exact IntWalk.i64_in _ (by omega)
            have v21 : IntKind.i64.wrap ((ba : Int) + (j : Int)) = (ix : Int) := by have := HBA.out; have := HIX.out; rw [show (ba : Int) + (j : Int) = (ix : Int) from by omega]; exact IntWalk.i64_in _ (by omega)
            have hlt : ix < n := by have := HBA.out; have := HIX.out; omega
            have hc := HC.out
            go_wp2
            go_roundw
            case rel => exact ⟨j + 1, _, _, _, by omega, by go_num, rfl, rfl, rfl, HK.out, HT.out⟩
            case measure => simp [intOf]; omega
          · rw [F2N.out (0 + ba + j) (by have := HBA.out; omega) (by omega)] at HP
            go_wp2_with fail
            refine HP.out.mono ?_
            rintro e w3 ⟨rfl, ht⟩
            have HK := Lib.hid (HK.out.still ht)
            have HT := Lib.hid (HT.out.trans (ht.mono (by simp)))
            clear ht
            clear HP
            go_wp2
            go_roundw
            case rel => exact ⟨j + 1, _, _, _, by omega, by go_num, rfl, rfl, rfl, HK.out, HT.out⟩
            case measure => simp [intOf]; omega
        · go_wp2_with fail
          clear hj hjl
          go_loopw [19] (fun i wr => ∃ j : Nat, j ≤ m ∧ i = .int .i64 j ∧ Kv wr k sb g (lay f2 np ys j) 200 1 ba lc (np + j) 0 100 ∧ Touch [k, g] w wr) (fun i _ => m + 1 - (intOf i).toNat)
          case atStart => exact ⟨0, by omega, rfl, by rw [lay_zero]; exact HK.out, HT.out⟩
          case round =>
            obtain ⟨j, hj, rfl, hk, ht⟩ := hrel
            have HT := Lib.hid ht
            have HK := Lib.hid hk
            clear hk ht
            by_cases hjm : j < m
            · obtain ⟨g1, off, rfl, hc⟩ := Sl.get HBB.out (below_kg HT.out HX.out HB.out.2) j (by rw [HM.out]; exact hjm)
              have HP := Lib.hid (push_yes k sb g (lay f2 np ys j) 200 1 ba lc (np + j) 0 100 _ (ys.getD j 0) HK.out (by have := HNP.out; have := HBA.out; omega))
              rw [lay_succ f2 np ys j (0 + (np + j)) (by omega)] at HP
              clear HK
              generalize ys.getD j 0 = z at *
              go_wp2_with fail
              refine HP.out.mono ?_
              rintro e w1 ⟨rfl, hk, ht⟩
              have HK := Lib.hid hk
              have HT := Lib.hid (HT.out.trans ht)
              clear hk ht
              clear HP
              go_wp2
              go_roundw
              case rel => exact ⟨j + 1, by omega, by go_num, HK.out, HT.out⟩
              case measure => simp [intOf]; omega
            · have hjm' : j = m := by omega
              subst hjm'
              obtain ⟨f3, hf3⟩ : ∃ f3, lay f2 np ys j = f3 := ⟨_, rfl⟩
              rw [hf3] at HK
              have F3L : Hid (∀ i, i < ba → f3 i = xs.getD i 0) := Lib.hid (fun i hi => by
                rw [← hf3, lay_lo _ _ _ _ _ (by have := HNP.out; omega), F2L.out i (by have := HBA.out; omega)])
              have F3B : Hid (f3 (0 + ba + lc) = back) := Lib.hid (by
                rw [← hf3, lay_lo _ _ _ _ _ (by have := HNP.out; omega), F2B.out])
              have F3K : Hid (f3 (0 + ba + lc + 1) = 0) := Lib.hid (by
                rw [← hf3, lay_lo _ _ _ _ _ (by have := HNP.out; omega), F2K.out])
              clear hf3 hj hjm
              have HP := Lib.hid (ret_yes k sb g f3 200 ba lc (np + j) 0 100 _ HK.out F3K.out (by have := HNP.out; omega))
              rw [F3B.out] at HP
              clear HK
              go_wp2_with fail
              refine HP.out.mono ?_
              rintro e w1 ⟨rfl, hk, ht⟩
              have HK := Lib.hid hk
              have HT := Lib.hid (HT.out.trans ht)
              clear hk ht
              have HP := Lib.hid (operands_q k sb g f3 200 0 0 0 ba 0 100 _ HK.out (Nat.zero_le _))
              rw [show ba - flo 0 0 0 = ba from rfl] at HP
              have v30 : IntKind.i64.wrap ((n : Int) - (pa : Int)) = ((ba : Nat) : Int) := by have := HBA.out; rw [show (n : Int) - (pa : Int) = ((ba : Nat) : Int) from by omega]; exact IntWalk.i64_in _ (by omega)
              go_wp2_with fail
              refine HP.out.mono ?_
              rintro e w2 ⟨rfl, ht⟩
              have HK := Lib.hid (HK.out.still ht)
              have HT := Lib.hid (HT.out.trans (ht.mono (by simp)))
              clear ht
              have HP := Lib.hid (frames_q k sb g f3 200 0 0 0 ba 0 100 _ HK.out)
              go_wp2_with fail
              refine HP.out.mono ?_
              rintro e w3 ⟨rfl, rfl⟩
              have HP := Lib.hid (len_q k sb g f3 200 0 0 0 ba 0 100 _ HK.out)
              go_wp2_with fail
              refine HP.out.mono ?_
              rintro e w3 ⟨rfl, rfl⟩
              clear HP
              have v40 : IntKind.i64.wrap ((ba : Int) - 1) = (ba : Int) - 1 := IntWalk.i64_in _ (by have := HBA.out; omega)
              go_wp2_with fail
              go_loopw [22, 23, 24] (fun i y c wr => ∃ (q : Nat) (y' c' : Value), q ≤ ba ∧ i = .int .i64 ((q : Int) - 1) ∧ y = y' ∧ c = c' ∧ Kv wr k sb g f3 200 0 0 0 q 0 100 ∧ Touch [k, g] w wr) (fun i _ _ _ => (intOf i + 1).toNat)
              case atStart => exact ⟨ba, _, _, by omega, rfl, rfl, rfl, HK.out, HT.out⟩
              case round =>
                have hba : ba ≤ n := by have := HBA.out; omega
                have hbn : ba ≤ 20 := by omega
                obtain ⟨q, y4, c4, hq, rfl, rfl, rfl, hk, ht⟩ := hrel
                have HT := Lib.hid ht
                have HK := Lib.hid hk
                clear hk ht v40
                by_cases hq0 : q = 0
                · subst hq0
                  clear hq
                  go_wp2_with fail
                  refine (awake_any _).mono ?_
                  rintro e w' ⟨rfl, ht⟩
                  have HT2 := Lib.hid ht
                  clear ht
                  go_wp2
                  go_ret
                  exact ⟨rfl, below_awake HT.out HX.out HB.out.2 HT2.out⟩
                · obtain ⟨p, rfl⟩ : ∃ p, q = p + 1 := ⟨q - 1, by omega⟩
                  have HP := Lib.hid (pop_yes k sb g f3 200 0 0 0 (p + 1) 0 100 _ HK.out (by show (0:Nat) < _; omega))
                  rw [F3L.out (0 + (p + 1) - 1) (by omega), Nat.add_sub_cancel, show 0 + (p + 1) - 1 = p from by omega] at HP
                  rw [show ((p + 1 : Nat) : Int) - 1 = (p : Int) from by omega]
                  have v2 : IntKind.i64.wrap ((p : Int) - 1) = (p : Int) - 1 := IntWalk.i64_in _ (by omega)
                  obtain ⟨g1, off, rfl, hc⟩ := Sl.get HA.out (below_kg HT.out HX.out HB.out.2) p (by rw [HN.out]; omega)
                  obtain ⟨z, hz⟩ : ∃ z, xs.getD p 0 = z := ⟨_, rfl⟩
                  rw [hz] at HP
                  have HZ := Lib.hid hz
                  clear hq0 hc HK hz
                  go_wp2_with fail
                  refine HP.out.mono ?_
                  rintro e w3 ⟨rfl, hk, ht⟩
                  have HC : Hid (w3.cell? ⟨g1, off + p, none⟩ = some (.int .i64 z)) := Lib.hid (by
                    obtain ⟨g2, off2, he, hc2⟩ := Sl.get HA.out (below_kg (HT.out.trans ht) HX.out HB.out.2) p (by rw [HN.out]; omega)
                    rw [HZ.out] at hc2
                    cases he; exact hc2)
                  have HK := Lib.hid hk
                  have HT := Lib.hid (HT.out.trans ht)
                  clear hk ht HP
                  have hc := HC.out
                  have hpn : (p : Int) < (n : Int) := by omega
                  have hpn' : p < n := by omega
                  go_wp2
                  go_roundw
                  case rel => exact ⟨p, _, _, by omega, rfl, rfl, rfl, HK.out, HT.out⟩
                  case measure => first | (simp [intOf]; done) | (simp [intOf]; omega)
theorem frames_any (va : Value) (xs : List Int) (pa lc : Int) (vb : Value) (ys : List Int) (back : Int) (w : World) (ha : Sl w va xs) (_ : ∀ y ∈ xs, InI y) (ma : xs.length ≤ maxLen) (_ : (Lit.int .i64 pa).wf = true) (_ : (Lit.int .i64 lc).wf = true) (hb : Sl w vb ys) (_ : ∀ y ∈ ys, InI y) (mb : ys.length ≤ maxLen) (_ : (Lit.int .i64 back).wf = true) :
    Calls Try.prog 4 #[va, .int .i64 pa, .int .i64 lc, vb, .int .i64 back] w fun e w' => e = .returned (.bool true) ∧ Below w.heap.size w w' := by
  by_cases h0 : 20 < xs.length
  · exact frames_no0 va xs pa lc vb ys back w ha ma hb mb h0
  by_cases h1 : 20 < ys.length
  · exact frames_no1 va xs pa lc vb ys back w ha ma hb mb h0 h1
  by_cases h2 : pa < 0
  · exact frames_no2 va xs pa lc vb ys back w ha ma hb mb h0 h1 h2
  by_cases h3 : (xs.length : Int) < pa
  · exact frames_no3 va xs pa lc vb ys back w ha ma hb mb h0 h1 h2 h3
  by_cases h4 : lc < pa
  · exact frames_no4 va xs pa lc vb ys back w ha ma hb mb h0 h1 h2 h3 h4
  by_cases h5 : 20 < lc
  · exact frames_no5 va xs pa lc vb ys back w ha ma hb mb h0 h1 h2 h3 h4 h5
  obtain ⟨p, rfl⟩ : ∃ p : Nat, pa = p := ⟨pa.toNat, by omega⟩
  obtain ⟨l, rfl⟩ : ∃ l : Nat, lc = l := ⟨lc.toNat, by omega⟩
  exact frames_in va xs p l vb ys back w ha (by omega) hb (by omega) (by omega) (by omega) (by omega)
end Go.Proofs.Ytgljkjjanffncaa
