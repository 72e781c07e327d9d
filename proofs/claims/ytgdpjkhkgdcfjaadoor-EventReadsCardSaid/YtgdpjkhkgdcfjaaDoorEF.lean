/-
  Events read: the reference's ReadEvent.
-/
import Derived.Test.YtgdpjkhkgdcfjaaDoorEE
import Derived.Test.YtgdpjkhkgdcfjaaDoorEC
set_option linter.unusedVariables false
namespace Go.Proofs.YtgdpjkhkgdcfjaaDoor
open Go Go.RowKit

noncomputable def xv (p : List UInt8) : Int := (numL p).getD 0
noncomputable def okb (p : List UInt8) : Bool := (numL p).isSome
theorem num_val (p : List UInt8) (w : World) (hs : (mk p).size ≤ 1000000) : Calls Tryd.prog 24 #[.string (mk p)] w fun e w' => e = .returned (.tuple #[.int .i64 (xv p), .bool (okb p)]) ∧ w = w' := by
  refine (num_any (mk p) w (by omega)).mono ?_
  rintro e w' ⟨rfl, ⟨x, hx, rfl⟩ | ⟨hx, rfl⟩⟩
  · rw [mk_list] at hx
    unfold xv okb
    rw [hx]
    exact ⟨rfl, rfl⟩
  · rw [mk_list] at hx
    unfold xv okb
    rw [hx]
    exact ⟨rfl, rfl⟩
theorem okb_some {p : List UInt8} (h : okb p = true) : numL p = some (xv p) := by
  unfold okb at h
  unfold xv
  cases hn : numL p with
  | none => rw [hn] at h; cases h
  | some x => rfl
theorem okb_none {p : List UInt8} (h : okb p = false) : numL p = none := by
  unfold okb at h
  cases hn : numL p with
  | none => rfl
  | some x => rw [hn] at h; cases h
set_option maxHeartbeats 32000000 in
set_option maxRecDepth 100000 in
theorem reread_any (s : ByteArray) (hs : s.size ≤ 1000000) (w : World) (hv : Vs w) : Calls Tryd.prog 12 #[.string s] w (ReadEP (rdE s) w) := by
  have t0 := (Touch.refl [] w).alloc (.cells #[.int .i64 0, .int .i64 0, .int .i64 0, .int .i64 0, .int .i64 0] 23)
  have hb2 : Blk (w.alloc (.cells #[.int .i64 0, .int .i64 0, .int .i64 0, .int .i64 0, .int .i64 0] 23)) w.heap.size #[.int .i64 0, .int .i64 0, .int .i64 0, .int .i64 0, .int .i64 0] 23 := Blk.new rfl
  have HV := Lib.hid hv
  have HT0 := Lib.hid t0
  have HB2 := Lib.hid hb2
  clear hv t0 hb2
  go_enter Tryd.func12, Tryd.ntmps12
  go_wp2_with fail
  refine (words_any s _ (by omega)).mono ?_
  rintro e w1 ⟨v1, rfl, hws, ht1⟩
  obtain ⟨l, hl⟩ : ∃ l, (words s.data.toList).map mk = l := ⟨_, rfl⟩
  rw [hl] at hws
  obtain ⟨a1, cp, hv1⟩ := hws.form
  subst hv1
  have HT1 := Lib.hid (HT0.out.trans ht1)
  have HB2 := Lib.hid (HB2.out.touch ht1 (by simp))
  have hsz1 : w.heap.size + 1 ≤ w1.heap.size := by have := ht1.size; simpa using this
  obtain ⟨n, hn⟩ : ∃ n, l.length = n := ⟨_, rfl⟩
  have hnl : n ≤ 1000001 := by
    have h1 := words_length_le s.data.toList
    have h2 : s.data.toList.length = s.size := by rw [Array.length_toList]; rfl
    rw [← hn, ← hl, List.length_map]; omega
  have HW := Lib.hid hws
  have HL := Lib.hid hl
  have HN := Lib.hid hn
  rw [hn]
  clear hws ht1 hl hn
  by_cases h5 : n = 5
  · subst h5
    obtain ⟨w0, w1', w2', w3', w4', hw⟩ : ∃ a b c d e, words s.data.toList = [a, b, c, d, e] := by
      have hlen : (words s.data.toList).length = 5 := by have := HN.out; rw [← HL.out] at this; simpa using this
      match words s.data.toList, hlen with
      | [a, b, c, d, e], _ => exact ⟨a, b, c, d, e, rfl⟩
    have hlw : l = [mk w0, mk w1', mk w2', mk w3', mk w4'] := by rw [← HL.out, hw]; rfl
    have hsz : ∀ x ∈ [w0, w1', w2', w3', w4'], (mk x).size ≤ 1000000 := fun x hx => by
      have := words_mem_len s.data.toList x (by rw [hw]; exact hx)
      have hs' : s.data.toList.length = s.size := by rw [Array.length_toList]; rfl
      have e : (mk x).size = x.length := by
        show (mk x).data.size = _
        rw [← Array.length_toList, mk_list]
      omega
    have HS0 := Lib.hid (hsz w0 (by simp))
    have HS2 := Lib.hid (hsz w2' (by simp))
    have HS3 := Lib.hid (hsz w3' (by simp))
    have HS4 := Lib.hid (hsz w4' (by simp))
    have HWW := Lib.hid hw
    obtain ⟨g, hg, hcap, _⟩ := Ws.at HW.out (i := 0) (by have := HN.out; omega)
    subst hg
    have HC : Hid (∀ i, i < 5 → ∀ w', Touch [] w1 w' → w'.cell? ⟨g, i, none⟩ = some (.string (l.getD i ByteArray.empty))) := Lib.hid (fun i hi w' ht => by
      obtain ⟨g', hg', _, h⟩ := Ws.at HW.out (i := i) (by have := HN.out; omega)
      cases hg'
      exact h w' ht)
    have hcap5 : 5 ≤ cp := by have := HN.out; omega
    have c0 : w1.cell? ⟨g, 0, none⟩ = some (.string (mk w0)) := by have := HC.out 0 (by omega) _ (Touch.refl _ _); rw [hlw] at this; exact this
    have c2 : w1.cell? ⟨g, 2, none⟩ = some (.string (mk w2')) := by have := HC.out 2 (by omega) _ (Touch.refl _ _); rw [hlw] at this; exact this
    have c3 : w1.cell? ⟨g, 3, none⟩ = some (.string (mk w3')) := by have := HC.out 3 (by omega) _ (Touch.refl _ _); rw [hlw] at this; exact this
    have c4 : w1.cell? ⟨g, 4, none⟩ = some (.string (mk w4')) := by have := HC.out 4 (by omega) _ (Touch.refl _ _); rw [hlw] at this; exact this
    obtain ⟨p1, hp1⟩ : ∃ p1, mk w1' = p1 := ⟨_, rfl⟩
    have HC1 : Hid (∀ w', Touch [] w1 w' → w'.cell? ⟨g, 1, none⟩ = some (.string p1)) := Lib.hid (fun w' ht => by have := HC.out 1 (by omega) _ ht; rw [hlw] at this; rw [this, ← hp1]; rfl)
    have HP1 := Lib.hid hp1
    clear hw hlw hsz hp1 hcap
    go_wp2_with fail
    refine (num_val w0 _ HS0.out).mono ?_
    rintro e w2 ⟨rfl, rfl⟩
    go_wp2_with fail
    refine (num_val w2' _ HS2.out).mono ?_
    rintro e w2 ⟨rfl, rfl⟩
    go_wp2_with fail
    refine (num_val w3' _ HS3.out).mono ?_
    rintro e w2 ⟨rfl, rfl⟩
    go_wp2_with fail
    refine (num_val w4' _ HS4.out).mono ?_
    rintro e w2 ⟨rfl, rfl⟩
    obtain ⟨x0, hx0⟩ : ∃ x, xv w0 = x := ⟨_, rfl⟩
    obtain ⟨o0, ho0⟩ : ∃ o, okb w0 = o := ⟨_, rfl⟩
    rw [hx0, ho0]
    have HX0 := Lib.hid hx0
    have HO0 := Lib.hid ho0
    clear hx0 ho0
    obtain ⟨x2, hx2⟩ : ∃ x, xv w2' = x := ⟨_, rfl⟩
    obtain ⟨o2, ho2⟩ : ∃ o, okb w2' = o := ⟨_, rfl⟩
    rw [hx2, ho2]
    have HX2 := Lib.hid hx2
    have HO2 := Lib.hid ho2
    clear hx2 ho2
    obtain ⟨x3, hx3⟩ : ∃ x, xv w3' = x := ⟨_, rfl⟩
    obtain ⟨o3, ho3⟩ : ∃ o, okb w3' = o := ⟨_, rfl⟩
    rw [hx3, ho3]
    have HX3 := Lib.hid hx3
    have HO3 := Lib.hid ho3
    clear hx3 ho3
    obtain ⟨x4, hx4⟩ : ∃ x, xv w4' = x := ⟨_, rfl⟩
    obtain ⟨o4, ho4⟩ : ∃ o, okb w4' = o := ⟨_, rfl⟩
    rw [hx4, ho4]
    have HX4 := Lib.hid hx4
    have HO4 := Lib.hid ho4
    clear hx4 ho4
    clear c0 c2 c3 c4
    go_wp2
    go_loopw [13, 14] (fun dv kv wr => ∃ k : Nat, k ≤ 6 ∧ kv = .int .i64 ((k + 1 : Nat) : Int) ∧ dv = .int .i64 (kdN k p1) ∧ Touch [] w1 wr) (fun _ kv _ => 8 - (intOf kv).toNat)
    case atStart => exact ⟨0, by omega, rfl, rfl, Touch.refl _ _⟩
    case round =>
      obtain ⟨k, hk, rfl, rfl, ht⟩ := hrel
      have HTr := Lib.hid ht
      clear ht
      by_cases hlt : k < 6
      · have x1 : ∀ q : Later wr, q.world.cell? ⟨g, 1, none⟩ = some (.string p1) := fun q => HC1.out _ (HTr.out.trans q.ok)
        have HCN : Hid (∀ q : Later wr, Calls Tryd.prog 9 #[.int .i64 ((k + 1 : Nat) : Int)] q.world fun e w' => e = .returned (.string (evS (k + 1))) ∧ Touch [] q.world w') := Lib.hid (fun q => by
          have := rename_any ((k + 1 : Nat) : Int) q.world
          rw [show evZ ((k + 1 : Nat) : Int) = evS (k + 1) from by unfold evZ; rw [Int.toNat_natCast]] at this
          exact this)
        by_cases hpe : evS (k + 1) = p1
        · have hst := strT hpe
          have HPE := Lib.hid hpe
          clear hpe
          go_wp2_with fail
          refine wp_region_later (by kernel_rfl) (by kernel_rfl) ?_
          repeat (first
            | (go_big_quiet_step ((first | (with_reducible rfl) | exact Later.met (HCN.out _))))
            | (quiet_step (fail)))
          refine wpQuiet_nil ?_
          intro wq hw'
          obtain ⟨⟨wq', hwq⟩, hwe⟩ := hw'
          have hwe : wq = wq' := hwe
          subst hwe
          have HTn := Lib.hid (HTr.out.trans hwq)
          clear hwe hwq x1
          go_wp2
          go_roundw
          case rel => exact ⟨k + 1, by omega, by go_num, by rw [kdN_succ, if_pos HPE.out.symm], HTn.out⟩
          case measure => simp [intOf] <;> omega
        · have hst := strF hpe
          have HPE := Lib.hid hpe
          clear hpe
          go_wp2_with fail
          refine wp_region_later (by kernel_rfl) (by kernel_rfl) ?_
          repeat (first
            | (go_big_quiet_step ((first | (with_reducible rfl) | exact Later.met (HCN.out _))))
            | (quiet_step (fail)))
          refine wpQuiet_nil ?_
          intro wq hw'
          obtain ⟨⟨wq', hwq⟩, hwe⟩ := hw'
          have hwe : wq = wq' := hwe
          subst hwe
          have HTn := Lib.hid (HTr.out.trans hwq)
          clear hwe hwq x1
          go_wp2
          go_roundw
          case rel => exact ⟨k + 1, by omega, by go_num, by rw [kdN_succ, if_neg (fun e => HPE.out e.symm)], HTn.out⟩
          case measure => simp [intOf] <;> omega
      · obtain rfl : k = 6 := by omega
        obtain ⟨kd, hkd⟩ : ∃ kd, kdN 6 p1 = kd := ⟨_, rfl⟩
        rw [hkd]
        have HKD : Hid (kdOf (mk w1') = kd) := Lib.hid (by rw [HP1.out]; exact hkd)
        have hb2 := HB2.out.touch HTr.out (by simp)
        have c0 := hb2.cell (i := 0) rfl
        have c1 := hb2.cell (i := 1) rfl
        have c2 := hb2.cell (i := 2) rfl
        have c3 := hb2.cell (i := 3) rfl
        have c4 := hb2.cell (i := 4) rfl
        have f0 := hb2.free 0
        have f1 := hb2.free 1
        have f2 := hb2.free 2
        have f3 := hb2.free 3
        have f4 := hb2.free 4
        have HTw := Lib.hid (HT1.out.trans HTr.out)
        clear hkd hb2
        by_cases hall : o0 = true ∧ o2 = true ∧ o3 = true ∧ o4 = true ∧ ¬ kd = 0
        · obtain ⟨rfl, rfl, rfl, rfl, hk0⟩ := hall
          have HR : Hid (rdE s = some (x0, kd, x2, x3, x4)) := Lib.hid (by
            rw [rdE_five HWW.out, okb_some HO0.out, okb_some HO2.out, okb_some HO3.out, okb_some HO4.out, HX0.out, HX2.out, HX3.out, HX4.out, HKD.out, if_neg hk0]
            rfl)
          have hk1 : (kd == 0) = false := beqF hk0
          clear hk0
          go_wp2
          exact bodyPost_ret (v := .tuple #[.agg #[.int .i64 x0, .int .i64 kd, .int .i64 x2, .int .i64 x3, .int .i64 x4], .bool true]) (by simp [results, Tryd.results12, go_sem, c0, c1, c2, c3, c4]) rfl ⟨by rw [HR.out]; rfl, HTw.out.setNew5 (Nat.le_refl _) _ _ _ _ _⟩
        · have HR : Hid (rdE s = none) := Lib.hid (by
            by_cases e0 : o0 = true
            · by_cases e2 : o2 = true
              · by_cases e3 : o3 = true
                · by_cases e4 : o4 = true
                  · have hk0 : kd = 0 := by
                      by_cases h : kd = 0
                      · exact h
                      · exact absurd ⟨e0, e2, e3, e4, h⟩ hall
                    rw [rdE_five HWW.out, HKD.out, if_pos hk0]
                  · exact rdE_bad HWW.out (.inr (.inr (.inr (okb_none (by rw [HO4.out]; simpa using e4)))))
                · exact rdE_bad HWW.out (.inr (.inr (.inl (okb_none (by rw [HO3.out]; simpa using e3)))))
              · exact rdE_bad HWW.out (.inr (.inl (okb_none (by rw [HO2.out]; simpa using e2))))
            · exact rdE_bad HWW.out (.inl (okb_none (by rw [HO0.out]; simpa using e0))))
          rcases (by
            cases o0 with
            | false => exact .inl rfl
            | true => cases o2 with
              | false => exact .inr (.inl ⟨rfl, rfl⟩)
              | true => cases o3 with
                | false => exact .inr (.inr (.inl ⟨rfl, rfl, rfl⟩))
                | true => cases o4 with
                  | false => exact .inr (.inr (.inr (.inl ⟨rfl, rfl, rfl, rfl⟩)))
                  | true =>
                    refine .inr (.inr (.inr (.inr ⟨rfl, rfl, rfl, rfl, ?_⟩)))
                    by_cases h : kd = 0
                    · exact h
                    · exact absurd ⟨rfl, rfl, rfl, rfl, h⟩ hall : o0 = false ∨ (o0 = true ∧ o2 = false) ∨ (o0 = true ∧ o2 = true ∧ o3 = false) ∨ (o0 = true ∧ o2 = true ∧ o3 = true ∧ o4 = false) ∨ (o0 = true ∧ o2 = true ∧ o3 = true ∧ o4 = true ∧ kd = 0)) with rfl | ⟨rfl, rfl⟩ | ⟨rfl, rfl, rfl⟩ | ⟨rfl, rfl, rfl, rfl⟩ | ⟨rfl, rfl, rfl, rfl, rfl⟩
          all_goals
            clear hall
            go_wp2
            exact bodyPost_ret (v := .tuple #[.agg #[.int .i64 0, .int .i64 0, .int .i64 0, .int .i64 0, .int .i64 0], .bool false]) (by simp [results, Tryd.results12, go_sem, c0, c1, c2, c3, c4]) rfl ⟨by rw [HR.out]; rfl, HTw.out.setNew5 (Nat.le_refl _) _ _ _ _ _⟩
  · have hn5 : ((n : Int) != 5) = true := bneT (by omega)
    have HR : Hid (rdE s = none) := Lib.hid (rdE_len (by have := HN.out; rw [← HL.out, List.length_map] at this; omega))
    have hb2 := HB2.out
    have c0 := hb2.cell (i := 0) rfl
    have c1 := hb2.cell (i := 1) rfl
    have c2 := hb2.cell (i := 2) rfl
    have c3 := hb2.cell (i := 3) rfl
    have c4 := hb2.cell (i := 4) rfl
    have f0 := hb2.free 0
    have f1 := hb2.free 1
    have f2 := hb2.free 2
    have f3 := hb2.free 3
    have f4 := hb2.free 4
    clear hb2
    go_wp2
    exact bodyPost_ret (v := .tuple #[.agg #[.int .i64 0, .int .i64 0, .int .i64 0, .int .i64 0, .int .i64 0], .bool false]) (by simp [results, Tryd.results12, go_sem, c0, c1, c2, c3, c4]) rfl ⟨by rw [HR.out]; rfl, HT1.out.setNew5 (Nat.le_refl _) _ _ _ _ _⟩
end Go.Proofs.YtgdpjkhkgdcfjaaDoor
