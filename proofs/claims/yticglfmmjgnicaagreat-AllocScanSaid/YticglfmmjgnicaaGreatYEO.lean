/-
  What each process holds, has claimed and waits for, in three lists.
-/
import Derived.Test.YticglfmmjgnicaaGreatYEN
set_option linter.unusedVariables false
set_option linter.unusedSimpArgs false
namespace Go.Proofs.YticglfmmjgnicaaGreat
open Go Go.RowKit

def Rwb (B : Nat) (w : World) (va vb vc v : Value) (xs : List Int) : Prop := Rw3 w va vb vc v xs ∧ ∀ k, v.ownBlock = some k → B ≤ k
def HdP (w : World) (FA FB : List Nat) (a b : Nat) (mA mB : Am) (r : RaV) (e : Ending) (w' : World) : Prop :=
  ∃ va vb vc FA', e = .returned (.tuple #[va, vb, vc]) ∧ TwR w' FA' FB a b mA mB r ∧ Fr FA w FA' w' ∧ Kr w' FA' va mA.hs ∧ Kr w' FA' vb mA.cs ∧ Kr w' FA' vc mA.asks
theorem getD_snoc {α : Type} (l : List α) (x d : α) {i : Nat} (h : l.length = i) : (l ++ [x]).getD i d = x := by
  subst h
  rw [List.getD_eq_getElem?_getD, List.getElem?_append_right (Nat.le_refl _)]
  simp
theorem getD_old {α : Type} (l : List α) (x d : α) {j : Nat} (h : j < l.length) : (l ++ [x]).getD j d = l.getD j d := by rw [List.getD_eq_getElem?_getD, List.getD_eq_getElem?_getD, List.getElem?_append_left h]
theorem h3_start (W : World) : H3 W (((W.alloc (.cells #[] 22)).alloc (.cells #[] 22)).alloc (.cells #[] 22)) (.slice (some ⟨W.heap.size, 0, none⟩) 0 0) (.slice (some ⟨W.heap.size + 1, 0, none⟩) 0 0) (.slice (some ⟨W.heap.size + 1 + 1, 0, none⟩) 0 0) [] [] [] := by
  have q1 : Qu (W.alloc (.cells #[] 22)) W.heap.size 22 (.slice (some ⟨W.heap.size, 0, none⟩) 0 0) [] := Qu.made (c := #[]) rfl (Nat.le_refl _) rfl (Nat.zero_le _)
  have q2 : Qu ((W.alloc (.cells #[] 22)).alloc (.cells #[] 22)) W.heap.size 22 (.slice (some ⟨W.heap.size + 1, 0, none⟩) 0 0) [] := Qu.made (c := #[]) (by simp) (by omega) rfl (Nat.zero_le _)
  have q3 : Qu (((W.alloc (.cells #[] 22)).alloc (.cells #[] 22)).alloc (.cells #[] 22)) W.heap.size 22 (.slice (some ⟨W.heap.size + 1 + 1, 0, none⟩) 0 0) [] := Qu.made (c := #[]) (by simp) (by omega) rfl (Nat.zero_le _)
  exact ⟨(((Touch.refl [] W).alloc _).alloc _).alloc _, (q1.alloc _).alloc _, q2.alloc _, q3, fun k hk e => by simp [Value.ownBlock] at hk e; omega, fun k hk e => by simp [Value.ownBlock] at hk e; omega, fun k hk e => by simp [Value.ownBlock] at hk e; omega⟩
theorem kr_of {W w : World} {F : List Nat} {va vb vc : Value} {xa xb xc : List Value} {l : List (List Int)} {B : Nat} (h : H3 W w va vb vc xa xb xc) (hB : B ≤ W.heap.size) (hF : ∀ k, k ∈ F → k < B) (hl : xa.length = l.length) (hr : ∀ i, i < l.length → Rwb B w va vb vc (xa.getD i (.slice none 0 0)) (rw_ l i)) : Kr w F va l :=
  ⟨⟨xa, hl, ⟨_, h.a⟩, fun i hi => ⟨(hr i hi).1.1, fun k hk => ⟨fun hm => by have := hF k hm; have := (hr i hi).2 k hk; omega, ((hr i hi).1.2 k hk).2⟩⟩⟩, fun k hk => ⟨fun hm => by have := hF k hm; have := (h.a.own k hk).1; omega, (h.a.own k hk).2⟩⟩
theorem Rwb.rot {B : Nat} {w : World} {va vb vc v : Value} {xs : List Int} (h : Rwb B w va vb vc v xs) : Rwb B w vb vc va v xs := ⟨h.1.rot, h.2⟩
set_option maxRecDepth 100000 in
set_option maxHeartbeats 40000000 in
theorem helds_any (w : World) (FA FB : List Nat) (a b : Nat) (mA mB : Am) (r : RaV) (h : TwR w FA FB a b mA mB r) (h2 : mA.tot.length = 2) :
    Calls Tryz.prog 22 #[.pointer (some ⟨a, 0, none⟩)] w (HdP w FA FB a b mA mB r) := by
  have HOK := Lib.hid h.A.1
  have hz2 : mA.zero = [0, 0] := by unfold Am.zero; rw [h2]; rfl
  have HZ2 := Lib.hid hz2
  obtain ⟨L, hL⟩ : ∃ L, mA.ps.length = L := ⟨_, rfl⟩
  have HL := Lib.hid hL
  have hL32 : L ≤ 32 := by rw [← hL]; exact HOK.out.few
  obtain ⟨P, hP⟩ : ∃ P, mA.pend.length = P := ⟨_, rfl⟩
  have HPL := Lib.hid hP
  have hP32 : P ≤ 32 := by rw [← hP]; exact pend_few HOK.out
  have HC := Lib.hid (pids_w h)
  clear h h2 hz2 hL hP
  go_enter Tryz.func22, Tryz.ntmps22
  go_wp2_with fail
  refine HC.out.mono ?_
  rintro e w1 ⟨v1, FA1, rfl, htw, hf1, hq1, ho1⟩
  obtain ⟨pa, pc, rfl⟩ : ∃ a c, v1 = Value.slice a L c := (by obtain ⟨a, c, e⟩ := hq1.form; exact ⟨a, c, by rw [← HL.out]; exact e⟩)
  have HC := Lib.hid (pend_w htw)
  have HTW := Lib.hid htw
  have HF1 := Lib.hid hf1
  have HSP := Lib.hid hq1.sl
  clear htw hf1 hq1 ho1
  go_wp2_with fail
  refine HC.out.mono ?_
  rintro e W ⟨v2, qu, rfl, haks, ht2⟩
  obtain ⟨ka, kc, rfl⟩ : ∃ a c, v2 = Value.slice a P c := (by obtain ⟨a, c, e, _⟩ := haks.s.form; exact ⟨a, c, by rw [← HPL.out]; exact e⟩)
  have HAK := Lib.hid haks
  have HF2 := Lib.hid (HF1.out.trans (Fr.same ht2 HTW.out.A.lt))
  have HFB : Hid (∀ k, k ∈ FA1 → k < w1.heap.size) := Lib.hid HTW.out.A.lt
  have HTW := Lib.hid (HTW.out.same ht2)
  have HSP := Lib.hid (HSP.out.touch ht2 (fun _ _ => by simp))
  have HW1 : Hid (w1.heap.size ≤ W.heap.size) := Lib.hid ht2.size
  have H30 := Lib.hid (h3_start W)
  clear haks ht2 HC
  go_wp2_with fail
  go_loopw [7, 8, 9, 10] (fun va vb vc iv wr => ∃ (i : Nat) (xa xb xc : List Value), i ≤ L ∧ iv = .int .i64 (i : Int) ∧ H3 W wr va vb vc xa xb xc ∧ (xa.length = i ∧ xb.length = i ∧ xc.length = i) ∧ ∀ j, j < i → Rwb w1.heap.size wr va vb vc (xa.getD j (.slice none 0 0)) (mA.held (mA.ps.getD j 0)) ∧ Rwb w1.heap.size wr va vb vc (xb.getD j (.slice none 0 0)) (mA.claim (mA.ps.getD j 0)) ∧ Rwb w1.heap.size wr va vb vc (xc.getD j (.slice none 0 0)) (askOf mA.zero mA.pend (mA.ps.getD j 0))) (fun _ _ _ iv _ => L + 1 - (intOf iv).toNat)
  case atStart => exact ⟨0, [], [], [], by omega, rfl, H30.out, ⟨rfl, rfl, rfl⟩, fun j hj => by omega⟩
  case round =>
    clear H30
    obtain ⟨i, xa, xb, xc, hi, rfl, h3, hlen, hrows⟩ := hrel
    obtain ⟨ga, gn, gc, rfl⟩ : ∃ a n c, u7 = .slice a n c := by obtain ⟨a, c, e, _⟩ := h3.a.shape; exact ⟨a, _, c, e⟩
    obtain ⟨gb, gm, gd, rfl⟩ : ∃ a n c, u8 = .slice a n c := by obtain ⟨a, c, e, _⟩ := h3.b.shape; exact ⟨a, _, c, e⟩
    obtain ⟨gf, go, ge, rfl⟩ : ∃ a n c, u9 = .slice a n c := by obtain ⟨a, c, e, _⟩ := h3.c.shape; exact ⟨a, _, c, e⟩
    have HLB := Lib.hid h3
    have HLEN := Lib.hid hlen
    have HRO := Lib.hid hrows
    by_cases hk : i < L
    · have hlt : (i : Int) < (L : Int) := by omega
      have hil : i < mA.ps.length := by rw [HL.out]; exact hk
      obtain ⟨z, hz⟩ : ∃ z, mA.ps.getD i 0 = z := ⟨_, rfl⟩
      have hzm : z ∈ mA.ps := by rw [← hz, show mA.ps.getD i 0 = mA.ps[i] from by simp [hil]]; exact List.getElem_mem _
      have HZ := Lib.hid hz
      have HZM := Lib.hid hzm
      obtain ⟨gp, op, egp, xp⟩ := HSP.out.ix (q := i) hil
      cases egp
      rw [hz] at xp
      have HXP : Hid (∀ w', Touch [] W w' → w'.cell? ⟨gp, op + i, none⟩ = some (.int .i64 z)) := Lib.hid xp
      have hsl0 := two_sl wr 0 0 (n := wr.heap.size) rfl
      have tb : Touch [] wr (wr.alloc (.cells #[.int .i64 0, .int .i64 0] 3)) := (Touch.refl [] wr).alloc _
      obtain ⟨nu, hnu⟩ : ∃ n, wr.heap.size = n := ⟨_, rfl⟩
      have hu0 : Rwb w1.heap.size (wr.alloc (.cells #[.int .i64 0, .int .i64 0] 3)) (.slice ga gn gc) (.slice gb gm gd) (.slice gf go ge) (.slice (some ⟨nu, 0, none⟩) 2 2) (askOf [0, 0] (mA.pend.take 0) z) := by
        subst hnu
        refine ⟨⟨hsl0, fun k hk => ?_⟩, fun k hk => ?_⟩
        · simp [Value.ownBlock] at hk
          subst hk
          exact ⟨⟨fun e => by have := (h3.a.own _ e).2; omega, fun e => by have := (h3.b.own _ e).2; omega, fun e => by have := (h3.c.own _ e).2; omega⟩, by simp⟩
        · simp [Value.ownBlock] at hk
          subst hk
          have := h3.t.size; have := HW1.out; omega
      obtain ⟨Ws, hWs⟩ : ∃ x, wr.alloc (.cells #[.int .i64 0, .int .i64 0] 3) = x := ⟨_, rfl⟩
      rw [hWs] at tb hu0
      have HMS0 : Hid (∀ v xs, Rwb w1.heap.size wr (.slice ga gn gc) (.slice gb gm gd) (.slice gf go ge) v xs → Rw3 Ws (.slice ga gn gc) (.slice gb gm gd) (.slice gf go ge) v xs) := Lib.hid (fun v xs hv => hv.1.same tb)
      have HU0 := Lib.hid hu0
      have HLBs := Lib.hid (h3.same tb)
      clear h3 hlen hrows hz hzm xp hsl0 tb hu0 hil
      go_wp2_with fail
      clear hWs hnu
      go_loopw [11, 12] (fun uv kv wt => ∃ k : Nat, k ≤ P ∧ kv = .int .i64 (k : Int) ∧ Touch [] Ws wt ∧ (∃ a n c, uv = .slice a n c) ∧ Rwb w1.heap.size wt (.slice ga gn gc) (.slice gb gm gd) (.slice gf go ge) uv (askOf [0, 0] (mA.pend.take k) z)) (fun _ kv _ => P + 1 - (intOf kv).toNat)
      case atStart => exact ⟨0, by omega, rfl, Touch.refl _ _, ⟨_, _, _, rfl⟩, HU0.out⟩
      case round =>
        clear HU0
        obtain ⟨k, hkP, rfl, ht, ⟨ua, un, uc, rfl⟩, hu⟩ := hrel
        have HTk := Lib.hid ht
        have HU := Lib.hid hu
        clear hu
        by_cases hkk : k < P
        · have hltk : (k : Int) < (P : Int) := by omega
          have hk2 : k < mA.pend.length := by rw [HPL.out]; exact hkk
          have htW := HLBs.out.t.trans ht
          have hak := HAK.out.touch htW
          have hsa := hak.s
          rw [HPL.out] at hsa
          obtain ⟨g1, cap1, e1, _, _, _, _, hc1, _, _⟩ := hsa.at hkk
          cases e1
          obtain ⟨y, hy⟩ : ∃ y, (mA.pend.getD k (0, [])).1 = y := ⟨_, rfl⟩
          have hquk := hak.u k hk2
          obtain ⟨va', vn', vc', hve⟩ : ∃ a n c, qu k = .slice a n c := by obtain ⟨a, c, e⟩ := hquk.1.form; exact ⟨a, _, c, e⟩
          have x1 : ∀ p : Later wr, p.world.cell? ⟨g1, k * 2, none⟩ = some (.int .i64 y) := fun p => p.cell (by have := hc1 0 (by omega); rw [Nat.add_zero] at this; rw [this, ← hy]; rfl)
          have x2 : ∀ p : Later wr, p.world.cell? ⟨gp, op + i, none⟩ = some (.int .i64 z) := fun p => HXP.out _ (htW.trans p.ok)
          have HX3 : Hid (∀ w', Touch [] wr w' → w'.cell? ⟨g1, k * 2 + 1, none⟩ = some (.slice va' vn' vc')) := Lib.hid (fun w' ht' => by
            have c1 : wr.cell? ⟨g1, k * 2 + 1, none⟩ = some (.slice va' vn' vc') := by rw [← hve]; exact hc1 1 (by omega)
            exact (Later.of ht').cell c1)
          have HQK : Hid (∀ w', Touch [] wr w' → Rwb w1.heap.size w' (.slice ga gn gc) (.slice gb gm gd) (.slice gf go ge) (.slice va' vn' vc') (mA.pend.getD k (0, [])).2) := Lib.hid (fun w' ht' => by
            have h3' := HLBs.out.same (ht.trans ht')
            rw [hve] at hquk
            have hown : ∀ k', (Value.slice va' vn' vc').ownBlock = some k' → w1.heap.size ≤ k' ∧ k' < W.heap.size := fun k' hk' => ⟨(hquk.1.own k' hk').1, ((HAK.out.u k hk2).1.own k' (by rw [hve]; exact hk')).2⟩
            exact ⟨Rw3.old h3' (hquk.1.sl.touch ht' (fun _ _ => by simp)) (fun k' hk' => (hown k' hk').2), fun k' hk' => (hown k' hk').1⟩)
          have hstep : askOf [0, 0] (mA.pend.take (k + 1)) z = if y = z then (mA.pend.getD k (0, [])).2 else askOf [0, 0] (mA.pend.take k) z := by
            rw [List.take_succ_eq_append_getElem hk2, askOf_add, show mA.pend.getD k (0, []) = mA.pend[k] from by simp [hk2], show (mA.pend[k]).1 = y from by rw [← hy]; simp [hk2]]
          have HST := Lib.hid hstep
          clear hak hsa hc1 hquk hve hy hstep ht htW hk2
          by_cases hyz : y = z
          · have hyz2 : (y == z) = true := by simpa using hyz
            have HYZ := Lib.hid hyz
            clear hyz
            go_upto_region 10 with fail
            refine wp_region_later (by kernel_rfl) (by kernel_rfl) ?_
            repeat (first
              | (go_big_quiet_step ((with_reducible rfl)))
              | (quiet_step (fail)))
            refine wpQuiet_nil ?_
            intro wq hw'
            obtain ⟨⟨wq', hwq⟩, hwe⟩ := hw'
            have hwe : wq = wq' := hwe
            subst hwe
            have HT9 := Lib.hid hwq
            have x3 := HX3.out _ hwq
            clear hwe hwq x1 x2
            go_wp2_with fail
            go_roundw
            case rel => exact ⟨k + 1, by omega, by go_num, HTk.out.trans HT9.out, ⟨_, _, _, rfl⟩, by rw [HST.out, if_pos HYZ.out]; exact HQK.out _ HT9.out⟩
            case measure => simp [intOf]; omega
          · have hyz2 : (y == z) = false := by simpa using hyz
            have HYZ := Lib.hid hyz
            clear hyz
            go_upto_region 10 with fail
            refine wp_region_later (by kernel_rfl) (by kernel_rfl) ?_
            repeat (first
              | (go_big_quiet_step ((with_reducible rfl)))
              | (quiet_step (fail)))
            refine wpQuiet_nil ?_
            intro wq hw'
            obtain ⟨⟨wq', hwq⟩, hwe⟩ := hw'
            have hwe : wq = wq' := hwe
            subst hwe
            have HT9 := Lib.hid hwq
            clear hwe hwq x1 x2
            go_wp2_with fail
            go_roundw
            case rel => exact ⟨k + 1, by omega, by go_num, HTk.out.trans HT9.out, ⟨_, _, _, rfl⟩, by rw [HST.out, if_neg HYZ.out]; exact ⟨HU.out.1.same HT9.out, HU.out.2⟩⟩
            case measure => simp [intOf]; omega
        · have hltk : ¬ (k : Int) < (P : Int) := by omega
          have hask : askOf [0, 0] (mA.pend.take k) z = askOf mA.zero mA.pend z := by rw [List.take_of_length_le (by rw [HPL.out]; omega), HZ2.out]
          have HUF : Hid (Rwb w1.heap.size wr (.slice ga gn gc) (.slice gb gm gd) (.slice gf go ge) (.slice ua un uc) (askOf mA.zero mA.pend z)) := Lib.hid (by rw [← hask]; exact HU.out)
          have HUO : Hid (∀ k, (Value.slice ua un uc).ownBlock = some k → w1.heap.size ≤ k) := Lib.hid HUF.out.2
          have HMV : Hid (∀ v xs, Rw3 wr (.slice ga gn gc) (.slice gb gm gd) (.slice gf go ge) v xs → Rw3 wr.drew (.slice ga gn gc) (.slice gb gm gd) (.slice gf go ge) v xs) := Lib.hid (fun v xs hv => hv.same (Touch.refl [] wr).drew)
          have HMS := Lib.hid (fun v xs hv => (HMS0.out v xs hv).same ht)
          have HWS : Hid (w1.heap.size ≤ wr.heap.size) := Lib.hid (by have := (HLBs.out.t.trans ht).size; have := HW1.out; omega)
          have HLB := Lib.hid ((HLBs.out.same ht).same (Touch.refl [] wr).drew)
          have HT := Lib.hid HLB.out.t
          have HX : Hid (∀ w', Touch [] W w' → w'.cell? ⟨gp, op + i, none⟩ = some (.int .i64 z)) := HXP
          have HCH : Hid (∀ w', Touch [] W w' → Calls Tryz.prog 19 #[.pointer (some ⟨a, 0, none⟩), .int .i64 z] w' (Own (mA.held z) w')) := Lib.hid (fun w' ht' => held_w (HTW.out.same ht') HZM.out)
          have HCC : Hid (∀ w', Touch [] W w' → Calls Tryz.prog 20 #[.pointer (some ⟨a, 0, none⟩), .int .i64 z] w' (Own (mA.claim z) w')) := Lib.hid (fun w' ht' => claim_w (HTW.out.same ht') HZM.out)
          clear ht hask HU
          go_upto_region 12 with fail
          refine wp_region_till (fun _ => True) (fun w' => Touch [] W w') [] (by kernel_rfl) ?_
          obtain ⟨wk, hwk⟩ : ∃ w', World.drew wr = w' := ⟨_, rfl⟩
          rw [hwk] at HLB HT HMV ⊢
          clear hwk
          obtain ⟨nk, hsz⟩ : ∃ n, wk.heap.size = n := ⟨_, rfl⟩
          refine wpTill.takeT (i := 0) (v := ?v1) (some 48) rfl rfl (by kernel_rfl) (fun _ _ _ h => h) (Or.inl ⟨by rfl, ?hy1⟩) ⟨trivial, HT.out⟩ ?rest1
          case hy1 => (intro w hSw; have q1 := HX.out w hSw; go_simp; try with_reducible rfl)
          simp only [Act.put, List.setIfInBounds_toArray, List.set_cons_zero, List.set_cons_succ]
          refine wpTill.takeT (i := 1) (v := ?v2) (some 49) rfl rfl (by kernel_rfl) (fun _ _ _ h => h) (Or.inl ⟨by rfl, ?hy2⟩) ⟨trivial, HT.out⟩ ?rest2
          case hy2 => (intro w hSw; have q1 := HX.out w hSw; go_simp; try with_reducible rfl)
          simp only [Act.put, List.setIfInBounds_toArray, List.set_cons_zero, List.set_cons_succ]
          refine wpTill.takeT (i := 2) (v := ?v3) (some 50) rfl rfl (by kernel_rfl) (fun _ _ _ h => h) (Or.inl ⟨by rfl, ?hy3⟩) ⟨trivial, HT.out⟩ ?rest3
          case hy3 => (intro w hSw; have q1 := HX.out w hSw; go_simp; try with_reducible rfl)
          simp only [Act.put, List.setIfInBounds_toArray, List.set_cons_zero, List.set_cons_succ]
          refine wpTill.takeT (i := 3) (v := ?v4) (some 51) rfl rfl (by kernel_rfl) (fun _ _ _ h => h) (Or.inl ⟨by rfl, ?hy4⟩) ⟨trivial, HT.out⟩ ?rest4
          case hy4 => (intro w hSw; have q1 := HX.out w hSw; go_simp; try with_reducible rfl)
          simp only [Act.put, List.setIfInBounds_toArray, List.set_cons_zero, List.set_cons_succ]
          refine wpTill.takeT (i := 4) (v := ?v5) (some 52) rfl rfl (by kernel_rfl) (fun _ _ _ h => h) (Or.inl ⟨by rfl, ?hy5⟩) ⟨trivial, HT.out⟩ ?rest5
          case hy5 => (intro w hSw; have q1 := HX.out w hSw; go_simp; try with_reducible rfl)
          simp only [Act.put, List.setIfInBounds_toArray, List.set_cons_zero, List.set_cons_succ]
          refine wpTill.takeT (i := 5) (v := ?v6) (some 53) rfl rfl (by kernel_rfl) (fun _ _ _ h => h) (Or.inl ⟨by rfl, ?hy6⟩) ⟨trivial, HT.out⟩ ?rest6
          case hy6 => (intro w hSw; have q1 := HX.out w hSw; go_simp; try with_reducible rfl)
          simp only [Act.put, List.setIfInBounds_toArray, List.set_cons_zero, List.set_cons_succ]
          refine wpTill.takeT (i := 9) (v := ?v7) (some 57) rfl rfl (by kernel_rfl) (fun _ _ _ h => h) (Or.inl ⟨by rfl, ?hy7⟩) ⟨trivial, HT.out⟩ ?rest7
          case hy7 => (intro w hSw; have q1 := HX.out w hSw; go_simp; try with_reducible rfl)
          simp only [Act.put, List.setIfInBounds_toArray, List.set_cons_zero, List.set_cons_succ]
          refine wpTill.takeT (i := 10) (v := ?v8) (some 58) rfl rfl (by kernel_rfl) (fun _ _ _ h => h) (Or.inl ⟨by rfl, ?hy8⟩) ⟨trivial, HT.out⟩ ?rest8
          case hy8 => (intro w hSw; have q1 := HX.out w hSw; go_simp; try with_reducible rfl)
          simp only [Act.put, List.setIfInBounds_toArray, List.set_cons_zero, List.set_cons_succ]
          refine wpTill.takeT (i := 11) (v := ?v9) (some 59) rfl rfl (by kernel_rfl) (fun _ _ _ h => h) (Or.inl ⟨by rfl, ?hy9⟩) ⟨trivial, HT.out⟩ ?rest9
          case hy9 => (intro w hSw; have q1 := HX.out w hSw; go_simp; try with_reducible rfl)
          simp only [Act.put, List.setIfInBounds_toArray, List.set_cons_zero, List.set_cons_succ]
          refine wpTill.takeT (i := 12) (v := ?v10) (some 60) rfl rfl (by kernel_rfl) (fun _ _ _ h => h) (Or.inl ⟨by rfl, ?hy10⟩) ⟨trivial, HT.out⟩ ?rest10
          case hy10 => (intro w hSw; have q1 := HX.out w hSw; go_simp; try with_reducible rfl)
          simp only [Act.put, List.setIfInBounds_toArray, List.set_cons_zero, List.set_cons_succ]
          refine wpTill.takeT (i := 13) (v := ?v11) (some 61) rfl rfl (by kernel_rfl) (fun _ _ _ h => h) (Or.inl ⟨by rfl, ?hy11⟩) ⟨trivial, HT.out⟩ ?rest11
          case hy11 => (intro w hSw; have q1 := HX.out w hSw; go_simp; try with_reducible rfl)
          simp only [Act.put, List.setIfInBounds_toArray, List.set_cons_zero, List.set_cons_succ]
          refine wpTill.takeT (i := 14) (v := ?v12) (some 62) rfl rfl (by kernel_rfl) (fun _ _ _ h => h) (Or.inl ⟨by rfl, ?hy12⟩) ⟨trivial, HT.out⟩ ?rest12
          case hy12 => (intro w hSw; have q1 := HX.out w hSw; go_simp; try with_reducible rfl)
          simp only [Act.put, List.setIfInBounds_toArray, List.set_cons_zero, List.set_cons_succ]
          refine wpTill.takeT (i := 18) (v := ?v13) (some 66) rfl rfl (by kernel_rfl) (fun _ _ _ h => h) (Or.inl ⟨by rfl, ?hy13⟩) ⟨trivial, HT.out⟩ ?rest13
          case hy13 => (intro w hSw; have q1 := HX.out w hSw; go_simp; try with_reducible rfl)
          simp only [Act.put, List.setIfInBounds_toArray, List.set_cons_zero, List.set_cons_succ]
          refine wpTill.takeT (i := 19) (v := ?v14) (some 67) rfl rfl (by kernel_rfl) (fun _ _ _ h => h) (Or.inl ⟨by rfl, ?hy14⟩) ⟨trivial, HT.out⟩ ?rest14
          case hy14 => (intro w hSw; have q1 := HX.out w hSw; go_simp; try with_reducible rfl)
          simp only [Act.put, List.setIfInBounds_toArray, List.set_cons_zero, List.set_cons_succ]
          refine wpTill.ready (rs := [6, 20]) (by kernel_rfl) (by simp) ?_
          refine AllTill.cons (i := 6) (rs := [20]) (by rfl) (fun K hK => ?_) ?_
          · go_simp
            go_at_call 19
            refine (HCH.out _ HT.out).mono ?_
            rintro e wk ⟨v9, rfl, hq, ht7⟩
            clear hsz
            obtain ⟨ha, hn, hc, rfl⟩ : ∃ a n c, v9 = Value.slice a n c := (by obtain ⟨a, c, e, _⟩ := hq.shape; exact ⟨a, _, c, e⟩)
            have HMV := Lib.hid (fun v xs h => (HMV.out v xs h).same ht7)
            have HRH := Lib.hid (Rw3.new HLB.out ht7 hq)
            have HRHO := Lib.hid (fun k hk => Nat.le_trans HT.out.size (hq.own k hk).1)
            have HLB := Lib.hid (HLB.out.same ht7)
            have HT := Lib.hid HLB.out.t
            clear hq ht7
            obtain ⟨nk, hsz⟩ : ∃ n, wk.heap.size = n := ⟨_, rfl⟩
            simp only [Act.put, List.setIfInBounds_toArray, List.set_cons_zero, List.set_cons_succ]
            refine hK.out _ _ trivial (fun _ => HT.out) ?_
            clear hK K
            refine wpTill.ready (rs := [7, 20]) (by kernel_rfl) (by simp) ?_
            refine AllTill.cons (i := 7) (rs := [20]) (by rfl) (fun K hK => ?_) ?_
            · go_simp
              have hbx := Bx.new HLB.out (.slice ha hn hc) hsz.symm
              have ht7 : Touch [] wk (wk.alloc (.cells #[.slice ha hn hc] 22)) := (Touch.refl [] wk).alloc _
              have HRH := Lib.hid (HRH.out.same ht7)
              have HMV := Lib.hid (fun v xs h => (HMV.out v xs h).same ht7)
              have HLB := Lib.hid (HLB.out.same ht7)
              have HBH := Lib.hid hbx
              clear hbx ht7 hsz
              obtain ⟨wk, hwk⟩ : ∃ w', wk.alloc (.cells #[.slice ha hn hc] 22) = w' := ⟨_, rfl⟩
              rw [hwk] at HRH HBH HMV HLB ⊢
              clear hwk
              have HT := Lib.hid HLB.out.t
              obtain ⟨nk, hsz⟩ : ∃ n, wk.heap.size = n := ⟨_, rfl⟩
              refine hK.out _ _ trivial (fun _ => HT.out) ?_
              clear hK K
              refine wpTill.ready (rs := [8, 20]) (by kernel_rfl) (by simp) ?_
              refine AllTill.cons (i := 8) (rs := [20]) (by rfl) (fun K hK => ?_) ?_
              · obtain ⟨v9, wk, hr, hB, hR, hX⟩ := HLB.out.appA HBH.out rfl (by have := HLEN.out; omega) 1
                obtain ⟨qa, qn, qc, rfl⟩ : ∃ a n c, v9 = Value.slice a n c := (by obtain ⟨a, c, e, _⟩ := hB.a.shape; exact ⟨a, _, c, e⟩)
                refine step_append_run rfl _ _ _ _ rfl _ _ rfl rfl _ _ (hr _) ?_
                clear hsz
                have HMV := Lib.hid (fun v xs h => hR v xs (HMV.out v xs h))
                have HRH := Lib.hid (hR _ _ HRH.out)
                have HLB := Lib.hid hB
                have HT := Lib.hid hB.t
                obtain ⟨nk, hsz⟩ : ∃ n, wk.heap.size = n := ⟨_, rfl⟩
                clear hr hB hR hX
                simp only [Act.put, List.setIfInBounds_toArray, List.set_cons_zero, List.set_cons_succ]
                refine hK.out _ _ trivial (fun _ => HT.out) ?_
                clear hK K
                refine wpTill.ready (rs := [15, 20]) (by kernel_rfl) (by simp) ?_
                refine AllTill.cons (i := 15) (rs := [20]) (by rfl) (fun K hK => ?_) ?_
                · go_simp
                  go_at_call 20
                  refine (HCC.out _ HT.out).mono ?_
                  rintro e wk ⟨v9, rfl, hq, ht7⟩
                  clear hsz
                  obtain ⟨ja, jn, jc, rfl⟩ : ∃ a n c, v9 = Value.slice a n c := (by obtain ⟨a, c, e, _⟩ := hq.shape; exact ⟨a, _, c, e⟩)
                  have HRH := Lib.hid (HRH.out.same ht7)
                  have HMV := Lib.hid (fun v xs h => (HMV.out v xs h).same ht7)
                  have HRC := Lib.hid (Rw3.new HLB.out ht7 hq)
                  have HRCO := Lib.hid (fun k hk => Nat.le_trans HT.out.size (hq.own k hk).1)
                  have HLB := Lib.hid (HLB.out.same ht7)
                  have HT := Lib.hid HLB.out.t
                  clear hq ht7
                  obtain ⟨nk, hsz⟩ : ∃ n, wk.heap.size = n := ⟨_, rfl⟩
                  simp only [Act.put, List.setIfInBounds_toArray, List.set_cons_zero, List.set_cons_succ]
                  refine hK.out _ _ trivial (fun _ => HT.out) ?_
                  clear hK K
                  refine wpTill.ready (rs := [16, 20]) (by kernel_rfl) (by simp) ?_
                  refine AllTill.cons (i := 16) (rs := [20]) (by rfl) (fun K hK => ?_) ?_
                  · go_simp
                    have hbx := Bx.new HLB.out (.slice ja jn jc) hsz.symm
                    have ht7 : Touch [] wk (wk.alloc (.cells #[.slice ja jn jc] 22)) := (Touch.refl [] wk).alloc _
                    have HRH := Lib.hid (HRH.out.same ht7)
                    have HRC := Lib.hid (HRC.out.same ht7)
                    have HMV := Lib.hid (fun v xs h => (HMV.out v xs h).same ht7)
                    have HLB := Lib.hid (HLB.out.same ht7)
                    have HBC := Lib.hid hbx
                    clear hbx ht7 hsz
                    obtain ⟨wk, hwk⟩ : ∃ w', wk.alloc (.cells #[.slice ja jn jc] 22) = w' := ⟨_, rfl⟩
                    rw [hwk] at HRH HRC HBC HMV HLB ⊢
                    clear hwk
                    have HT := Lib.hid HLB.out.t
                    obtain ⟨nk, hsz⟩ : ∃ n, wk.heap.size = n := ⟨_, rfl⟩
                    refine hK.out _ _ trivial (fun _ => HT.out) ?_
                    clear hK K
                    refine wpTill.ready (rs := [17, 20]) (by kernel_rfl) (by simp) ?_
                    refine AllTill.cons (i := 17) (rs := [20]) (by rfl) (fun K hK => ?_) ?_
                    · obtain ⟨v9, wk, hr, hB, hR, hX⟩ := HLB.out.appB HBC.out rfl (by have := HLEN.out; omega) 1
                      obtain ⟨sa, sn, sc, rfl⟩ : ∃ a n c, v9 = Value.slice a n c := (by obtain ⟨a, c, e, _⟩ := hB.b.shape; exact ⟨a, _, c, e⟩)
                      refine step_append_run rfl _ _ _ _ rfl _ _ rfl rfl _ _ (hr _) ?_
                      clear hsz
                      have HMV := Lib.hid (fun v xs h => hR v xs (HMV.out v xs h))
                      have HRH := Lib.hid (hR _ _ HRH.out)
                      have HRC := Lib.hid (hR _ _ HRC.out)
                      have HLB := Lib.hid hB
                      have HT := Lib.hid hB.t
                      obtain ⟨nk, hsz⟩ : ∃ n, wk.heap.size = n := ⟨_, rfl⟩
                      clear hr hB hR hX
                      simp only [Act.put, List.setIfInBounds_toArray, List.set_cons_zero, List.set_cons_succ]
                      refine hK.out _ _ trivial (fun _ => HT.out) ?_
                      clear hK K
                      refine wpTill.ready (rs := [20]) (by kernel_rfl) (by simp) ?_
                      refine AllTill.cons (i := 20) (rs := []) (by rfl) (fun K hK => ?_) ?_
                      · go_simp
                        have hbx := Bx.new HLB.out (.slice ua un uc) hsz.symm
                        have ht7 : Touch [] wk (wk.alloc (.cells #[.slice ua un uc] 22)) := (Touch.refl [] wk).alloc _
                        have HRH := Lib.hid (HRH.out.same ht7)
                        have HRC := Lib.hid (HRC.out.same ht7)
                        have HMV := Lib.hid (fun v xs h => (HMV.out v xs h).same ht7)
                        have HLB := Lib.hid (HLB.out.same ht7)
                        have HBU := Lib.hid hbx
                        clear hbx ht7 hsz
                        obtain ⟨wk, hwk⟩ : ∃ w', wk.alloc (.cells #[.slice ua un uc] 22) = w' := ⟨_, rfl⟩
                        rw [hwk] at HRH HRC HBU HMV HLB ⊢
                        clear hwk
                        have HT := Lib.hid HLB.out.t
                        obtain ⟨nk, hsz⟩ : ∃ n, wk.heap.size = n := ⟨_, rfl⟩
                        refine hK.out _ _ trivial (fun _ => HT.out) ?_
                        clear hK K
                        refine wpTill.ready (rs := [21]) (by kernel_rfl) (by simp) ?_
                        refine AllTill.cons (i := 21) (rs := []) (by rfl) (fun K hK => ?_) ?_
                        · obtain ⟨v9, wk, hr, hB, hR, hX⟩ := HLB.out.appC HBU.out rfl (by have := HLEN.out; omega) 1
                          obtain ⟨ta, tn, tc, rfl⟩ : ∃ a n c, v9 = Value.slice a n c := (by obtain ⟨a, c, e, _⟩ := hB.c.shape; exact ⟨a, _, c, e⟩)
                          refine step_append_run rfl _ _ _ _ rfl _ _ rfl rfl _ _ (hr _) ?_
                          clear hsz
                          have HMV := Lib.hid (fun v xs h => hR v xs (HMV.out v xs h))
                          have HRH := Lib.hid (hR _ _ HRH.out)
                          have HRC := Lib.hid (hR _ _ HRC.out)
                          have HLB := Lib.hid hB
                          have HT := Lib.hid hB.t
                          obtain ⟨nk, hsz⟩ : ∃ n, wk.heap.size = n := ⟨_, rfl⟩
                          clear hr hB hR hX
                          simp only [Act.put, List.setIfInBounds_toArray, List.set_cons_zero, List.set_cons_succ]
                          refine hK.out _ _ trivial (fun _ => HT.out) ?_
                          clear hK K
                          refine wpTill.takeT (i := 22) (v := ?v15) (some 7) rfl rfl (by kernel_rfl) (fun _ _ _ h => h) (Or.inl ⟨by rfl, ?hy15⟩) ⟨trivial, HT.out⟩ ?rest15
                          case hy15 => (intro w hSw; have q1 := HX.out w hSw; go_simp; try with_reducible rfl)
                          simp only [Act.put, List.setIfInBounds_toArray, List.set_cons_zero, List.set_cons_succ]
                          refine wpTill.takeT (i := 23) (v := ?v16) (some 8) rfl rfl (by kernel_rfl) (fun _ _ _ h => h) (Or.inl ⟨by rfl, ?hy16⟩) ⟨trivial, HT.out⟩ ?rest16
                          case hy16 => (intro w hSw; have q1 := HX.out w hSw; go_simp; try with_reducible rfl)
                          simp only [Act.put, List.setIfInBounds_toArray, List.set_cons_zero, List.set_cons_succ]
                          refine wpTill.takeT (i := 24) (v := ?v17) (some 9) rfl rfl (by kernel_rfl) (fun _ _ _ h => h) (Or.inl ⟨by rfl, ?hy17⟩) ⟨trivial, HT.out⟩ ?rest17
                          case hy17 => (intro w hSw; have q1 := HX.out w hSw; go_simp; try with_reducible rfl)
                          simp only [Act.put, List.setIfInBounds_toArray, List.set_cons_zero, List.set_cons_succ]
                          refine wpTill.done (by kernel_rfl) ?_ _
                          have hrr := HMV.out _ _ HUF.out.1
                          have HF : Hid ((xa ++ [Value.slice ha hn hc]).length = i + 1 ∧ (xb ++ [Value.slice ja jn jc]).length = i + 1 ∧ (xc ++ [Value.slice ua un uc]).length = i + 1) := Lib.hid (by have := HLEN.out; simp; omega)
                          have HG : Hid (∀ j, j < i + 1 → Rwb w1.heap.size wk (.slice qa qn qc) (.slice sa sn sc) (.slice ta tn tc) ((xa ++ [Value.slice ha hn hc]).getD j (.slice none 0 0)) (mA.held (mA.ps.getD j 0)) ∧ Rwb w1.heap.size wk (.slice qa qn qc) (.slice sa sn sc) (.slice ta tn tc) ((xb ++ [Value.slice ja jn jc]).getD j (.slice none 0 0)) (mA.claim (mA.ps.getD j 0)) ∧ Rwb w1.heap.size wk (.slice qa qn qc) (.slice sa sn sc) (.slice ta tn tc) ((xc ++ [Value.slice ua un uc]).getD j (.slice none 0 0)) (askOf mA.zero mA.pend (mA.ps.getD j 0))) := Lib.hid (fun j hj => by
                            have l1 := HLEN.out
                            by_cases e : j = i
                            · subst e
                              rw [getD_snoc _ _ _ l1.1, getD_snoc _ _ _ l1.2.1, getD_snoc _ _ _ l1.2.2, HZ.out]
                              exact ⟨⟨HRH.out, fun k hk => Nat.le_trans HW1.out (HRHO.out k hk)⟩, ⟨HRC.out, fun k hk => Nat.le_trans HW1.out (HRCO.out k hk)⟩, ⟨hrr, HUO.out⟩⟩
                            · have hj2 : j < i := by omega
                              rw [getD_old _ _ _ (by omega : j < xa.length), getD_old _ _ _ (by omega : j < xb.length), getD_old _ _ _ (by omega : j < xc.length)]
                              obtain ⟨r1, r2, r3⟩ := HRO.out j hj2
                              exact ⟨⟨HMV.out _ _ (HMS.out _ _ r1), r1.2⟩, ⟨HMV.out _ _ (HMS.out _ _ r2), r2.2⟩, ⟨HMV.out _ _ (HMS.out _ _ r3), r3.2⟩⟩)
                          clear hsz hrr
                          go_wp2_with fail
                          go_roundw
                          case rel => exact ⟨i + 1, _, _, _, by omega, by go_num, HLB.out, HF.out, HG.out⟩
                          case measure => simp [intOf]; omega
                        exact AllTill.nil
                      exact AllTill.nil
                    refine AllTill.cons (i := 20) (rs := []) (by rfl) (fun K hK => ?_) ?_
                    · go_simp
                      have hbx := Bx.new HLB.out (.slice ua un uc) hsz.symm
                      have ht7 : Touch [] wk (wk.alloc (.cells #[.slice ua un uc] 22)) := (Touch.refl [] wk).alloc _
                      have HRH := Lib.hid (HRH.out.same ht7)
                      have HRC := Lib.hid (HRC.out.same ht7)
                      have HBC := Lib.hid (HBC.out.same ht7)
                      have HMV := Lib.hid (fun v xs h => (HMV.out v xs h).same ht7)
                      have HLB := Lib.hid (HLB.out.same ht7)
                      have HBU := Lib.hid hbx
                      clear hbx ht7 hsz
                      obtain ⟨wk, hwk⟩ : ∃ w', wk.alloc (.cells #[.slice ua un uc] 22) = w' := ⟨_, rfl⟩
                      rw [hwk] at HRH HRC HBC HBU HMV HLB ⊢
                      clear hwk
                      have HT := Lib.hid HLB.out.t
                      obtain ⟨nk, hsz⟩ : ∃ n, wk.heap.size = n := ⟨_, rfl⟩
                      refine hK.out _ _ trivial (fun _ => HT.out) ?_
                      clear hK K
                      refine wpTill.ready (rs := [17]) (by kernel_rfl) (by simp) ?_
                      refine AllTill.cons (i := 17) (rs := []) (by rfl) (fun K hK => ?_) ?_
                      · obtain ⟨v9, wk, hr, hB, hR, hX⟩ := HLB.out.appB HBC.out rfl (by have := HLEN.out; omega) 1
                        obtain ⟨sa, sn, sc, rfl⟩ : ∃ a n c, v9 = Value.slice a n c := (by obtain ⟨a, c, e, _⟩ := hB.b.shape; exact ⟨a, _, c, e⟩)
                        refine step_append_run rfl _ _ _ _ rfl _ _ rfl rfl _ _ (hr _) ?_
                        clear hsz
                        have HMV := Lib.hid (fun v xs h => hR v xs (HMV.out v xs h))
                        have HRH := Lib.hid (hR _ _ HRH.out)
                        have HRC := Lib.hid (hR _ _ HRC.out)
                        have HBU := Lib.hid (hX _ _ HBU.out)
                        have HLB := Lib.hid hB
                        have HT := Lib.hid hB.t
                        obtain ⟨nk, hsz⟩ : ∃ n, wk.heap.size = n := ⟨_, rfl⟩
                        clear hr hB hR hX
                        simp only [Act.put, List.setIfInBounds_toArray, List.set_cons_zero, List.set_cons_succ]
                        refine hK.out _ _ trivial (fun _ => HT.out) ?_
                        clear hK K
                        refine wpTill.ready (rs := [21]) (by kernel_rfl) (by simp) ?_
                        refine AllTill.cons (i := 21) (rs := []) (by rfl) (fun K hK => ?_) ?_
                        · obtain ⟨v9, wk, hr, hB, hR, hX⟩ := HLB.out.appC HBU.out rfl (by have := HLEN.out; omega) 1
                          obtain ⟨ta, tn, tc, rfl⟩ : ∃ a n c, v9 = Value.slice a n c := (by obtain ⟨a, c, e, _⟩ := hB.c.shape; exact ⟨a, _, c, e⟩)
                          refine step_append_run rfl _ _ _ _ rfl _ _ rfl rfl _ _ (hr _) ?_
                          clear hsz
                          have HMV := Lib.hid (fun v xs h => hR v xs (HMV.out v xs h))
                          have HRH := Lib.hid (hR _ _ HRH.out)
                          have HRC := Lib.hid (hR _ _ HRC.out)
                          have HLB := Lib.hid hB
                          have HT := Lib.hid hB.t
                          obtain ⟨nk, hsz⟩ : ∃ n, wk.heap.size = n := ⟨_, rfl⟩
                          clear hr hB hR hX
                          simp only [Act.put, List.setIfInBounds_toArray, List.set_cons_zero, List.set_cons_succ]
                          refine hK.out _ _ trivial (fun _ => HT.out) ?_
                          clear hK K
                          refine wpTill.takeT (i := 22) (v := ?v18) (some 7) rfl rfl (by kernel_rfl) (fun _ _ _ h => h) (Or.inl ⟨by rfl, ?hy18⟩) ⟨trivial, HT.out⟩ ?rest18
                          case hy18 => (intro w hSw; have q1 := HX.out w hSw; go_simp; try with_reducible rfl)
                          simp only [Act.put, List.setIfInBounds_toArray, List.set_cons_zero, List.set_cons_succ]
                          refine wpTill.takeT (i := 23) (v := ?v19) (some 8) rfl rfl (by kernel_rfl) (fun _ _ _ h => h) (Or.inl ⟨by rfl, ?hy19⟩) ⟨trivial, HT.out⟩ ?rest19
                          case hy19 => (intro w hSw; have q1 := HX.out w hSw; go_simp; try with_reducible rfl)
                          simp only [Act.put, List.setIfInBounds_toArray, List.set_cons_zero, List.set_cons_succ]
                          refine wpTill.takeT (i := 24) (v := ?v20) (some 9) rfl rfl (by kernel_rfl) (fun _ _ _ h => h) (Or.inl ⟨by rfl, ?hy20⟩) ⟨trivial, HT.out⟩ ?rest20
                          case hy20 => (intro w hSw; have q1 := HX.out w hSw; go_simp; try with_reducible rfl)
                          simp only [Act.put, List.setIfInBounds_toArray, List.set_cons_zero, List.set_cons_succ]
                          refine wpTill.done (by kernel_rfl) ?_ _
                          have hrr := HMV.out _ _ HUF.out.1
                          have HF : Hid ((xa ++ [Value.slice ha hn hc]).length = i + 1 ∧ (xb ++ [Value.slice ja jn jc]).length = i + 1 ∧ (xc ++ [Value.slice ua un uc]).length = i + 1) := Lib.hid (by have := HLEN.out; simp; omega)
                          have HG : Hid (∀ j, j < i + 1 → Rwb w1.heap.size wk (.slice qa qn qc) (.slice sa sn sc) (.slice ta tn tc) ((xa ++ [Value.slice ha hn hc]).getD j (.slice none 0 0)) (mA.held (mA.ps.getD j 0)) ∧ Rwb w1.heap.size wk (.slice qa qn qc) (.slice sa sn sc) (.slice ta tn tc) ((xb ++ [Value.slice ja jn jc]).getD j (.slice none 0 0)) (mA.claim (mA.ps.getD j 0)) ∧ Rwb w1.heap.size wk (.slice qa qn qc) (.slice sa sn sc) (.slice ta tn tc) ((xc ++ [Value.slice ua un uc]).getD j (.slice none 0 0)) (askOf mA.zero mA.pend (mA.ps.getD j 0))) := Lib.hid (fun j hj => by
                            have l1 := HLEN.out
                            by_cases e : j = i
                            · subst e
                              rw [getD_snoc _ _ _ l1.1, getD_snoc _ _ _ l1.2.1, getD_snoc _ _ _ l1.2.2, HZ.out]
                              exact ⟨⟨HRH.out, fun k hk => Nat.le_trans HW1.out (HRHO.out k hk)⟩, ⟨HRC.out, fun k hk => Nat.le_trans HW1.out (HRCO.out k hk)⟩, ⟨hrr, HUO.out⟩⟩
                            · have hj2 : j < i := by omega
                              rw [getD_old _ _ _ (by omega : j < xa.length), getD_old _ _ _ (by omega : j < xb.length), getD_old _ _ _ (by omega : j < xc.length)]
                              obtain ⟨r1, r2, r3⟩ := HRO.out j hj2
                              exact ⟨⟨HMV.out _ _ (HMS.out _ _ r1), r1.2⟩, ⟨HMV.out _ _ (HMS.out _ _ r2), r2.2⟩, ⟨HMV.out _ _ (HMS.out _ _ r3), r3.2⟩⟩)
                          clear hsz hrr
                          go_wp2_with fail
                          go_roundw
                          case rel => exact ⟨i + 1, _, _, _, by omega, by go_num, HLB.out, HF.out, HG.out⟩
                          case measure => simp [intOf]; omega
                        exact AllTill.nil
                      exact AllTill.nil
                    exact AllTill.nil
                  refine AllTill.cons (i := 20) (rs := []) (by rfl) (fun K hK => ?_) ?_
                  · go_simp
                    have hbx := Bx.new HLB.out (.slice ua un uc) hsz.symm
                    have ht7 : Touch [] wk (wk.alloc (.cells #[.slice ua un uc] 22)) := (Touch.refl [] wk).alloc _
                    have HRH := Lib.hid (HRH.out.same ht7)
                    have HRC := Lib.hid (HRC.out.same ht7)
                    have HMV := Lib.hid (fun v xs h => (HMV.out v xs h).same ht7)
                    have HLB := Lib.hid (HLB.out.same ht7)
                    have HBU := Lib.hid hbx
                    clear hbx ht7 hsz
                    obtain ⟨wk, hwk⟩ : ∃ w', wk.alloc (.cells #[.slice ua un uc] 22) = w' := ⟨_, rfl⟩
                    rw [hwk] at HRH HRC HBU HMV HLB ⊢
                    clear hwk
                    have HT := Lib.hid HLB.out.t
                    obtain ⟨nk, hsz⟩ : ∃ n, wk.heap.size = n := ⟨_, rfl⟩
                    refine hK.out _ _ trivial (fun _ => HT.out) ?_
                    clear hK K
                    refine wpTill.ready (rs := [16]) (by kernel_rfl) (by simp) ?_
                    refine AllTill.cons (i := 16) (rs := []) (by rfl) (fun K hK => ?_) ?_
                    · go_simp
                      have hbx := Bx.new HLB.out (.slice ja jn jc) hsz.symm
                      have ht7 : Touch [] wk (wk.alloc (.cells #[.slice ja jn jc] 22)) := (Touch.refl [] wk).alloc _
                      have HRH := Lib.hid (HRH.out.same ht7)
                      have HRC := Lib.hid (HRC.out.same ht7)
                      have HBU := Lib.hid (HBU.out.same ht7)
                      have HMV := Lib.hid (fun v xs h => (HMV.out v xs h).same ht7)
                      have HLB := Lib.hid (HLB.out.same ht7)
                      have HBC := Lib.hid hbx
                      clear hbx ht7 hsz
                      obtain ⟨wk, hwk⟩ : ∃ w', wk.alloc (.cells #[.slice ja jn jc] 22) = w' := ⟨_, rfl⟩
                      rw [hwk] at HRH HRC HBU HBC HMV HLB ⊢
                      clear hwk
                      have HT := Lib.hid HLB.out.t
                      obtain ⟨nk, hsz⟩ : ∃ n, wk.heap.size = n := ⟨_, rfl⟩
                      refine hK.out _ _ trivial (fun _ => HT.out) ?_
                      clear hK K
                      refine wpTill.ready (rs := [17]) (by kernel_rfl) (by simp) ?_
                      refine AllTill.cons (i := 17) (rs := []) (by rfl) (fun K hK => ?_) ?_
                      · obtain ⟨v9, wk, hr, hB, hR, hX⟩ := HLB.out.appB HBC.out rfl (by have := HLEN.out; omega) 1
                        obtain ⟨sa, sn, sc, rfl⟩ : ∃ a n c, v9 = Value.slice a n c := (by obtain ⟨a, c, e, _⟩ := hB.b.shape; exact ⟨a, _, c, e⟩)
                        refine step_append_run rfl _ _ _ _ rfl _ _ rfl rfl _ _ (hr _) ?_
                        clear hsz
                        have HMV := Lib.hid (fun v xs h => hR v xs (HMV.out v xs h))
                        have HRH := Lib.hid (hR _ _ HRH.out)
                        have HRC := Lib.hid (hR _ _ HRC.out)
                        have HBU := Lib.hid (hX _ _ HBU.out)
                        have HLB := Lib.hid hB
                        have HT := Lib.hid hB.t
                        obtain ⟨nk, hsz⟩ : ∃ n, wk.heap.size = n := ⟨_, rfl⟩
                        clear hr hB hR hX
                        simp only [Act.put, List.setIfInBounds_toArray, List.set_cons_zero, List.set_cons_succ]
                        refine hK.out _ _ trivial (fun _ => HT.out) ?_
                        clear hK K
                        refine wpTill.ready (rs := [21]) (by kernel_rfl) (by simp) ?_
                        refine AllTill.cons (i := 21) (rs := []) (by rfl) (fun K hK => ?_) ?_
                        · obtain ⟨v9, wk, hr, hB, hR, hX⟩ := HLB.out.appC HBU.out rfl (by have := HLEN.out; omega) 1
                          obtain ⟨ta, tn, tc, rfl⟩ : ∃ a n c, v9 = Value.slice a n c := (by obtain ⟨a, c, e, _⟩ := hB.c.shape; exact ⟨a, _, c, e⟩)
                          refine step_append_run rfl _ _ _ _ rfl _ _ rfl rfl _ _ (hr _) ?_
                          clear hsz
                          have HMV := Lib.hid (fun v xs h => hR v xs (HMV.out v xs h))
                          have HRH := Lib.hid (hR _ _ HRH.out)
                          have HRC := Lib.hid (hR _ _ HRC.out)
                          have HLB := Lib.hid hB
                          have HT := Lib.hid hB.t
                          obtain ⟨nk, hsz⟩ : ∃ n, wk.heap.size = n := ⟨_, rfl⟩
                          clear hr hB hR hX
                          simp only [Act.put, List.setIfInBounds_toArray, List.set_cons_zero, List.set_cons_succ]
                          refine hK.out _ _ trivial (fun _ => HT.out) ?_
                          clear hK K
                          refine wpTill.takeT (i := 22) (v := ?v21) (some 7) rfl rfl (by kernel_rfl) (fun _ _ _ h => h) (Or.inl ⟨by rfl, ?hy21⟩) ⟨trivial, HT.out⟩ ?rest21
                          case hy21 => (intro w hSw; have q1 := HX.out w hSw; go_simp; try with_reducible rfl)
                          simp only [Act.put, List.setIfInBounds_toArray, List.set_cons_zero, List.set_cons_succ]
                          refine wpTill.takeT (i := 23) (v := ?v22) (some 8) rfl rfl (by kernel_rfl) (fun _ _ _ h => h) (Or.inl ⟨by rfl, ?hy22⟩) ⟨trivial, HT.out⟩ ?rest22
                          case hy22 => (intro w hSw; have q1 := HX.out w hSw; go_simp; try with_reducible rfl)
                          simp only [Act.put, List.setIfInBounds_toArray, List.set_cons_zero, List.set_cons_succ]
                          refine wpTill.takeT (i := 24) (v := ?v23) (some 9) rfl rfl (by kernel_rfl) (fun _ _ _ h => h) (Or.inl ⟨by rfl, ?hy23⟩) ⟨trivial, HT.out⟩ ?rest23
                          case hy23 => (intro w hSw; have q1 := HX.out w hSw; go_simp; try with_reducible rfl)
                          simp only [Act.put, List.setIfInBounds_toArray, List.set_cons_zero, List.set_cons_succ]
                          refine wpTill.done (by kernel_rfl) ?_ _
                          have hrr := HMV.out _ _ HUF.out.1
                          have HF : Hid ((xa ++ [Value.slice ha hn hc]).length = i + 1 ∧ (xb ++ [Value.slice ja jn jc]).length = i + 1 ∧ (xc ++ [Value.slice ua un uc]).length = i + 1) := Lib.hid (by have := HLEN.out; simp; omega)
                          have HG : Hid (∀ j, j < i + 1 → Rwb w1.heap.size wk (.slice qa qn qc) (.slice sa sn sc) (.slice ta tn tc) ((xa ++ [Value.slice ha hn hc]).getD j (.slice none 0 0)) (mA.held (mA.ps.getD j 0)) ∧ Rwb w1.heap.size wk (.slice qa qn qc) (.slice sa sn sc) (.slice ta tn tc) ((xb ++ [Value.slice ja jn jc]).getD j (.slice none 0 0)) (mA.claim (mA.ps.getD j 0)) ∧ Rwb w1.heap.size wk (.slice qa qn qc) (.slice sa sn sc) (.slice ta tn tc) ((xc ++ [Value.slice ua un uc]).getD j (.slice none 0 0)) (askOf mA.zero mA.pend (mA.ps.getD j 0))) := Lib.hid (fun j hj => by
                            have l1 := HLEN.out
                            by_cases e : j = i
                            · subst e
                              rw [getD_snoc _ _ _ l1.1, getD_snoc _ _ _ l1.2.1, getD_snoc _ _ _ l1.2.2, HZ.out]
                              exact ⟨⟨HRH.out, fun k hk => Nat.le_trans HW1.out (HRHO.out k hk)⟩, ⟨HRC.out, fun k hk => Nat.le_trans HW1.out (HRCO.out k hk)⟩, ⟨hrr, HUO.out⟩⟩
                            · have hj2 : j < i := by omega
                              rw [getD_old _ _ _ (by omega : j < xa.length), getD_old _ _ _ (by omega : j < xb.length), getD_old _ _ _ (by omega : j < xc.length)]
                              obtain ⟨r1, r2, r3⟩ := HRO.out j hj2
                              exact ⟨⟨HMV.out _ _ (HMS.out _ _ r1), r1.2⟩, ⟨HMV.out _ _ (HMS.out _ _ r2), r2.2⟩, ⟨HMV.out _ _ (HMS.out _ _ r3), r3.2⟩⟩)
                          clear hsz hrr
                          go_wp2_with fail
                          go_roundw
                          case rel => exact ⟨i + 1, _, _, _, by omega, by go_num, HLB.out, HF.out, HG.out⟩
                          case measure => simp [intOf]; omega
                        exact AllTill.nil
                      exact AllTill.nil
                    exact AllTill.nil
                  exact AllTill.nil
                refine AllTill.cons (i := 20) (rs := []) (by rfl) (fun K hK => ?_) ?_
                · go_simp
                  have hbx := Bx.new HLB.out (.slice ua un uc) hsz.symm
                  have ht7 : Touch [] wk (wk.alloc (.cells #[.slice ua un uc] 22)) := (Touch.refl [] wk).alloc _
                  have HRH := Lib.hid (HRH.out.same ht7)
                  have HMV := Lib.hid (fun v xs h => (HMV.out v xs h).same ht7)
                  have HLB := Lib.hid (HLB.out.same ht7)
                  have HBU := Lib.hid hbx
                  clear hbx ht7 hsz
                  obtain ⟨wk, hwk⟩ : ∃ w', wk.alloc (.cells #[.slice ua un uc] 22) = w' := ⟨_, rfl⟩
                  rw [hwk] at HRH HBU HMV HLB ⊢
                  clear hwk
                  have HT := Lib.hid HLB.out.t
                  obtain ⟨nk, hsz⟩ : ∃ n, wk.heap.size = n := ⟨_, rfl⟩
                  refine hK.out _ _ trivial (fun _ => HT.out) ?_
                  clear hK K
                  refine wpTill.ready (rs := [15]) (by kernel_rfl) (by simp) ?_
                  refine AllTill.cons (i := 15) (rs := []) (by rfl) (fun K hK => ?_) ?_
                  · go_simp
                    go_at_call 20
                    refine (HCC.out _ HT.out).mono ?_
                    rintro e wk ⟨v9, rfl, hq, ht7⟩
                    clear hsz
                    obtain ⟨ja, jn, jc, rfl⟩ : ∃ a n c, v9 = Value.slice a n c := (by obtain ⟨a, c, e, _⟩ := hq.shape; exact ⟨a, _, c, e⟩)
                    have HRH := Lib.hid (HRH.out.same ht7)
                    have HBU := Lib.hid (HBU.out.same ht7)
                    have HMV := Lib.hid (fun v xs h => (HMV.out v xs h).same ht7)
                    have HRC := Lib.hid (Rw3.new HLB.out ht7 hq)
                    have HRCO := Lib.hid (fun k hk => Nat.le_trans HT.out.size (hq.own k hk).1)
                    have HLB := Lib.hid (HLB.out.same ht7)
                    have HT := Lib.hid HLB.out.t
                    clear hq ht7
                    obtain ⟨nk, hsz⟩ : ∃ n, wk.heap.size = n := ⟨_, rfl⟩
                    simp only [Act.put, List.setIfInBounds_toArray, List.set_cons_zero, List.set_cons_succ]
                    refine hK.out _ _ trivial (fun _ => HT.out) ?_
                    clear hK K
                    refine wpTill.ready (rs := [16]) (by kernel_rfl) (by simp) ?_
                    refine AllTill.cons (i := 16) (rs := []) (by rfl) (fun K hK => ?_) ?_
                    · go_simp
                      have hbx := Bx.new HLB.out (.slice ja jn jc) hsz.symm
                      have ht7 : Touch [] wk (wk.alloc (.cells #[.slice ja jn jc] 22)) := (Touch.refl [] wk).alloc _
                      have HRH := Lib.hid (HRH.out.same ht7)
                      have HRC := Lib.hid (HRC.out.same ht7)
                      have HBU := Lib.hid (HBU.out.same ht7)
                      have HMV := Lib.hid (fun v xs h => (HMV.out v xs h).same ht7)
                      have HLB := Lib.hid (HLB.out.same ht7)
                      have HBC := Lib.hid hbx
                      clear hbx ht7 hsz
                      obtain ⟨wk, hwk⟩ : ∃ w', wk.alloc (.cells #[.slice ja jn jc] 22) = w' := ⟨_, rfl⟩
                      rw [hwk] at HRH HRC HBU HBC HMV HLB ⊢
                      clear hwk
                      have HT := Lib.hid HLB.out.t
                      obtain ⟨nk, hsz⟩ : ∃ n, wk.heap.size = n := ⟨_, rfl⟩
                      refine hK.out _ _ trivial (fun _ => HT.out) ?_
                      clear hK K
                      refine wpTill.ready (rs := [17]) (by kernel_rfl) (by simp) ?_
                      refine AllTill.cons (i := 17) (rs := []) (by rfl) (fun K hK => ?_) ?_
                      · obtain ⟨v9, wk, hr, hB, hR, hX⟩ := HLB.out.appB HBC.out rfl (by have := HLEN.out; omega) 1
                        obtain ⟨sa, sn, sc, rfl⟩ : ∃ a n c, v9 = Value.slice a n c := (by obtain ⟨a, c, e, _⟩ := hB.b.shape; exact ⟨a, _, c, e⟩)
                        refine step_append_run rfl _ _ _ _ rfl _ _ rfl rfl _ _ (hr _) ?_
                        clear hsz
                        have HMV := Lib.hid (fun v xs h => hR v xs (HMV.out v xs h))
                        have HRH := Lib.hid (hR _ _ HRH.out)
                        have HRC := Lib.hid (hR _ _ HRC.out)
                        have HBU := Lib.hid (hX _ _ HBU.out)
                        have HLB := Lib.hid hB
                        have HT := Lib.hid hB.t
                        obtain ⟨nk, hsz⟩ : ∃ n, wk.heap.size = n := ⟨_, rfl⟩
                        clear hr hB hR hX
                        simp only [Act.put, List.setIfInBounds_toArray, List.set_cons_zero, List.set_cons_succ]
                        refine hK.out _ _ trivial (fun _ => HT.out) ?_
                        clear hK K
                        refine wpTill.ready (rs := [21]) (by kernel_rfl) (by simp) ?_
                        refine AllTill.cons (i := 21) (rs := []) (by rfl) (fun K hK => ?_) ?_
                        · obtain ⟨v9, wk, hr, hB, hR, hX⟩ := HLB.out.appC HBU.out rfl (by have := HLEN.out; omega) 1
                          obtain ⟨ta, tn, tc, rfl⟩ : ∃ a n c, v9 = Value.slice a n c := (by obtain ⟨a, c, e, _⟩ := hB.c.shape; exact ⟨a, _, c, e⟩)
                          refine step_append_run rfl _ _ _ _ rfl _ _ rfl rfl _ _ (hr _) ?_
                          clear hsz
                          have HMV := Lib.hid (fun v xs h => hR v xs (HMV.out v xs h))
                          have HRH := Lib.hid (hR _ _ HRH.out)
                          have HRC := Lib.hid (hR _ _ HRC.out)
                          have HLB := Lib.hid hB
                          have HT := Lib.hid hB.t
                          obtain ⟨nk, hsz⟩ : ∃ n, wk.heap.size = n := ⟨_, rfl⟩
                          clear hr hB hR hX
                          simp only [Act.put, List.setIfInBounds_toArray, List.set_cons_zero, List.set_cons_succ]
                          refine hK.out _ _ trivial (fun _ => HT.out) ?_
                          clear hK K
                          refine wpTill.takeT (i := 22) (v := ?v24) (some 7) rfl rfl (by kernel_rfl) (fun _ _ _ h => h) (Or.inl ⟨by rfl, ?hy24⟩) ⟨trivial, HT.out⟩ ?rest24
                          case hy24 => (intro w hSw; have q1 := HX.out w hSw; go_simp; try with_reducible rfl)
                          simp only [Act.put, List.setIfInBounds_toArray, List.set_cons_zero, List.set_cons_succ]
                          refine wpTill.takeT (i := 23) (v := ?v25) (some 8) rfl rfl (by kernel_rfl) (fun _ _ _ h => h) (Or.inl ⟨by rfl, ?hy25⟩) ⟨trivial, HT.out⟩ ?rest25
                          case hy25 => (intro w hSw; have q1 := HX.out w hSw; go_simp; try with_reducible rfl)
                          simp only [Act.put, List.setIfInBounds_toArray, List.set_cons_zero, List.set_cons_succ]
                          refine wpTill.takeT (i := 24) (v := ?v26) (some 9) rfl rfl (by kernel_rfl) (fun _ _ _ h => h) (Or.inl ⟨by rfl, ?hy26⟩) ⟨trivial, HT.out⟩ ?rest26
                          case hy26 => (intro w hSw; have q1 := HX.out w hSw; go_simp; try with_reducible rfl)
                          simp only [Act.put, List.setIfInBounds_toArray, List.set_cons_zero, List.set_cons_succ]
                          refine wpTill.done (by kernel_rfl) ?_ _
                          have hrr := HMV.out _ _ HUF.out.1
                          have HF : Hid ((xa ++ [Value.slice ha hn hc]).length = i + 1 ∧ (xb ++ [Value.slice ja jn jc]).length = i + 1 ∧ (xc ++ [Value.slice ua un uc]).length = i + 1) := Lib.hid (by have := HLEN.out; simp; omega)
                          have HG : Hid (∀ j, j < i + 1 → Rwb w1.heap.size wk (.slice qa qn qc) (.slice sa sn sc) (.slice ta tn tc) ((xa ++ [Value.slice ha hn hc]).getD j (.slice none 0 0)) (mA.held (mA.ps.getD j 0)) ∧ Rwb w1.heap.size wk (.slice qa qn qc) (.slice sa sn sc) (.slice ta tn tc) ((xb ++ [Value.slice ja jn jc]).getD j (.slice none 0 0)) (mA.claim (mA.ps.getD j 0)) ∧ Rwb w1.heap.size wk (.slice qa qn qc) (.slice sa sn sc) (.slice ta tn tc) ((xc ++ [Value.slice ua un uc]).getD j (.slice none 0 0)) (askOf mA.zero mA.pend (mA.ps.getD j 0))) := Lib.hid (fun j hj => by
                            have l1 := HLEN.out
                            by_cases e : j = i
                            · subst e
                              rw [getD_snoc _ _ _ l1.1, getD_snoc _ _ _ l1.2.1, getD_snoc _ _ _ l1.2.2, HZ.out]
                              exact ⟨⟨HRH.out, fun k hk => Nat.le_trans HW1.out (HRHO.out k hk)⟩, ⟨HRC.out, fun k hk => Nat.le_trans HW1.out (HRCO.out k hk)⟩, ⟨hrr, HUO.out⟩⟩
                            · have hj2 : j < i := by omega
                              rw [getD_old _ _ _ (by omega : j < xa.length), getD_old _ _ _ (by omega : j < xb.length), getD_old _ _ _ (by omega : j < xc.length)]
                              obtain ⟨r1, r2, r3⟩ := HRO.out j hj2
                              exact ⟨⟨HMV.out _ _ (HMS.out _ _ r1), r1.2⟩, ⟨HMV.out _ _ (HMS.out _ _ r2), r2.2⟩, ⟨HMV.out _ _ (HMS.out _ _ r3), r3.2⟩⟩)
                          clear hsz hrr
                          go_wp2_with fail
                          go_roundw
                          case rel => exact ⟨i + 1, _, _, _, by omega, by go_num, HLB.out, HF.out, HG.out⟩
                          case measure => simp [intOf]; omega
                        exact AllTill.nil
                      exact AllTill.nil
                    exact AllTill.nil
                  exact AllTill.nil
                exact AllTill.nil
              refine AllTill.cons (i := 20) (rs := []) (by rfl) (fun K hK => ?_) ?_
              · go_simp
                have hbx := Bx.new HLB.out (.slice ua un uc) hsz.symm
                have ht7 : Touch [] wk (wk.alloc (.cells #[.slice ua un uc] 22)) := (Touch.refl [] wk).alloc _
                have HRH := Lib.hid (HRH.out.same ht7)
                have HBH := Lib.hid (HBH.out.same ht7)
                have HMV := Lib.hid (fun v xs h => (HMV.out v xs h).same ht7)
                have HLB := Lib.hid (HLB.out.same ht7)
                have HBU := Lib.hid hbx
                clear hbx ht7 hsz
                obtain ⟨wk, hwk⟩ : ∃ w', wk.alloc (.cells #[.slice ua un uc] 22) = w' := ⟨_, rfl⟩
                rw [hwk] at HRH HBH HBU HMV HLB ⊢
                clear hwk
                have HT := Lib.hid HLB.out.t
                obtain ⟨nk, hsz⟩ : ∃ n, wk.heap.size = n := ⟨_, rfl⟩
                refine hK.out _ _ trivial (fun _ => HT.out) ?_
                clear hK K
                refine wpTill.ready (rs := [8]) (by kernel_rfl) (by simp) ?_
                refine AllTill.cons (i := 8) (rs := []) (by rfl) (fun K hK => ?_) ?_
                · obtain ⟨v9, wk, hr, hB, hR, hX⟩ := HLB.out.appA HBH.out rfl (by have := HLEN.out; omega) 1
                  obtain ⟨qa, qn, qc, rfl⟩ : ∃ a n c, v9 = Value.slice a n c := (by obtain ⟨a, c, e, _⟩ := hB.a.shape; exact ⟨a, _, c, e⟩)
                  refine step_append_run rfl _ _ _ _ rfl _ _ rfl rfl _ _ (hr _) ?_
                  clear hsz
                  have HMV := Lib.hid (fun v xs h => hR v xs (HMV.out v xs h))
                  have HRH := Lib.hid (hR _ _ HRH.out)
                  have HBU := Lib.hid (hX _ _ HBU.out)
                  have HLB := Lib.hid hB
                  have HT := Lib.hid hB.t
                  obtain ⟨nk, hsz⟩ : ∃ n, wk.heap.size = n := ⟨_, rfl⟩
                  clear hr hB hR hX
                  simp only [Act.put, List.setIfInBounds_toArray, List.set_cons_zero, List.set_cons_succ]
                  refine hK.out _ _ trivial (fun _ => HT.out) ?_
                  clear hK K
                  refine wpTill.ready (rs := [15]) (by kernel_rfl) (by simp) ?_
                  refine AllTill.cons (i := 15) (rs := []) (by rfl) (fun K hK => ?_) ?_
                  · go_simp
                    go_at_call 20
                    refine (HCC.out _ HT.out).mono ?_
                    rintro e wk ⟨v9, rfl, hq, ht7⟩
                    clear hsz
                    obtain ⟨ja, jn, jc, rfl⟩ : ∃ a n c, v9 = Value.slice a n c := (by obtain ⟨a, c, e, _⟩ := hq.shape; exact ⟨a, _, c, e⟩)
                    have HRH := Lib.hid (HRH.out.same ht7)
                    have HBU := Lib.hid (HBU.out.same ht7)
                    have HMV := Lib.hid (fun v xs h => (HMV.out v xs h).same ht7)
                    have HRC := Lib.hid (Rw3.new HLB.out ht7 hq)
                    have HRCO := Lib.hid (fun k hk => Nat.le_trans HT.out.size (hq.own k hk).1)
                    have HLB := Lib.hid (HLB.out.same ht7)
                    have HT := Lib.hid HLB.out.t
                    clear hq ht7
                    obtain ⟨nk, hsz⟩ : ∃ n, wk.heap.size = n := ⟨_, rfl⟩
                    simp only [Act.put, List.setIfInBounds_toArray, List.set_cons_zero, List.set_cons_succ]
                    refine hK.out _ _ trivial (fun _ => HT.out) ?_
                    clear hK K
                    refine wpTill.ready (rs := [16]) (by kernel_rfl) (by simp) ?_
                    refine AllTill.cons (i := 16) (rs := []) (by rfl) (fun K hK => ?_) ?_
                    · go_simp
                      have hbx := Bx.new HLB.out (.slice ja jn jc) hsz.symm
                      have ht7 : Touch [] wk (wk.alloc (.cells #[.slice ja jn jc] 22)) := (Touch.refl [] wk).alloc _
                      have HRH := Lib.hid (HRH.out.same ht7)
                      have HRC := Lib.hid (HRC.out.same ht7)
                      have HBU := Lib.hid (HBU.out.same ht7)
                      have HMV := Lib.hid (fun v xs h => (HMV.out v xs h).same ht7)
                      have HLB := Lib.hid (HLB.out.same ht7)
                      have HBC := Lib.hid hbx
                      clear hbx ht7 hsz
                      obtain ⟨wk, hwk⟩ : ∃ w', wk.alloc (.cells #[.slice ja jn jc] 22) = w' := ⟨_, rfl⟩
                      rw [hwk] at HRH HRC HBU HBC HMV HLB ⊢
                      clear hwk
                      have HT := Lib.hid HLB.out.t
                      obtain ⟨nk, hsz⟩ : ∃ n, wk.heap.size = n := ⟨_, rfl⟩
                      refine hK.out _ _ trivial (fun _ => HT.out) ?_
                      clear hK K
                      refine wpTill.ready (rs := [17]) (by kernel_rfl) (by simp) ?_
                      refine AllTill.cons (i := 17) (rs := []) (by rfl) (fun K hK => ?_) ?_
                      · obtain ⟨v9, wk, hr, hB, hR, hX⟩ := HLB.out.appB HBC.out rfl (by have := HLEN.out; omega) 1
                        obtain ⟨sa, sn, sc, rfl⟩ : ∃ a n c, v9 = Value.slice a n c := (by obtain ⟨a, c, e, _⟩ := hB.b.shape; exact ⟨a, _, c, e⟩)
                        refine step_append_run rfl _ _ _ _ rfl _ _ rfl rfl _ _ (hr _) ?_
                        clear hsz
                        have HMV := Lib.hid (fun v xs h => hR v xs (HMV.out v xs h))
                        have HRH := Lib.hid (hR _ _ HRH.out)
                        have HRC := Lib.hid (hR _ _ HRC.out)
                        have HBU := Lib.hid (hX _ _ HBU.out)
                        have HLB := Lib.hid hB
                        have HT := Lib.hid hB.t
                        obtain ⟨nk, hsz⟩ : ∃ n, wk.heap.size = n := ⟨_, rfl⟩
                        clear hr hB hR hX
                        simp only [Act.put, List.setIfInBounds_toArray, List.set_cons_zero, List.set_cons_succ]
                        refine hK.out _ _ trivial (fun _ => HT.out) ?_
                        clear hK K
                        refine wpTill.ready (rs := [21]) (by kernel_rfl) (by simp) ?_
                        refine AllTill.cons (i := 21) (rs := []) (by rfl) (fun K hK => ?_) ?_
                        · obtain ⟨v9, wk, hr, hB, hR, hX⟩ := HLB.out.appC HBU.out rfl (by have := HLEN.out; omega) 1
                          obtain ⟨ta, tn, tc, rfl⟩ : ∃ a n c, v9 = Value.slice a n c := (by obtain ⟨a, c, e, _⟩ := hB.c.shape; exact ⟨a, _, c, e⟩)
                          refine step_append_run rfl _ _ _ _ rfl _ _ rfl rfl _ _ (hr _) ?_
                          clear hsz
                          have HMV := Lib.hid (fun v xs h => hR v xs (HMV.out v xs h))
                          have HRH := Lib.hid (hR _ _ HRH.out)
                          have HRC := Lib.hid (hR _ _ HRC.out)
                          have HLB := Lib.hid hB
                          have HT := Lib.hid hB.t
                          obtain ⟨nk, hsz⟩ : ∃ n, wk.heap.size = n := ⟨_, rfl⟩
                          clear hr hB hR hX
                          simp only [Act.put, List.setIfInBounds_toArray, List.set_cons_zero, List.set_cons_succ]
                          refine hK.out _ _ trivial (fun _ => HT.out) ?_
                          clear hK K
                          refine wpTill.takeT (i := 22) (v := ?v27) (some 7) rfl rfl (by kernel_rfl) (fun _ _ _ h => h) (Or.inl ⟨by rfl, ?hy27⟩) ⟨trivial, HT.out⟩ ?rest27
                          case hy27 => (intro w hSw; have q1 := HX.out w hSw; go_simp; try with_reducible rfl)
                          simp only [Act.put, List.setIfInBounds_toArray, List.set_cons_zero, List.set_cons_succ]
                          refine wpTill.takeT (i := 23) (v := ?v28) (some 8) rfl rfl (by kernel_rfl) (fun _ _ _ h => h) (Or.inl ⟨by rfl, ?hy28⟩) ⟨trivial, HT.out⟩ ?rest28
                          case hy28 => (intro w hSw; have q1 := HX.out w hSw; go_simp; try with_reducible rfl)
                          simp only [Act.put, List.setIfInBounds_toArray, List.set_cons_zero, List.set_cons_succ]
                          refine wpTill.takeT (i := 24) (v := ?v29) (some 9) rfl rfl (by kernel_rfl) (fun _ _ _ h => h) (Or.inl ⟨by rfl, ?hy29⟩) ⟨trivial, HT.out⟩ ?rest29
                          case hy29 => (intro w hSw; have q1 := HX.out w hSw; go_simp; try with_reducible rfl)
                          simp only [Act.put, List.setIfInBounds_toArray, List.set_cons_zero, List.set_cons_succ]
                          refine wpTill.done (by kernel_rfl) ?_ _
                          have hrr := HMV.out _ _ HUF.out.1
                          have HF : Hid ((xa ++ [Value.slice ha hn hc]).length = i + 1 ∧ (xb ++ [Value.slice ja jn jc]).length = i + 1 ∧ (xc ++ [Value.slice ua un uc]).length = i + 1) := Lib.hid (by have := HLEN.out; simp; omega)
                          have HG : Hid (∀ j, j < i + 1 → Rwb w1.heap.size wk (.slice qa qn qc) (.slice sa sn sc) (.slice ta tn tc) ((xa ++ [Value.slice ha hn hc]).getD j (.slice none 0 0)) (mA.held (mA.ps.getD j 0)) ∧ Rwb w1.heap.size wk (.slice qa qn qc) (.slice sa sn sc) (.slice ta tn tc) ((xb ++ [Value.slice ja jn jc]).getD j (.slice none 0 0)) (mA.claim (mA.ps.getD j 0)) ∧ Rwb w1.heap.size wk (.slice qa qn qc) (.slice sa sn sc) (.slice ta tn tc) ((xc ++ [Value.slice ua un uc]).getD j (.slice none 0 0)) (askOf mA.zero mA.pend (mA.ps.getD j 0))) := Lib.hid (fun j hj => by
                            have l1 := HLEN.out
                            by_cases e : j = i
                            · subst e
                              rw [getD_snoc _ _ _ l1.1, getD_snoc _ _ _ l1.2.1, getD_snoc _ _ _ l1.2.2, HZ.out]
                              exact ⟨⟨HRH.out, fun k hk => Nat.le_trans HW1.out (HRHO.out k hk)⟩, ⟨HRC.out, fun k hk => Nat.le_trans HW1.out (HRCO.out k hk)⟩, ⟨hrr, HUO.out⟩⟩
                            · have hj2 : j < i := by omega
                              rw [getD_old _ _ _ (by omega : j < xa.length), getD_old _ _ _ (by omega : j < xb.length), getD_old _ _ _ (by omega : j < xc.length)]
                              obtain ⟨r1, r2, r3⟩ := HRO.out j hj2
                              exact ⟨⟨HMV.out _ _ (HMS.out _ _ r1), r1.2⟩, ⟨HMV.out _ _ (HMS.out _ _ r2), r2.2⟩, ⟨HMV.out _ _ (HMS.out _ _ r3), r3.2⟩⟩)
                          clear hsz hrr
                          go_wp2_with fail
                          go_roundw
                          case rel => exact ⟨i + 1, _, _, _, by omega, by go_num, HLB.out, HF.out, HG.out⟩
                          case measure => simp [intOf]; omega
                        exact AllTill.nil
                      exact AllTill.nil
                    exact AllTill.nil
                  exact AllTill.nil
                exact AllTill.nil
              exact AllTill.nil
            refine AllTill.cons (i := 20) (rs := []) (by rfl) (fun K hK => ?_) ?_
            · go_simp
              have hbx := Bx.new HLB.out (.slice ua un uc) hsz.symm
              have ht7 : Touch [] wk (wk.alloc (.cells #[.slice ua un uc] 22)) := (Touch.refl [] wk).alloc _
              have HRH := Lib.hid (HRH.out.same ht7)
              have HMV := Lib.hid (fun v xs h => (HMV.out v xs h).same ht7)
              have HLB := Lib.hid (HLB.out.same ht7)
              have HBU := Lib.hid hbx
              clear hbx ht7 hsz
              obtain ⟨wk, hwk⟩ : ∃ w', wk.alloc (.cells #[.slice ua un uc] 22) = w' := ⟨_, rfl⟩
              rw [hwk] at HRH HBU HMV HLB ⊢
              clear hwk
              have HT := Lib.hid HLB.out.t
              obtain ⟨nk, hsz⟩ : ∃ n, wk.heap.size = n := ⟨_, rfl⟩
              refine hK.out _ _ trivial (fun _ => HT.out) ?_
              clear hK K
              refine wpTill.ready (rs := [7]) (by kernel_rfl) (by simp) ?_
              refine AllTill.cons (i := 7) (rs := []) (by rfl) (fun K hK => ?_) ?_
              · go_simp
                have hbx := Bx.new HLB.out (.slice ha hn hc) hsz.symm
                have ht7 : Touch [] wk (wk.alloc (.cells #[.slice ha hn hc] 22)) := (Touch.refl [] wk).alloc _
                have HRH := Lib.hid (HRH.out.same ht7)
                have HBU := Lib.hid (HBU.out.same ht7)
                have HMV := Lib.hid (fun v xs h => (HMV.out v xs h).same ht7)
                have HLB := Lib.hid (HLB.out.same ht7)
                have HBH := Lib.hid hbx
                clear hbx ht7 hsz
                obtain ⟨wk, hwk⟩ : ∃ w', wk.alloc (.cells #[.slice ha hn hc] 22) = w' := ⟨_, rfl⟩
                rw [hwk] at HRH HBU HBH HMV HLB ⊢
                clear hwk
                have HT := Lib.hid HLB.out.t
                obtain ⟨nk, hsz⟩ : ∃ n, wk.heap.size = n := ⟨_, rfl⟩
                refine hK.out _ _ trivial (fun _ => HT.out) ?_
                clear hK K
                refine wpTill.ready (rs := [8]) (by kernel_rfl) (by simp) ?_
                refine AllTill.cons (i := 8) (rs := []) (by rfl) (fun K hK => ?_) ?_
                · obtain ⟨v9, wk, hr, hB, hR, hX⟩ := HLB.out.appA HBH.out rfl (by have := HLEN.out; omega) 1
                  obtain ⟨qa, qn, qc, rfl⟩ : ∃ a n c, v9 = Value.slice a n c := (by obtain ⟨a, c, e, _⟩ := hB.a.shape; exact ⟨a, _, c, e⟩)
                  refine step_append_run rfl _ _ _ _ rfl _ _ rfl rfl _ _ (hr _) ?_
                  clear hsz
                  have HMV := Lib.hid (fun v xs h => hR v xs (HMV.out v xs h))
                  have HRH := Lib.hid (hR _ _ HRH.out)
                  have HBU := Lib.hid (hX _ _ HBU.out)
                  have HLB := Lib.hid hB
                  have HT := Lib.hid hB.t
                  obtain ⟨nk, hsz⟩ : ∃ n, wk.heap.size = n := ⟨_, rfl⟩
                  clear hr hB hR hX
                  simp only [Act.put, List.setIfInBounds_toArray, List.set_cons_zero, List.set_cons_succ]
                  refine hK.out _ _ trivial (fun _ => HT.out) ?_
                  clear hK K
                  refine wpTill.ready (rs := [15]) (by kernel_rfl) (by simp) ?_
                  refine AllTill.cons (i := 15) (rs := []) (by rfl) (fun K hK => ?_) ?_
                  · go_simp
                    go_at_call 20
                    refine (HCC.out _ HT.out).mono ?_
                    rintro e wk ⟨v9, rfl, hq, ht7⟩
                    clear hsz
                    obtain ⟨ja, jn, jc, rfl⟩ : ∃ a n c, v9 = Value.slice a n c := (by obtain ⟨a, c, e, _⟩ := hq.shape; exact ⟨a, _, c, e⟩)
                    have HRH := Lib.hid (HRH.out.same ht7)
                    have HBU := Lib.hid (HBU.out.same ht7)
                    have HMV := Lib.hid (fun v xs h => (HMV.out v xs h).same ht7)
                    have HRC := Lib.hid (Rw3.new HLB.out ht7 hq)
                    have HRCO := Lib.hid (fun k hk => Nat.le_trans HT.out.size (hq.own k hk).1)
                    have HLB := Lib.hid (HLB.out.same ht7)
                    have HT := Lib.hid HLB.out.t
                    clear hq ht7
                    obtain ⟨nk, hsz⟩ : ∃ n, wk.heap.size = n := ⟨_, rfl⟩
                    simp only [Act.put, List.setIfInBounds_toArray, List.set_cons_zero, List.set_cons_succ]
                    refine hK.out _ _ trivial (fun _ => HT.out) ?_
                    clear hK K
                    refine wpTill.ready (rs := [16]) (by kernel_rfl) (by simp) ?_
                    refine AllTill.cons (i := 16) (rs := []) (by rfl) (fun K hK => ?_) ?_
                    · go_simp
                      have hbx := Bx.new HLB.out (.slice ja jn jc) hsz.symm
                      have ht7 : Touch [] wk (wk.alloc (.cells #[.slice ja jn jc] 22)) := (Touch.refl [] wk).alloc _
                      have HRH := Lib.hid (HRH.out.same ht7)
                      have HRC := Lib.hid (HRC.out.same ht7)
                      have HBU := Lib.hid (HBU.out.same ht7)
                      have HMV := Lib.hid (fun v xs h => (HMV.out v xs h).same ht7)
                      have HLB := Lib.hid (HLB.out.same ht7)
                      have HBC := Lib.hid hbx
                      clear hbx ht7 hsz
                      obtain ⟨wk, hwk⟩ : ∃ w', wk.alloc (.cells #[.slice ja jn jc] 22) = w' := ⟨_, rfl⟩
                      rw [hwk] at HRH HRC HBU HBC HMV HLB ⊢
                      clear hwk
                      have HT := Lib.hid HLB.out.t
                      obtain ⟨nk, hsz⟩ : ∃ n, wk.heap.size = n := ⟨_, rfl⟩
                      refine hK.out _ _ trivial (fun _ => HT.out) ?_
                      clear hK K
                      refine wpTill.ready (rs := [17]) (by kernel_rfl) (by simp) ?_
                      refine AllTill.cons (i := 17) (rs := []) (by rfl) (fun K hK => ?_) ?_
                      · obtain ⟨v9, wk, hr, hB, hR, hX⟩ := HLB.out.appB HBC.out rfl (by have := HLEN.out; omega) 1
                        obtain ⟨sa, sn, sc, rfl⟩ : ∃ a n c, v9 = Value.slice a n c := (by obtain ⟨a, c, e, _⟩ := hB.b.shape; exact ⟨a, _, c, e⟩)
                        refine step_append_run rfl _ _ _ _ rfl _ _ rfl rfl _ _ (hr _) ?_
                        clear hsz
                        have HMV := Lib.hid (fun v xs h => hR v xs (HMV.out v xs h))
                        have HRH := Lib.hid (hR _ _ HRH.out)
                        have HRC := Lib.hid (hR _ _ HRC.out)
                        have HBU := Lib.hid (hX _ _ HBU.out)
                        have HLB := Lib.hid hB
                        have HT := Lib.hid hB.t
                        obtain ⟨nk, hsz⟩ : ∃ n, wk.heap.size = n := ⟨_, rfl⟩
                        clear hr hB hR hX
                        simp only [Act.put, List.setIfInBounds_toArray, List.set_cons_zero, List.set_cons_succ]
                        refine hK.out _ _ trivial (fun _ => HT.out) ?_
                        clear hK K
                        refine wpTill.ready (rs := [21]) (by kernel_rfl) (by simp) ?_
                        refine AllTill.cons (i := 21) (rs := []) (by rfl) (fun K hK => ?_) ?_
                        · obtain ⟨v9, wk, hr, hB, hR, hX⟩ := HLB.out.appC HBU.out rfl (by have := HLEN.out; omega) 1
                          obtain ⟨ta, tn, tc, rfl⟩ : ∃ a n c, v9 = Value.slice a n c := (by obtain ⟨a, c, e, _⟩ := hB.c.shape; exact ⟨a, _, c, e⟩)
                          refine step_append_run rfl _ _ _ _ rfl _ _ rfl rfl _ _ (hr _) ?_
                          clear hsz
                          have HMV := Lib.hid (fun v xs h => hR v xs (HMV.out v xs h))
                          have HRH := Lib.hid (hR _ _ HRH.out)
                          have HRC := Lib.hid (hR _ _ HRC.out)
                          have HLB := Lib.hid hB
                          have HT := Lib.hid hB.t
                          obtain ⟨nk, hsz⟩ : ∃ n, wk.heap.size = n := ⟨_, rfl⟩
                          clear hr hB hR hX
                          simp only [Act.put, List.setIfInBounds_toArray, List.set_cons_zero, List.set_cons_succ]
                          refine hK.out _ _ trivial (fun _ => HT.out) ?_
                          clear hK K
                          refine wpTill.takeT (i := 22) (v := ?v30) (some 7) rfl rfl (by kernel_rfl) (fun _ _ _ h => h) (Or.inl ⟨by rfl, ?hy30⟩) ⟨trivial, HT.out⟩ ?rest30
                          case hy30 => (intro w hSw; have q1 := HX.out w hSw; go_simp; try with_reducible rfl)
                          simp only [Act.put, List.setIfInBounds_toArray, List.set_cons_zero, List.set_cons_succ]
                          refine wpTill.takeT (i := 23) (v := ?v31) (some 8) rfl rfl (by kernel_rfl) (fun _ _ _ h => h) (Or.inl ⟨by rfl, ?hy31⟩) ⟨trivial, HT.out⟩ ?rest31
                          case hy31 => (intro w hSw; have q1 := HX.out w hSw; go_simp; try with_reducible rfl)
                          simp only [Act.put, List.setIfInBounds_toArray, List.set_cons_zero, List.set_cons_succ]
                          refine wpTill.takeT (i := 24) (v := ?v32) (some 9) rfl rfl (by kernel_rfl) (fun _ _ _ h => h) (Or.inl ⟨by rfl, ?hy32⟩) ⟨trivial, HT.out⟩ ?rest32
                          case hy32 => (intro w hSw; have q1 := HX.out w hSw; go_simp; try with_reducible rfl)
                          simp only [Act.put, List.setIfInBounds_toArray, List.set_cons_zero, List.set_cons_succ]
                          refine wpTill.done (by kernel_rfl) ?_ _
                          have hrr := HMV.out _ _ HUF.out.1
                          have HF : Hid ((xa ++ [Value.slice ha hn hc]).length = i + 1 ∧ (xb ++ [Value.slice ja jn jc]).length = i + 1 ∧ (xc ++ [Value.slice ua un uc]).length = i + 1) := Lib.hid (by have := HLEN.out; simp; omega)
                          have HG : Hid (∀ j, j < i + 1 → Rwb w1.heap.size wk (.slice qa qn qc) (.slice sa sn sc) (.slice ta tn tc) ((xa ++ [Value.slice ha hn hc]).getD j (.slice none 0 0)) (mA.held (mA.ps.getD j 0)) ∧ Rwb w1.heap.size wk (.slice qa qn qc) (.slice sa sn sc) (.slice ta tn tc) ((xb ++ [Value.slice ja jn jc]).getD j (.slice none 0 0)) (mA.claim (mA.ps.getD j 0)) ∧ Rwb w1.heap.size wk (.slice qa qn qc) (.slice sa sn sc) (.slice ta tn tc) ((xc ++ [Value.slice ua un uc]).getD j (.slice none 0 0)) (askOf mA.zero mA.pend (mA.ps.getD j 0))) := Lib.hid (fun j hj => by
                            have l1 := HLEN.out
                            by_cases e : j = i
                            · subst e
                              rw [getD_snoc _ _ _ l1.1, getD_snoc _ _ _ l1.2.1, getD_snoc _ _ _ l1.2.2, HZ.out]
                              exact ⟨⟨HRH.out, fun k hk => Nat.le_trans HW1.out (HRHO.out k hk)⟩, ⟨HRC.out, fun k hk => Nat.le_trans HW1.out (HRCO.out k hk)⟩, ⟨hrr, HUO.out⟩⟩
                            · have hj2 : j < i := by omega
                              rw [getD_old _ _ _ (by omega : j < xa.length), getD_old _ _ _ (by omega : j < xb.length), getD_old _ _ _ (by omega : j < xc.length)]
                              obtain ⟨r1, r2, r3⟩ := HRO.out j hj2
                              exact ⟨⟨HMV.out _ _ (HMS.out _ _ r1), r1.2⟩, ⟨HMV.out _ _ (HMS.out _ _ r2), r2.2⟩, ⟨HMV.out _ _ (HMS.out _ _ r3), r3.2⟩⟩)
                          clear hsz hrr
                          go_wp2_with fail
                          go_roundw
                          case rel => exact ⟨i + 1, _, _, _, by omega, by go_num, HLB.out, HF.out, HG.out⟩
                          case measure => simp [intOf]; omega
                        exact AllTill.nil
                      exact AllTill.nil
                    exact AllTill.nil
                  exact AllTill.nil
                exact AllTill.nil
              exact AllTill.nil
            exact AllTill.nil
          refine AllTill.cons (i := 20) (rs := []) (by rfl) (fun K hK => ?_) ?_
          · go_simp
            have hbx := Bx.new HLB.out (.slice ua un uc) hsz.symm
            have ht7 : Touch [] wk (wk.alloc (.cells #[.slice ua un uc] 22)) := (Touch.refl [] wk).alloc _
            have HMV := Lib.hid (fun v xs h => (HMV.out v xs h).same ht7)
            have HLB := Lib.hid (HLB.out.same ht7)
            have HBU := Lib.hid hbx
            clear hbx ht7 hsz
            obtain ⟨wk, hwk⟩ : ∃ w', wk.alloc (.cells #[.slice ua un uc] 22) = w' := ⟨_, rfl⟩
            rw [hwk] at  HBU HMV HLB ⊢
            clear hwk
            have HT := Lib.hid HLB.out.t
            obtain ⟨nk, hsz⟩ : ∃ n, wk.heap.size = n := ⟨_, rfl⟩
            refine hK.out _ _ trivial (fun _ => HT.out) ?_
            clear hK K
            refine wpTill.ready (rs := [6]) (by kernel_rfl) (by simp) ?_
            refine AllTill.cons (i := 6) (rs := []) (by rfl) (fun K hK => ?_) ?_
            · go_simp
              go_at_call 19
              refine (HCH.out _ HT.out).mono ?_
              rintro e wk ⟨v9, rfl, hq, ht7⟩
              clear hsz
              obtain ⟨ha, hn, hc, rfl⟩ : ∃ a n c, v9 = Value.slice a n c := (by obtain ⟨a, c, e, _⟩ := hq.shape; exact ⟨a, _, c, e⟩)
              have HBU := Lib.hid (HBU.out.same ht7)
              have HMV := Lib.hid (fun v xs h => (HMV.out v xs h).same ht7)
              have HRH := Lib.hid (Rw3.new HLB.out ht7 hq)
              have HRHO := Lib.hid (fun k hk => Nat.le_trans HT.out.size (hq.own k hk).1)
              have HLB := Lib.hid (HLB.out.same ht7)
              have HT := Lib.hid HLB.out.t
              clear hq ht7
              obtain ⟨nk, hsz⟩ : ∃ n, wk.heap.size = n := ⟨_, rfl⟩
              simp only [Act.put, List.setIfInBounds_toArray, List.set_cons_zero, List.set_cons_succ]
              refine hK.out _ _ trivial (fun _ => HT.out) ?_
              clear hK K
              refine wpTill.ready (rs := [7]) (by kernel_rfl) (by simp) ?_
              refine AllTill.cons (i := 7) (rs := []) (by rfl) (fun K hK => ?_) ?_
              · go_simp
                have hbx := Bx.new HLB.out (.slice ha hn hc) hsz.symm
                have ht7 : Touch [] wk (wk.alloc (.cells #[.slice ha hn hc] 22)) := (Touch.refl [] wk).alloc _
                have HRH := Lib.hid (HRH.out.same ht7)
                have HBU := Lib.hid (HBU.out.same ht7)
                have HMV := Lib.hid (fun v xs h => (HMV.out v xs h).same ht7)
                have HLB := Lib.hid (HLB.out.same ht7)
                have HBH := Lib.hid hbx
                clear hbx ht7 hsz
                obtain ⟨wk, hwk⟩ : ∃ w', wk.alloc (.cells #[.slice ha hn hc] 22) = w' := ⟨_, rfl⟩
                rw [hwk] at HRH HBU HBH HMV HLB ⊢
                clear hwk
                have HT := Lib.hid HLB.out.t
                obtain ⟨nk, hsz⟩ : ∃ n, wk.heap.size = n := ⟨_, rfl⟩
                refine hK.out _ _ trivial (fun _ => HT.out) ?_
                clear hK K
                refine wpTill.ready (rs := [8]) (by kernel_rfl) (by simp) ?_
                refine AllTill.cons (i := 8) (rs := []) (by rfl) (fun K hK => ?_) ?_
                · obtain ⟨v9, wk, hr, hB, hR, hX⟩ := HLB.out.appA HBH.out rfl (by have := HLEN.out; omega) 1
                  obtain ⟨qa, qn, qc, rfl⟩ : ∃ a n c, v9 = Value.slice a n c := (by obtain ⟨a, c, e, _⟩ := hB.a.shape; exact ⟨a, _, c, e⟩)
                  refine step_append_run rfl _ _ _ _ rfl _ _ rfl rfl _ _ (hr _) ?_
                  clear hsz
                  have HMV := Lib.hid (fun v xs h => hR v xs (HMV.out v xs h))
                  have HRH := Lib.hid (hR _ _ HRH.out)
                  have HBU := Lib.hid (hX _ _ HBU.out)
                  have HLB := Lib.hid hB
                  have HT := Lib.hid hB.t
                  obtain ⟨nk, hsz⟩ : ∃ n, wk.heap.size = n := ⟨_, rfl⟩
                  clear hr hB hR hX
                  simp only [Act.put, List.setIfInBounds_toArray, List.set_cons_zero, List.set_cons_succ]
                  refine hK.out _ _ trivial (fun _ => HT.out) ?_
                  clear hK K
                  refine wpTill.ready (rs := [15]) (by kernel_rfl) (by simp) ?_
                  refine AllTill.cons (i := 15) (rs := []) (by rfl) (fun K hK => ?_) ?_
                  · go_simp
                    go_at_call 20
                    refine (HCC.out _ HT.out).mono ?_
                    rintro e wk ⟨v9, rfl, hq, ht7⟩
                    clear hsz
                    obtain ⟨ja, jn, jc, rfl⟩ : ∃ a n c, v9 = Value.slice a n c := (by obtain ⟨a, c, e, _⟩ := hq.shape; exact ⟨a, _, c, e⟩)
                    have HRH := Lib.hid (HRH.out.same ht7)
                    have HBU := Lib.hid (HBU.out.same ht7)
                    have HMV := Lib.hid (fun v xs h => (HMV.out v xs h).same ht7)
                    have HRC := Lib.hid (Rw3.new HLB.out ht7 hq)
                    have HRCO := Lib.hid (fun k hk => Nat.le_trans HT.out.size (hq.own k hk).1)
                    have HLB := Lib.hid (HLB.out.same ht7)
                    have HT := Lib.hid HLB.out.t
                    clear hq ht7
                    obtain ⟨nk, hsz⟩ : ∃ n, wk.heap.size = n := ⟨_, rfl⟩
                    simp only [Act.put, List.setIfInBounds_toArray, List.set_cons_zero, List.set_cons_succ]
                    refine hK.out _ _ trivial (fun _ => HT.out) ?_
                    clear hK K
                    refine wpTill.ready (rs := [16]) (by kernel_rfl) (by simp) ?_
                    refine AllTill.cons (i := 16) (rs := []) (by rfl) (fun K hK => ?_) ?_
                    · go_simp
                      have hbx := Bx.new HLB.out (.slice ja jn jc) hsz.symm
                      have ht7 : Touch [] wk (wk.alloc (.cells #[.slice ja jn jc] 22)) := (Touch.refl [] wk).alloc _
                      have HRH := Lib.hid (HRH.out.same ht7)
                      have HRC := Lib.hid (HRC.out.same ht7)
                      have HBU := Lib.hid (HBU.out.same ht7)
                      have HMV := Lib.hid (fun v xs h => (HMV.out v xs h).same ht7)
                      have HLB := Lib.hid (HLB.out.same ht7)
                      have HBC := Lib.hid hbx
                      clear hbx ht7 hsz
                      obtain ⟨wk, hwk⟩ : ∃ w', wk.alloc (.cells #[.slice ja jn jc] 22) = w' := ⟨_, rfl⟩
                      rw [hwk] at HRH HRC HBU HBC HMV HLB ⊢
                      clear hwk
                      have HT := Lib.hid HLB.out.t
                      obtain ⟨nk, hsz⟩ : ∃ n, wk.heap.size = n := ⟨_, rfl⟩
                      refine hK.out _ _ trivial (fun _ => HT.out) ?_
                      clear hK K
                      refine wpTill.ready (rs := [17]) (by kernel_rfl) (by simp) ?_
                      refine AllTill.cons (i := 17) (rs := []) (by rfl) (fun K hK => ?_) ?_
                      · obtain ⟨v9, wk, hr, hB, hR, hX⟩ := HLB.out.appB HBC.out rfl (by have := HLEN.out; omega) 1
                        obtain ⟨sa, sn, sc, rfl⟩ : ∃ a n c, v9 = Value.slice a n c := (by obtain ⟨a, c, e, _⟩ := hB.b.shape; exact ⟨a, _, c, e⟩)
                        refine step_append_run rfl _ _ _ _ rfl _ _ rfl rfl _ _ (hr _) ?_
                        clear hsz
                        have HMV := Lib.hid (fun v xs h => hR v xs (HMV.out v xs h))
                        have HRH := Lib.hid (hR _ _ HRH.out)
                        have HRC := Lib.hid (hR _ _ HRC.out)
                        have HBU := Lib.hid (hX _ _ HBU.out)
                        have HLB := Lib.hid hB
                        have HT := Lib.hid hB.t
                        obtain ⟨nk, hsz⟩ : ∃ n, wk.heap.size = n := ⟨_, rfl⟩
                        clear hr hB hR hX
                        simp only [Act.put, List.setIfInBounds_toArray, List.set_cons_zero, List.set_cons_succ]
                        refine hK.out _ _ trivial (fun _ => HT.out) ?_
                        clear hK K
                        refine wpTill.ready (rs := [21]) (by kernel_rfl) (by simp) ?_
                        refine AllTill.cons (i := 21) (rs := []) (by rfl) (fun K hK => ?_) ?_
                        · obtain ⟨v9, wk, hr, hB, hR, hX⟩ := HLB.out.appC HBU.out rfl (by have := HLEN.out; omega) 1
                          obtain ⟨ta, tn, tc, rfl⟩ : ∃ a n c, v9 = Value.slice a n c := (by obtain ⟨a, c, e, _⟩ := hB.c.shape; exact ⟨a, _, c, e⟩)
                          refine step_append_run rfl _ _ _ _ rfl _ _ rfl rfl _ _ (hr _) ?_
                          clear hsz
                          have HMV := Lib.hid (fun v xs h => hR v xs (HMV.out v xs h))
                          have HRH := Lib.hid (hR _ _ HRH.out)
                          have HRC := Lib.hid (hR _ _ HRC.out)
                          have HLB := Lib.hid hB
                          have HT := Lib.hid hB.t
                          obtain ⟨nk, hsz⟩ : ∃ n, wk.heap.size = n := ⟨_, rfl⟩
                          clear hr hB hR hX
                          simp only [Act.put, List.setIfInBounds_toArray, List.set_cons_zero, List.set_cons_succ]
                          refine hK.out _ _ trivial (fun _ => HT.out) ?_
                          clear hK K
                          refine wpTill.takeT (i := 22) (v := ?v33) (some 7) rfl rfl (by kernel_rfl) (fun _ _ _ h => h) (Or.inl ⟨by rfl, ?hy33⟩) ⟨trivial, HT.out⟩ ?rest33
                          case hy33 => (intro w hSw; have q1 := HX.out w hSw; go_simp; try with_reducible rfl)
                          simp only [Act.put, List.setIfInBounds_toArray, List.set_cons_zero, List.set_cons_succ]
                          refine wpTill.takeT (i := 23) (v := ?v34) (some 8) rfl rfl (by kernel_rfl) (fun _ _ _ h => h) (Or.inl ⟨by rfl, ?hy34⟩) ⟨trivial, HT.out⟩ ?rest34
                          case hy34 => (intro w hSw; have q1 := HX.out w hSw; go_simp; try with_reducible rfl)
                          simp only [Act.put, List.setIfInBounds_toArray, List.set_cons_zero, List.set_cons_succ]
                          refine wpTill.takeT (i := 24) (v := ?v35) (some 9) rfl rfl (by kernel_rfl) (fun _ _ _ h => h) (Or.inl ⟨by rfl, ?hy35⟩) ⟨trivial, HT.out⟩ ?rest35
                          case hy35 => (intro w hSw; have q1 := HX.out w hSw; go_simp; try with_reducible rfl)
                          simp only [Act.put, List.setIfInBounds_toArray, List.set_cons_zero, List.set_cons_succ]
                          refine wpTill.done (by kernel_rfl) ?_ _
                          have hrr := HMV.out _ _ HUF.out.1
                          have HF : Hid ((xa ++ [Value.slice ha hn hc]).length = i + 1 ∧ (xb ++ [Value.slice ja jn jc]).length = i + 1 ∧ (xc ++ [Value.slice ua un uc]).length = i + 1) := Lib.hid (by have := HLEN.out; simp; omega)
                          have HG : Hid (∀ j, j < i + 1 → Rwb w1.heap.size wk (.slice qa qn qc) (.slice sa sn sc) (.slice ta tn tc) ((xa ++ [Value.slice ha hn hc]).getD j (.slice none 0 0)) (mA.held (mA.ps.getD j 0)) ∧ Rwb w1.heap.size wk (.slice qa qn qc) (.slice sa sn sc) (.slice ta tn tc) ((xb ++ [Value.slice ja jn jc]).getD j (.slice none 0 0)) (mA.claim (mA.ps.getD j 0)) ∧ Rwb w1.heap.size wk (.slice qa qn qc) (.slice sa sn sc) (.slice ta tn tc) ((xc ++ [Value.slice ua un uc]).getD j (.slice none 0 0)) (askOf mA.zero mA.pend (mA.ps.getD j 0))) := Lib.hid (fun j hj => by
                            have l1 := HLEN.out
                            by_cases e : j = i
                            · subst e
                              rw [getD_snoc _ _ _ l1.1, getD_snoc _ _ _ l1.2.1, getD_snoc _ _ _ l1.2.2, HZ.out]
                              exact ⟨⟨HRH.out, fun k hk => Nat.le_trans HW1.out (HRHO.out k hk)⟩, ⟨HRC.out, fun k hk => Nat.le_trans HW1.out (HRCO.out k hk)⟩, ⟨hrr, HUO.out⟩⟩
                            · have hj2 : j < i := by omega
                              rw [getD_old _ _ _ (by omega : j < xa.length), getD_old _ _ _ (by omega : j < xb.length), getD_old _ _ _ (by omega : j < xc.length)]
                              obtain ⟨r1, r2, r3⟩ := HRO.out j hj2
                              exact ⟨⟨HMV.out _ _ (HMS.out _ _ r1), r1.2⟩, ⟨HMV.out _ _ (HMS.out _ _ r2), r2.2⟩, ⟨HMV.out _ _ (HMS.out _ _ r3), r3.2⟩⟩)
                          clear hsz hrr
                          go_wp2_with fail
                          go_roundw
                          case rel => exact ⟨i + 1, _, _, _, by omega, by go_num, HLB.out, HF.out, HG.out⟩
                          case measure => simp [intOf]; omega
                        exact AllTill.nil
                      exact AllTill.nil
                    exact AllTill.nil
                  exact AllTill.nil
                exact AllTill.nil
              exact AllTill.nil
            exact AllTill.nil
          exact AllTill.nil
    · have hlt : ¬ (i : Int) < (L : Int) := by omega
      have hiL : i = L := by omega
      have HF : Hid (HdP w FA FB a b mA mB r (.returned (.tuple #[.slice ga gn gc, .slice gb gm gd, .slice gf go ge])) wr) := Lib.hid (by
        have hrl : ∀ j, j < mA.ps.length → j < i := fun j hj => by rw [hiL, ← HL.out]; exact hj
        refine ⟨_, _, _, FA1, rfl, HTW.out.same h3.t, HF2.out.trans (Fr.same h3.t HTW.out.A.lt), kr_of h3 HW1.out HFB.out (by rw [hlen.1, hiL]; simp [Am.hs, HL.out]) (fun j hj => ?_), kr_of h3.rot HW1.out HFB.out (by rw [hlen.2.1, hiL]; simp [Am.cs, HL.out]) (fun j hj => ?_), kr_of h3.rot.rot HW1.out HFB.out (by rw [hlen.2.2, hiL]; simp [Am.asks, HL.out]) (fun j hj => ?_)⟩
        · have hj : j < mA.ps.length := by simpa [Am.hs] using hj
          rw [show rw_ mA.hs j = mA.held (mA.ps.getD j 0) from by simp [rw_, Am.hs, hj]]
          exact (hrows j (hrl j hj)).1
        · have hj : j < mA.ps.length := by simpa [Am.cs] using hj
          rw [show rw_ mA.cs j = mA.claim (mA.ps.getD j 0) from by simp [rw_, Am.cs, hj]]
          exact (hrows j (hrl j hj)).2.1.rot
        · have hj : j < mA.ps.length := by simpa [Am.asks] using hj
          rw [show rw_ mA.asks j = askOf mA.zero mA.pend (mA.ps.getD j 0) from by simp [rw_, Am.asks, hj]]
          exact (hrows j (hrl j hj)).2.2.rot.rot)
      clear h3 hlen hrows
      go_wp2_with fail
      go_ret3
      exact HF.out
end Go.Proofs.YticglfmmjgnicaaGreat
