/-
  A process comes in: the reference.
-/
import Derived.Deep.Cut
import Derived.Deep.CutBlock
import Derived.Test.YticglfmmjgnicaaGreatYEI
set_option linter.unusedVariables false
set_option linter.unusedSimpArgs false
namespace Go.Proofs.YticglfmmjgnicaaGreat
open Go Go.RowKit

theorem qu_zero (n : Nat) (hn : n ≤ 6) (w : World) {nb : Nat} (hb : nb = w.heap.size) : Qu (w.alloc (.cells (rowA (fun _ => 0) n) 3)) w.heap.size 3 (.slice (some ⟨nb, 0, none⟩) n n) ((List.replicate n (0 : Int)).map (Value.int .i64)) := by
  subst hb
  exact .inr ⟨_, 0, n, _, by simp, Nat.le_refl _, Blk.new rfl, by simp, by unfold maxLen; omega, by simp [rowA_size], fun i hi => by
    have hi : i < n := by simpa using hi
    rw [Nat.zero_add, rowA_get _ _ _ hi]
    simp [hi]⟩
def RAd (w : World) (F : List Nat) (b : Nat) (R : Rec) (x : Int) (e : Ending) (w' : World) : Prop := e = .returned (.int .i64 x) ∧ Up w F b R w'
def AdmP (w : World) (F : List Nat) (b : Nat) (R : Rec) (q : Int) (u : List Int) (e : Ending) (w' : World) : Prop :=
      if q < 1 ∨ isB u R.tot.length = false then RAd w F b R 1 e w' else if q ∈ R.ps then RAd w F b R 4 e w' else if 32 ≤ R.ps.length then RAd w F b R 1 e w' else if R.clm = true ∧ fitsB u R.tot = false then RAd w F b R 35 e w' else
        ∃ k, k ≤ R.ps.length ∧ (∀ j, j < k → R.ps.getD j 0 < q) ∧ (k < R.ps.length → ¬ R.ps.getD k 0 < q) ∧ RAd w F b { R with ps := R.ps.take k ++ [q] ++ R.ps.drop k, hs := R.hs.take k ++ [List.replicate R.tot.length 0] ++ R.hs.drop k, cs := R.cs.take k ++ [u] ++ R.cs.drop k } 0 e w'
set_option maxRecDepth 100000 in
set_option maxHeartbeats 40000000 in
theorem radmit_any (w : World) (F : List Nat) (b : Nat) (R : Rec) (r : RaV) (q : Int) (v : Value) (u : List Int) (h : Ra w F b R r) (hqi : InI q) (hu : Sl w v u) (hul : u.length ≤ 1000) (hv : u ≠ [] → ∀ k, v.ownBlock = some k → k ∉ F) (ht6 : R.tot.length ≤ 6) (hps : R.ps.length ≤ 32) (hhl : R.hs.length = R.ps.length) (hcl : R.cs.length = R.ps.length) :
    Calls Tryz.prog 44 #[.pointer (some ⟨b, 0, none⟩), .int .i64 q, v] w (AdmP w F b R q u) := by
  have HRA := Lib.hid h
  have HRA0 := Lib.hid h
  have HU := Lib.hid hu
  have HV := Lib.hid hv
  have HB := Lib.hid (And.intro ht6 (And.intro hps (And.intro hhl hcl)))
  obtain ⟨ta, tc, htv⟩ := h.tot.1.form
  obtain ⟨n, hn⟩ : ∃ n, R.tot.length = n := ⟨_, rfl⟩
  have HN := Lib.hid hn
  have HX0 : Hid (∀ w', Touch [] w w' → w'.cell? ⟨b, 0, none⟩ = some (.slice ta n tc)) := Lib.hid (fun w' ht => by rw [← hn, ← htv]; exact (h.obj.touch ht (by simp)).cell (i := 0) rfl)
  have HTS : Hid (Sl w (.slice ta n tc) R.tot) := Lib.hid (by rw [← hn, ← htv]; exact h.tot.1)
  have c0 := HX0.out w (Touch.refl _ _)
  obtain ⟨ua, uc, huf⟩ := hu.form
  subst huf
  obtain ⟨N, hNu⟩ : ∃ N, u.length = N := ⟨_, rfl⟩
  have HNU := Lib.hid hNu
  obtain ⟨B, hB⟩ : ∃ B, isB u (R.tot.length : Int) = B := ⟨_, rfl⟩
  have HBB := Lib.hid hB
  have HIS := Lib.hid (ris_q _ u (R.tot.length : Int) B w hu (by omega) hB)
  rw [hNu, hn] at HIS
  rw [hNu] at HU HV
  rw [hNu]
  have HAT := Lib.hid (rat_any w F b R r q h (by omega))
  obtain ⟨L, hL⟩ : ∃ L, R.ps.length = L := ⟨_, rfl⟩
  have HL := Lib.hid hL
  obtain ⟨pa, pc, hpv⟩ : ∃ a c, r.pv = .slice a L c := by obtain ⟨a, c, e⟩ := h.ps.im.1.form; exact ⟨a, c, by rw [← hL]; exact e⟩
  have HPV := Lib.hid hpv
  have c3 : w.cell? ⟨b, 3, none⟩ = some (.slice pa L pc) := by rw [← hpv]; exact h.obj.cell (i := 3) rfl
  have hne := hul
  clear h hu hv hn hNu hB htv hpv hul
  obtain ⟨P, hP⟩ : ∃ P, decide (q < 1) = P := ⟨_, rfl⟩
  have HPP := Lib.hid hP
  clear hP
  go_enter Tryz.func44, Tryz.ntmps44
  cases P with
  | true =>
    have hlt : q < 1 := by simpa using HPP.out
    have HF : Hid (AdmP w F b R q u (.returned (.int .i64 1)) w) := Lib.hid (by
      unfold AdmP
      rw [if_pos (.inl hlt)]
      exact ⟨rfl, Up.same HRA.out (Touch.refl _ _)⟩)
    go_wp2_with fail
    go_ret
    exact HF.out
  | false =>
    have hlt : ¬ q < 1 := by simpa using HPP.out
    go_wp2_with fail
    refine HIS.out.mono ?_
    rintro e w1 ⟨rfl, rfl⟩
    cases B with
    | false =>
      have HF : Hid (AdmP w F b R q u (.returned (.int .i64 1)) w) := Lib.hid (by
        unfold AdmP
        rw [if_pos (.inr HBB.out)]
        exact ⟨rfl, Up.same HRA.out (Touch.refl _ _)⟩)
      go_wp2_with fail
      go_ret
      exact HF.out
    | true =>
      have hn1 : ¬ (q < 1 ∨ isB u R.tot.length = false) := by rw [HBB.out]; rintro (h | h); omega; cases h
      have HN1 := Lib.hid hn1
      clear hn1
      go_wp2_with fail
      refine HAT.out.mono ?_
      rintro e w1 ⟨k0, rfl, hk0, rfl⟩
      rcases hk0 with ⟨rfl, hnin⟩ | ⟨k, rfl, _, hk2, _⟩
      · have HNI := Lib.hid hnin
        clear hnin
        by_cases hM : 32 ≤ L
        · have hge : (32 : Int) ≤ (L : Int) := by omega
          have HF : Hid (AdmP w F b R q u (.returned (.int .i64 1)) w) := Lib.hid (by
            unfold AdmP
            rw [if_neg HN1.out, if_neg HNI.out, if_pos (by rw [HL.out]; exact hM)]
            exact ⟨rfl, Up.same HRA.out (Touch.refl _ _)⟩)
          go_wp2_with fail
          go_ret
          exact HF.out
        · have hge : ¬ (32 : Int) ≤ (L : Int) := by omega
          have HMM := Lib.hid hM
          have c2 : w.cell? ⟨b, 2, none⟩ = some (.bool R.clm) := HRA.out.obj.cell (i := 2) rfl
          obtain ⟨C, hC⟩ : ∃ C, fitsB u R.tot = C := ⟨_, rfl⟩
          have HC := Lib.hid hC
          have HFQ := Lib.hid (rfits_q (.slice ua N uc) (.slice ta n tc) u R.tot C w HU.out HTS.out (by have := HNU.out; omega) (by have := HN.out; have := HB.out; omega) hC)
          obtain ⟨cl, hcl⟩ : ∃ cl, R.clm = cl := ⟨_, rfl⟩
          have HCL := Lib.hid hcl
          rw [hcl] at c2
          clear hM hC hcl
          go_upto_region 7 with fail
          go_cut [42] from 8 (fun v42 wx => v42 = .bool (cl && !C) ∧ Touch [] w wx)
          case first =>
            cases cl with
            | true =>
              go_wp2_with fail
              refine HFQ.out.mono ?_
              rintro e w3 ⟨rfl, t3⟩
              have HT3 := Lib.hid t3
              clear t3 c2 c0 c3
              cases C <;>
              · go_wp2_with fail
                go_meet
                case rel => exact ⟨rfl, HT3.out⟩
            | false =>
              go_wp2_with fail
              go_meet
              case rel => exact ⟨by cases C <;> rfl, Touch.refl _ _⟩
          case rest =>
            obtain ⟨rfl, hcw⟩ := hcut
            obtain ⟨W, hW⟩ : ∃ W, wc = W := ⟨_, rfl⟩
            rw [hW] at hcw ⊢
            have HCW := Lib.hid hcw
            clear hW
            obtain ⟨D, hD⟩ : ∃ D, (cl && !C) = D := ⟨_, rfl⟩
            have HD := Lib.hid hD
            rw [hD]
            clear hcw c2 c0 c3 hD
            cases D with
            | true =>
              have HF : Hid (AdmP w F b R q u (.returned (.int .i64 35)) W) := Lib.hid (by
                unfold AdmP
                rw [if_neg HN1.out, if_neg HNI.out, if_neg (by rw [HL.out]; exact HMM.out), if_pos (by have := HD.out; rw [HCL.out, HC.out]; cases cl <;> cases C <;> simp_all)]
                exact ⟨rfl, Up.same HRA.out HCW.out⟩)
              go_wp2_with fail
              go_ret
              exact HF.out
            | false =>
              have HNC : Hid (¬ (R.clm = true ∧ fitsB u R.tot = false)) := Lib.hid (by have := HD.out; rw [HCL.out, HC.out]; cases cl <;> cases C <;> simp_all)
              have HRW := Lib.hid (HRA.out.same HCW.out)
              have c3 : W.cell? ⟨b, 3, none⟩ = some (.slice pa L pc) := by rw [← HPV.out]; exact HRW.out.obj.cell (i := 3) rfl
              have HPS : Hid (Sl W (.slice pa L pc) R.ps) := Lib.hid (by rw [← HPV.out]; exact HRW.out.ps.im.1)
              go_upto_block 0 with fail
              go_cut [7] from 8 (fun v7 wx => wx = W ∧ ∃ k : Nat, v7 = .int .i64 (k : Int) ∧ k ≤ L ∧ (∀ j, j < k → R.ps.getD j 0 < q) ∧ (k < L → ¬ R.ps.getD k 0 < q))
              case first =>
                go_wp2_with fail
                go_loop [7] (fun iv => ∃ k : Nat, k ≤ L ∧ iv = .int .i64 (k : Int) ∧ ∀ j, j < k → R.ps.getD j 0 < q) (fun iv => L + 1 - (intOf iv).toNat)
                case atStart => exact ⟨0, by omega, rfl, fun j hj => by omega⟩
                case round =>
                  obtain ⟨k, hk, rfl, hlo⟩ := hrel
                  have HLO := Lib.hid hlo
                  clear hlo
                  by_cases hkn : k < L
                  · have hltk : (k : Int) < (L : Int) := by omega
                    obtain ⟨g, off, hg, xo⟩ := HPS.out.ix (q := k) (by rw [HL.out]; exact hkn)
                    cases hg
                    have x1 := xo _ (Touch.refl _ _)
                    obtain ⟨y, hy⟩ : ∃ y, R.ps.getD k 0 = y := ⟨_, rfl⟩
                    have HY := Lib.hid hy
                    rw [hy] at x1
                    clear xo hy
                    by_cases hyq : y < q
                    · have HYQ := Lib.hid hyq
                      go_wp2
                      go_round
                      case rel =>
                        refine ⟨k + 1, by omega, by go_num, fun j hj => ?_⟩
                        by_cases e : j = k
                        · subst e; rw [HY.out]; exact HYQ.out
                        · exact HLO.out j (by omega)
                      case measure => simp [intOf]; omega
                    · have HYQ := Lib.hid hyq
                      go_wp2
                      go_meet
                      case rel => exact ⟨rfl, k, rfl, hk, HLO.out, fun _ => by rw [HY.out]; exact HYQ.out⟩
                  · have hltk : ¬ (k : Int) < (L : Int) := by omega
                    go_wp2
                    go_meet
                    case rel => exact ⟨rfl, k, rfl, hk, HLO.out, fun h => absurd h hkn⟩
              case rest =>
                obtain ⟨hwW, k, rfl, hk, hlo, hhi⟩ := hcut
                rw [hwW]
                clear hwW
                clear c3
                have HLO := Lib.hid (And.intro hlo hhi)
                have HKL := Lib.hid hk
                clear hlo hhi
                -- the processes
                obtain ⟨⟨basep, hqp⟩, _⟩ := HRW.out.ps
                rw [HPV.out] at hqp
                obtain ⟨e1, e2, sa, sn, sc, e3, e4⟩ := parts_I hqp (k := k) (by rw [HL.out]; exact hk)
                have HSR := Lib.hid e4
                have HKB : Hid (k ≤ R.ps.length ∧ R.ps.length ≤ 31) := Lib.hid ⟨by rw [HL.out]; exact hk, by have := HMM.out; have := HL.out; omega⟩
                have HCP : Hid (∀ w', Touch [] W w' → Calls Tryz.prog 43 #[.slice pa k pc] w' (Own (R.ps.take k) w')) := Lib.hid (fun w' ht => copy_any _ _ w' (e2 w' ht) (by rw [List.length_take]; have := HKB.out; omega))
                have HX : Hid (∀ w', Touch [] W w' → w'.cell? ⟨b, 3, none⟩ = some (.slice pa L pc) ∧ w'.frozen? ⟨b, 3, none⟩ = false) := Lib.hid (fun w' ht => ⟨by rw [← HPV.out]; exact (HRW.out.obj.touch ht (by simp)).cell (i := 3) rfl, (HRW.out.obj.touch ht (by simp)).free 3⟩)
                have HRA := Lib.hid HRW.out
                have HLB := Lib.hid (Lb.start 3 ((Touch.refl [] W).drew))
                have HT := Lib.hid HLB.out.t
                clear hqp e2 e4
                go_upto_region 12 with fail
                go_cut [] from 8 (fun wx => Up W F b { R with ps := R.ps.take k ++ [q] ++ R.ps.drop k } wx)
                case first =>
                  refine wp_region_till (fun _ => True) (fun w' => Touch [] W w') [20] (by kernel_rfl) ?_
                  obtain ⟨wk, hwk⟩ : ∃ w', World.drew W = w' := ⟨_, rfl⟩
                  rw [hwk] at HLB HT ⊢
                  clear hwk
                  obtain ⟨nk, hsz⟩ : ∃ n, wk.heap.size = n := ⟨_, rfl⟩
                  refine wpTill.takeT (i := 0) (v := ?v1) (some 63) rfl rfl (by kernel_rfl) (fun _ _ _ h => h) (Or.inl ⟨by rfl, ?hy1⟩) ⟨trivial, HT.out⟩ ?rest1
                  case hy1 => (intro w hSw; obtain ⟨q1, q2⟩ := HX.out w hSw; go_simp; try with_reducible rfl)
                  simp only [Act.put, List.setIfInBounds_toArray, List.set_cons_zero, List.set_cons_succ]
                  refine wpTill.takeT (i := 1) (v := ?v2) (some 64) rfl rfl (by kernel_rfl) (fun _ _ _ h => h) (Or.inl ⟨by rfl, ?hy2⟩) ⟨trivial, HT.out⟩ ?rest2
                  case hy2 => (intro w hSw; obtain ⟨q1, q2⟩ := HX.out w hSw; go_simp; try with_reducible rfl)
                  simp only [Act.put, List.setIfInBounds_toArray, List.set_cons_zero, List.set_cons_succ]
                  refine wpTill.takeT (i := 2) (v := ?v3) (some 65) rfl rfl (by kernel_rfl) (fun _ _ _ h => h) (Or.inl ⟨by rfl, ?hy3⟩) ⟨trivial, HT.out⟩ ?rest3
                  case hy3 => (intro w hSw; obtain ⟨q1, q2⟩ := HX.out w hSw; go_simp; try with_reducible rfl)
                  simp only [Act.put, List.setIfInBounds_toArray, List.set_cons_zero, List.set_cons_succ]
                  refine wpTill.takeT (i := 3) (v := ?v4) (some 66) rfl rfl (by kernel_rfl) (fun _ _ _ h => h) (Or.inl ⟨by rfl, ?hy4⟩) ⟨trivial, HT.out⟩ ?rest4
                  case hy4 => (intro w hSw; obtain ⟨q1, q2⟩ := HX.out w hSw; go_simp; try with_reducible rfl)
                  simp only [Act.put, List.setIfInBounds_toArray, List.set_cons_zero, List.set_cons_succ]
                  refine wpTill.takeT (i := 4) (v := ?v5) (some 67) rfl rfl (by kernel_rfl) (fun _ _ _ h => h) (Or.inl ⟨by rfl, ?hy5⟩) ⟨trivial, HT.out⟩ ?rest5
                  case hy5 => (intro w hSw; obtain ⟨q1, q2⟩ := HX.out w hSw; go_simp; try with_reducible rfl)
                  simp only [Act.put, List.setIfInBounds_toArray, List.set_cons_zero, List.set_cons_succ]
                  refine wpTill.takeT (i := 5) (v := ?v6) (some 68) rfl rfl (by kernel_rfl) (fun _ _ _ h => h) (Or.inl ⟨by rfl, ?hy6⟩) ⟨trivial, HT.out⟩ ?rest6
                  case hy6 => (intro w hSw; obtain ⟨q1, q2⟩ := HX.out w hSw; go_simp; try with_reducible rfl)
                  simp only [Act.put, List.setIfInBounds_toArray, List.set_cons_zero, List.set_cons_succ]
                  refine wpTill.takeT (i := 6) (v := ?v7) (some 69) rfl rfl (by kernel_rfl) (fun _ _ _ h => h) (Or.inl ⟨by rfl, ?hy7⟩) ⟨trivial, HT.out⟩ ?rest7
                  case hy7 => (intro w hSw; obtain ⟨q1, q2⟩ := HX.out w hSw; go_simp; try with_reducible rfl)
                  simp only [Act.put, List.setIfInBounds_toArray, List.set_cons_zero, List.set_cons_succ]
                  refine wpTill.takeT (i := 8) (v := ?v8) (some 71) rfl rfl (by kernel_rfl) (fun _ _ _ h => h) (Or.inl ⟨by rfl, ?hy8⟩) ⟨trivial, HT.out⟩ ?rest8
                  case hy8 => (intro w hSw; obtain ⟨q1, q2⟩ := HX.out w hSw; go_simp; try with_reducible rfl)
                  simp only [Act.put, List.setIfInBounds_toArray, List.set_cons_zero, List.set_cons_succ]
                  refine wpTill.takeT (i := 11) (v := ?v9) (some 74) rfl rfl (by kernel_rfl) (fun _ _ _ h => h) (Or.inl ⟨by rfl, ?hy9⟩) ⟨trivial, HT.out⟩ ?rest9
                  case hy9 => (intro w hSw; obtain ⟨q1, q2⟩ := HX.out w hSw; go_simp; try with_reducible rfl)
                  simp only [Act.put, List.setIfInBounds_toArray, List.set_cons_zero, List.set_cons_succ]
                  refine wpTill.takeT (i := 12) (v := ?v10) (some 75) rfl rfl (by kernel_rfl) (fun _ _ _ h => h) (Or.inl ⟨by rfl, ?hy10⟩) ⟨trivial, HT.out⟩ ?rest10
                  case hy10 => (intro w hSw; obtain ⟨q1, q2⟩ := HX.out w hSw; go_simp; try with_reducible rfl)
                  simp only [Act.put, List.setIfInBounds_toArray, List.set_cons_zero, List.set_cons_succ]
                  refine wpTill.takeT (i := 13) (v := ?v11) (some 76) rfl rfl (by kernel_rfl) (fun _ _ _ h => h) (Or.inl ⟨by rfl, ?hy11⟩) ⟨trivial, HT.out⟩ ?rest11
                  case hy11 => (intro w hSw; obtain ⟨q1, q2⟩ := HX.out w hSw; go_simp; try with_reducible rfl)
                  simp only [Act.put, List.setIfInBounds_toArray, List.set_cons_zero, List.set_cons_succ]
                  refine wpTill.takeT (i := 14) (v := ?v12) (some 77) rfl rfl (by kernel_rfl) (fun _ _ _ h => h) (Or.inl ⟨by rfl, ?hy12⟩) ⟨trivial, HT.out⟩ ?rest12
                  case hy12 => (intro w hSw; obtain ⟨q1, q2⟩ := HX.out w hSw; go_simp; try with_reducible rfl)
                  simp only [Act.put, List.setIfInBounds_toArray, List.set_cons_zero, List.set_cons_succ]
                  refine wpTill.takeT (i := 15) (v := ?v13) (some 78) rfl rfl (by kernel_rfl) (fun _ _ _ h => h) (Or.inl ⟨by rfl, ?hy13⟩) ⟨trivial, HT.out⟩ ?rest13
                  case hy13 => (intro w hSw; obtain ⟨q1, q2⟩ := HX.out w hSw; go_simp; try with_reducible rfl)
                  simp only [Act.put, List.setIfInBounds_toArray, List.set_cons_zero, List.set_cons_succ]
                  refine wpTill.takeT (i := 16) (v := ?v14) (some 79) rfl rfl (by kernel_rfl) (fun _ _ _ h => h) (Or.inl ⟨by rfl, ?hy14⟩) ⟨trivial, HT.out⟩ ?rest14
                  case hy14 => (intro w hSw; obtain ⟨q1, q2⟩ := HX.out w hSw; go_simp; try with_reducible rfl)
                  simp only [Act.put, List.setIfInBounds_toArray, List.set_cons_zero, List.set_cons_succ]
                  refine wpTill.ready (rs := [7, 9]) (by kernel_rfl) (by simp) ?_
                  refine AllTill.cons (i := 7) (rs := [9]) (by rfl) (fun K hK => ?_) ?_
                  · go_simp
                    go_at_call 43
                    refine (HCP.out _ HT.out).mono ?_
                    rintro e wk ⟨v7, rfl, hq7, ht7⟩
                    clear hsz
                    obtain ⟨ca, cn, cc, rfl⟩ : ∃ a n c, v7 = Value.slice a n c := (by obtain ⟨a, c, e, _⟩ := hq7.shape; exact ⟨a, _, c, e⟩)
                    have HLB := Lib.hid (HLB.out.take ht7 hq7)
                    have HT := Lib.hid HLB.out.t
                    clear hq7 ht7
                    obtain ⟨nk, hsz⟩ : ∃ n, wk.heap.size = n := ⟨_, rfl⟩
                    simp only [Act.put, List.setIfInBounds_toArray, List.set_cons_zero, List.set_cons_succ]
                    refine hK.out _ _ trivial (fun _ => HT.out) ?_
                    clear hK K
                    refine wpTill.ready (rs := [9]) (by kernel_rfl) (by simp) ?_
                    refine AllTill.cons (i := 9) (rs := []) (by rfl) (fun K hK => ?_) ?_
                    · go_simp
                      have HLB := Lib.hid (HLB.out.box (.int .i64 q) hsz.symm)
                      have HT := Lib.hid HLB.out.t
                      clear hsz
                      obtain ⟨wk, hwk⟩ : ∃ w', wk.alloc (.cells #[.int .i64 q] 3) = w' := ⟨_, rfl⟩
                      rw [hwk] at HLB HT ⊢
                      clear hwk
                      obtain ⟨nk, hsz⟩ : ∃ n, wk.heap.size = n := ⟨_, rfl⟩
                      refine hK.out _ _ trivial (fun _ => HT.out) ?_
                      clear hK K
                      refine wpTill.ready (rs := [10]) (by kernel_rfl) (by simp) ?_
                      refine AllTill.cons (i := 10) (rs := []) (by rfl) (fun K hK => ?_) ?_
                      · obtain ⟨va, wk, hr, hB⟩ := HLB.out.appIB 1 rfl (by have := HKB.out; simp; omega)
                        obtain ⟨xa, xn, xc, rfl⟩ : ∃ a n c, va = Value.slice a n c := (by obtain ⟨a, c, e, _⟩ := hB.a.shape; exact ⟨a, _, c, e⟩)
                        refine step_append_run rfl _ _ _ _ rfl _ _ rfl rfl _ _ (hr _) ?_
                        clear hsz
                        have HLB := Lib.hid hB
                        have HT := Lib.hid hB.t
                        obtain ⟨nk, hsz⟩ : ∃ n, wk.heap.size = n := ⟨_, rfl⟩
                        clear hr hB
                        simp only [Act.put, List.setIfInBounds_toArray, List.set_cons_zero, List.set_cons_succ]
                        refine hK.out _ _ trivial (fun _ => HT.out) ?_
                        clear hK K
                        refine wpTill.ready (rs := [17]) (by kernel_rfl) (by simp) ?_
                        refine AllTill.cons (i := 17) (rs := []) (by rfl) (fun K hK => ?_) ?_
                        · obtain ⟨va, wk, hr, hB⟩ := HLB.out.appI _ _ (HSR.out _ HT.out) (by have := HKB.out; simp; omega)
                          obtain ⟨xa, xn, xc, rfl⟩ : ∃ a n c, va = Value.slice a n c := (by obtain ⟨a, c, e, _⟩ := hB.a.shape; exact ⟨a, _, c, e⟩)
                          refine step_append_run rfl _ _ _ _ rfl _ _ rfl rfl _ _ (hr _) ?_
                          clear hsz
                          have HLB := Lib.hid hB
                          have HT := Lib.hid hB.t
                          obtain ⟨nk, hsz⟩ : ∃ n, wk.heap.size = n := ⟨_, rfl⟩
                          clear hr hB
                          simp only [Act.put, List.setIfInBounds_toArray, List.set_cons_zero, List.set_cons_succ]
                          refine hK.out _ _ trivial (fun _ => HT.out) ?_
                          clear hK K
                          refine wpTill.takeT (i := 18) (v := ?v15) (some 81) rfl rfl (by kernel_rfl) (fun _ _ _ h => h) (Or.inl ⟨by rfl, ?hy15⟩) ⟨trivial, HT.out⟩ ?rest15
                          case hy15 => (intro w hSw; obtain ⟨q1, q2⟩ := HX.out w hSw; go_simp; try with_reducible rfl)
                          simp only [Act.put, List.setIfInBounds_toArray, List.set_cons_zero, List.set_cons_succ]
                          refine wpTill.takeT (i := 19) (v := ?v16) (some 82) rfl rfl (by kernel_rfl) (fun _ _ _ h => h) (Or.inl ⟨by rfl, ?hy16⟩) ⟨trivial, HT.out⟩ ?rest16
                          case hy16 => (intro w hSw; obtain ⟨q1, q2⟩ := HX.out w hSw; go_simp; try with_reducible rfl)
                          simp only [Act.put, List.setIfInBounds_toArray, List.set_cons_zero, List.set_cons_succ]
                          refine wpTill.ready (rs := [20]) (by kernel_rfl) (by simp) ?_
                          refine AllTill.cons (i := 20) (rs := []) (by rfl) (fun K hK => ?_) ?_
                          · obtain ⟨q1, q2⟩ := HX.out _ HT.out
                            go_simp
                            refine hK.out _ _ trivial (fun h => absurd h (by decide +kernel)) ?_
                            clear hK K
                            refine wpTill.done (by kernel_rfl) ?_ _
                            go_wp2_with fail
                            go_meet
                            case rel => exact Up.ps HRA.out HT.out (by rw [List.map_append, List.map_append]; exact HLB.out.a)
                          exact AllTill.nil
                        exact AllTill.nil
                      exact AllTill.nil
                    exact AllTill.nil
                  refine AllTill.cons (i := 9) (rs := []) (by rfl) (fun K hK => ?_) ?_
                  · go_simp
                    have HLB := Lib.hid (HLB.out.box (.int .i64 q) hsz.symm)
                    have HT := Lib.hid HLB.out.t
                    clear hsz
                    obtain ⟨wk, hwk⟩ : ∃ w', wk.alloc (.cells #[.int .i64 q] 3) = w' := ⟨_, rfl⟩
                    rw [hwk] at HLB HT ⊢
                    clear hwk
                    obtain ⟨nk, hsz⟩ : ∃ n, wk.heap.size = n := ⟨_, rfl⟩
                    refine hK.out _ _ trivial (fun _ => HT.out) ?_
                    clear hK K
                    refine wpTill.ready (rs := [7]) (by kernel_rfl) (by simp) ?_
                    refine AllTill.cons (i := 7) (rs := []) (by rfl) (fun K hK => ?_) ?_
                    · go_simp
                      go_at_call 43
                      refine (HCP.out _ HT.out).mono ?_
                      rintro e wk ⟨v7, rfl, hq7, ht7⟩
                      clear hsz
                      obtain ⟨ca, cn, cc, rfl⟩ : ∃ a n c, v7 = Value.slice a n c := (by obtain ⟨a, c, e, _⟩ := hq7.shape; exact ⟨a, _, c, e⟩)
                      have HLB := Lib.hid (HLB.out.take ht7 hq7)
                      have HT := Lib.hid HLB.out.t
                      clear hq7 ht7
                      obtain ⟨nk, hsz⟩ : ∃ n, wk.heap.size = n := ⟨_, rfl⟩
                      simp only [Act.put, List.setIfInBounds_toArray, List.set_cons_zero, List.set_cons_succ]
                      refine hK.out _ _ trivial (fun _ => HT.out) ?_
                      clear hK K
                      refine wpTill.ready (rs := [10]) (by kernel_rfl) (by simp) ?_
                      refine AllTill.cons (i := 10) (rs := []) (by rfl) (fun K hK => ?_) ?_
                      · obtain ⟨va, wk, hr, hB⟩ := HLB.out.appIB 1 rfl (by have := HKB.out; simp; omega)
                        obtain ⟨xa, xn, xc, rfl⟩ : ∃ a n c, va = Value.slice a n c := (by obtain ⟨a, c, e, _⟩ := hB.a.shape; exact ⟨a, _, c, e⟩)
                        refine step_append_run rfl _ _ _ _ rfl _ _ rfl rfl _ _ (hr _) ?_
                        clear hsz
                        have HLB := Lib.hid hB
                        have HT := Lib.hid hB.t
                        obtain ⟨nk, hsz⟩ : ∃ n, wk.heap.size = n := ⟨_, rfl⟩
                        clear hr hB
                        simp only [Act.put, List.setIfInBounds_toArray, List.set_cons_zero, List.set_cons_succ]
                        refine hK.out _ _ trivial (fun _ => HT.out) ?_
                        clear hK K
                        refine wpTill.ready (rs := [17]) (by kernel_rfl) (by simp) ?_
                        refine AllTill.cons (i := 17) (rs := []) (by rfl) (fun K hK => ?_) ?_
                        · obtain ⟨va, wk, hr, hB⟩ := HLB.out.appI _ _ (HSR.out _ HT.out) (by have := HKB.out; simp; omega)
                          obtain ⟨xa, xn, xc, rfl⟩ : ∃ a n c, va = Value.slice a n c := (by obtain ⟨a, c, e, _⟩ := hB.a.shape; exact ⟨a, _, c, e⟩)
                          refine step_append_run rfl _ _ _ _ rfl _ _ rfl rfl _ _ (hr _) ?_
                          clear hsz
                          have HLB := Lib.hid hB
                          have HT := Lib.hid hB.t
                          obtain ⟨nk, hsz⟩ : ∃ n, wk.heap.size = n := ⟨_, rfl⟩
                          clear hr hB
                          simp only [Act.put, List.setIfInBounds_toArray, List.set_cons_zero, List.set_cons_succ]
                          refine hK.out _ _ trivial (fun _ => HT.out) ?_
                          clear hK K
                          refine wpTill.takeT (i := 18) (v := ?v17) (some 81) rfl rfl (by kernel_rfl) (fun _ _ _ h => h) (Or.inl ⟨by rfl, ?hy17⟩) ⟨trivial, HT.out⟩ ?rest17
                          case hy17 => (intro w hSw; obtain ⟨q1, q2⟩ := HX.out w hSw; go_simp; try with_reducible rfl)
                          simp only [Act.put, List.setIfInBounds_toArray, List.set_cons_zero, List.set_cons_succ]
                          refine wpTill.takeT (i := 19) (v := ?v18) (some 82) rfl rfl (by kernel_rfl) (fun _ _ _ h => h) (Or.inl ⟨by rfl, ?hy18⟩) ⟨trivial, HT.out⟩ ?rest18
                          case hy18 => (intro w hSw; obtain ⟨q1, q2⟩ := HX.out w hSw; go_simp; try with_reducible rfl)
                          simp only [Act.put, List.setIfInBounds_toArray, List.set_cons_zero, List.set_cons_succ]
                          refine wpTill.ready (rs := [20]) (by kernel_rfl) (by simp) ?_
                          refine AllTill.cons (i := 20) (rs := []) (by rfl) (fun K hK => ?_) ?_
                          · obtain ⟨q1, q2⟩ := HX.out _ HT.out
                            go_simp
                            refine hK.out _ _ trivial (fun h => absurd h (by decide +kernel)) ?_
                            clear hK K
                            refine wpTill.done (by kernel_rfl) ?_ _
                            go_wp2_with fail
                            go_meet
                            case rel => exact Up.ps HRA.out HT.out (by rw [List.map_append, List.map_append]; exact HLB.out.a)
                          exact AllTill.nil
                        exact AllTill.nil
                      exact AllTill.nil
                    exact AllTill.nil
                  exact AllTill.nil
                case rest =>
                  clear e1 e3 HSR HKB HCP HX HLB HT
                  obtain ⟨F1, r1, hf1, hr1⟩ := hcut
                  have HF1 := Lib.hid hf1
                  have HRA := Lib.hid hr1
                  obtain ⟨W1, hW1⟩ : ∃ W1, wc = W1 := ⟨_, rfl⟩
                  rw [hW1] at HF1 HRA ⊢
                  clear hf1 hr1 hW1
                  -- what they hold
                  obtain ⟨vs, hvl, ⟨baseh, hqh⟩, hvr, hones⟩ := HRA.out.hs.vals
                  have HVR : Hid (∀ i, i < R.hs.length → Im W1 F1 [b] (vs.getD i (.slice none 0 0)) (rw_ R.hs i)) := Lib.hid hvr
                  obtain ⟨ha, hn', hc, hhv⟩ : ∃ a n c, r1.hv = .slice a n c := by obtain ⟨a, c, e, _⟩ := hqh.shape; exact ⟨a, _, c, e⟩
                  rw [hhv] at hqh
                  have HKB : Hid (k ≤ R.hs.length ∧ vs.length = R.hs.length ∧ R.hs.length ≤ 31) := Lib.hid ⟨by have := HB.out; have := HL.out; have := HKL.out; omega, hvl, by have := HB.out; have := HL.out; have := HMM.out; omega⟩
                  obtain ⟨e1, e2, sa, sn, sc, e3, e4⟩ := parts_R hqh hones (k := k) (by have := HKB.out; omega)
                  have HSP := Lib.hid e2
                  have HSR := Lib.hid e4
                  obtain ⟨ta1, tc1, htv1⟩ := HRA.out.tot.1.form
                  have htv1 : r1.tv = .slice ta1 n tc1 := by rw [← HN.out]; exact htv1
                  have HX : Hid (∀ w', Touch [] W1 w' → w'.cell? ⟨b, 0, none⟩ = some (.slice ta1 n tc1) ∧ w'.cell? ⟨b, 4, none⟩ = some (.slice ha hn' hc) ∧ w'.frozen? ⟨b, 4, none⟩ = false) := Lib.hid (fun w' ht => ⟨by rw [← htv1]; exact (HRA.out.obj.touch ht (by simp)).cell (i := 0) rfl, by rw [← hhv]; exact (HRA.out.obj.touch ht (by simp)).cell (i := 4) rfl, (HRA.out.obj.touch ht (by simp)).free 4⟩)
                  have HN6 : Hid (n ≤ 6) := Lib.hid (by have := HB.out; have := HN.out; omega)
                  have hmk := fun w => run_mk_of (P := Tryz.prog) 22 3 Tryz.underlying22 (by kernel_rfl) n (by have := HN6.out; omega) w
                  have HLB := Lib.hid (Lb.start 22 ((Touch.refl [] W1).drew))
                  have HT := Lib.hid HLB.out.t
                  clear hvl hqh hvr hones hhv htv1 e2 e4
                  go_upto_region 13 with fail
                  go_cut [] from 8 (fun wx => Up W1 F1 b { R with ps := R.ps.take k ++ [q] ++ R.ps.drop k, hs := R.hs.take k ++ [List.replicate n 0] ++ R.hs.drop k } wx)
                  case first =>
                    refine wp_region_till (fun _ => True) (fun w' => Touch [] W1 w') [26] (by kernel_rfl) ?_
                    obtain ⟨wk, hwk⟩ : ∃ w', World.drew W1 = w' := ⟨_, rfl⟩
                    rw [hwk] at HLB HT ⊢
                    clear hwk
                    obtain ⟨nk, hsz⟩ : ∃ n, wk.heap.size = n := ⟨_, rfl⟩
                    refine wpTill.takeT (i := 0) (v := ?v1001) (some 83) rfl rfl (by kernel_rfl) (fun _ _ _ h => h) (Or.inl ⟨by rfl, ?hy1001⟩) ⟨trivial, HT.out⟩ ?rest1001
                    case hy1001 => (intro w hSw; obtain ⟨q1, q2, q3⟩ := HX.out w hSw; go_simp; try with_reducible rfl)
                    simp only [Act.put, List.setIfInBounds_toArray, List.set_cons_zero, List.set_cons_succ]
                    refine wpTill.takeT (i := 2) (v := ?v1002) (some 85) rfl rfl (by kernel_rfl) (fun _ _ _ h => h) (Or.inl ⟨by rfl, ?hy1002⟩) ⟨trivial, HT.out⟩ ?rest1002
                    case hy1002 => (intro w hSw; obtain ⟨q1, q2, q3⟩ := HX.out w hSw; go_simp; try with_reducible rfl)
                    simp only [Act.put, List.setIfInBounds_toArray, List.set_cons_zero, List.set_cons_succ]
                    refine wpTill.takeT (i := 3) (v := ?v1003) (some 86) rfl rfl (by kernel_rfl) (fun _ _ _ h => h) (Or.inl ⟨by rfl, ?hy1003⟩) ⟨trivial, HT.out⟩ ?rest1003
                    case hy1003 => (intro w hSw; obtain ⟨q1, q2, q3⟩ := HX.out w hSw; go_simp; try with_reducible rfl)
                    simp only [Act.put, List.setIfInBounds_toArray, List.set_cons_zero, List.set_cons_succ]
                    refine wpTill.takeT (i := 4) (v := ?v1004) (some 87) rfl rfl (by kernel_rfl) (fun _ _ _ h => h) (Or.inl ⟨by rfl, ?hy1004⟩) ⟨trivial, HT.out⟩ ?rest1004
                    case hy1004 => (intro w hSw; obtain ⟨q1, q2, q3⟩ := HX.out w hSw; go_simp; try with_reducible rfl)
                    simp only [Act.put, List.setIfInBounds_toArray, List.set_cons_zero, List.set_cons_succ]
                    refine wpTill.takeT (i := 5) (v := ?v1005) (some 88) rfl rfl (by kernel_rfl) (fun _ _ _ h => h) (Or.inl ⟨by rfl, ?hy1005⟩) ⟨trivial, HT.out⟩ ?rest1005
                    case hy1005 => (intro w hSw; obtain ⟨q1, q2, q3⟩ := HX.out w hSw; go_simp; try with_reducible rfl)
                    simp only [Act.put, List.setIfInBounds_toArray, List.set_cons_zero, List.set_cons_succ]
                    refine wpTill.takeT (i := 6) (v := ?v1006) (some 89) rfl rfl (by kernel_rfl) (fun _ _ _ h => h) (Or.inl ⟨by rfl, ?hy1006⟩) ⟨trivial, HT.out⟩ ?rest1006
                    case hy1006 => (intro w hSw; obtain ⟨q1, q2, q3⟩ := HX.out w hSw; go_simp; try with_reducible rfl)
                    simp only [Act.put, List.setIfInBounds_toArray, List.set_cons_zero, List.set_cons_succ]
                    refine wpTill.takeT (i := 7) (v := ?v1007) (some 90) rfl rfl (by kernel_rfl) (fun _ _ _ h => h) (Or.inl ⟨by rfl, ?hy1007⟩) ⟨trivial, HT.out⟩ ?rest1007
                    case hy1007 => (intro w hSw; obtain ⟨q1, q2, q3⟩ := HX.out w hSw; go_simp; try with_reducible rfl)
                    simp only [Act.put, List.setIfInBounds_toArray, List.set_cons_zero, List.set_cons_succ]
                    refine wpTill.takeT (i := 9) (v := ?v1008) (some 92) rfl rfl (by kernel_rfl) (fun _ _ _ h => h) (Or.inl ⟨by rfl, ?hy1008⟩) ⟨trivial, HT.out⟩ ?rest1008
                    case hy1008 => (intro w hSw; obtain ⟨q1, q2, q3⟩ := HX.out w hSw; go_simp; try with_reducible rfl)
                    simp only [Act.put, List.setIfInBounds_toArray, List.set_cons_zero, List.set_cons_succ]
                    refine wpTill.takeT (i := 10) (v := ?v1009) (some 93) rfl rfl (by kernel_rfl) (fun _ _ _ h => h) (Or.inl ⟨by rfl, ?hy1009⟩) ⟨trivial, HT.out⟩ ?rest1009
                    case hy1009 => (intro w hSw; obtain ⟨q1, q2, q3⟩ := HX.out w hSw; go_simp; try with_reducible rfl)
                    simp only [Act.put, List.setIfInBounds_toArray, List.set_cons_zero, List.set_cons_succ]
                    refine wpTill.takeT (i := 11) (v := ?v1010) (some 94) rfl rfl (by kernel_rfl) (fun _ _ _ h => h) (Or.inl ⟨by rfl, ?hy1010⟩) ⟨trivial, HT.out⟩ ?rest1010
                    case hy1010 => (intro w hSw; obtain ⟨q1, q2, q3⟩ := HX.out w hSw; go_simp; try with_reducible rfl)
                    simp only [Act.put, List.setIfInBounds_toArray, List.set_cons_zero, List.set_cons_succ]
                    refine wpTill.takeT (i := 12) (v := ?v1011) (some 95) rfl rfl (by kernel_rfl) (fun _ _ _ h => h) (Or.inl ⟨by rfl, ?hy1011⟩) ⟨trivial, HT.out⟩ ?rest1011
                    case hy1011 => (intro w hSw; obtain ⟨q1, q2, q3⟩ := HX.out w hSw; go_simp; try with_reducible rfl)
                    simp only [Act.put, List.setIfInBounds_toArray, List.set_cons_zero, List.set_cons_succ]
                    refine wpTill.takeT (i := 13) (v := ?v1012) (some 96) rfl rfl (by kernel_rfl) (fun _ _ _ h => h) (Or.inl ⟨by rfl, ?hy1012⟩) ⟨trivial, HT.out⟩ ?rest1012
                    case hy1012 => (intro w hSw; obtain ⟨q1, q2, q3⟩ := HX.out w hSw; go_simp; try with_reducible rfl)
                    simp only [Act.put, List.setIfInBounds_toArray, List.set_cons_zero, List.set_cons_succ]
                    refine wpTill.takeT (i := 17) (v := ?v1013) (some 100) rfl rfl (by kernel_rfl) (fun _ _ _ h => h) (Or.inl ⟨by rfl, ?hy1013⟩) ⟨trivial, HT.out⟩ ?rest1013
                    case hy1013 => (intro w hSw; obtain ⟨q1, q2, q3⟩ := HX.out w hSw; go_simp; try with_reducible rfl)
                    simp only [Act.put, List.setIfInBounds_toArray, List.set_cons_zero, List.set_cons_succ]
                    refine wpTill.takeT (i := 18) (v := ?v1014) (some 101) rfl rfl (by kernel_rfl) (fun _ _ _ h => h) (Or.inl ⟨by rfl, ?hy1014⟩) ⟨trivial, HT.out⟩ ?rest1014
                    case hy1014 => (intro w hSw; obtain ⟨q1, q2, q3⟩ := HX.out w hSw; go_simp; try with_reducible rfl)
                    simp only [Act.put, List.setIfInBounds_toArray, List.set_cons_zero, List.set_cons_succ]
                    refine wpTill.takeT (i := 19) (v := ?v1015) (some 102) rfl rfl (by kernel_rfl) (fun _ _ _ h => h) (Or.inl ⟨by rfl, ?hy1015⟩) ⟨trivial, HT.out⟩ ?rest1015
                    case hy1015 => (intro w hSw; obtain ⟨q1, q2, q3⟩ := HX.out w hSw; go_simp; try with_reducible rfl)
                    simp only [Act.put, List.setIfInBounds_toArray, List.set_cons_zero, List.set_cons_succ]
                    refine wpTill.takeT (i := 20) (v := ?v1016) (some 103) rfl rfl (by kernel_rfl) (fun _ _ _ h => h) (Or.inl ⟨by rfl, ?hy1016⟩) ⟨trivial, HT.out⟩ ?rest1016
                    case hy1016 => (intro w hSw; obtain ⟨q1, q2, q3⟩ := HX.out w hSw; go_simp; try with_reducible rfl)
                    simp only [Act.put, List.setIfInBounds_toArray, List.set_cons_zero, List.set_cons_succ]
                    refine wpTill.takeT (i := 21) (v := ?v1017) (some 104) rfl rfl (by kernel_rfl) (fun _ _ _ h => h) (Or.inl ⟨by rfl, ?hy1017⟩) ⟨trivial, HT.out⟩ ?rest1017
                    case hy1017 => (intro w hSw; obtain ⟨q1, q2, q3⟩ := HX.out w hSw; go_simp; try with_reducible rfl)
                    simp only [Act.put, List.setIfInBounds_toArray, List.set_cons_zero, List.set_cons_succ]
                    refine wpTill.takeT (i := 22) (v := ?v1018) (some 105) rfl rfl (by kernel_rfl) (fun _ _ _ h => h) (Or.inl ⟨by rfl, ?hy1018⟩) ⟨trivial, HT.out⟩ ?rest1018
                    case hy1018 => (intro w hSw; obtain ⟨q1, q2, q3⟩ := HX.out w hSw; go_simp; try with_reducible rfl)
                    simp only [Act.put, List.setIfInBounds_toArray, List.set_cons_zero, List.set_cons_succ]
                    refine wpTill.ready (rs := [1, 14]) (by kernel_rfl) (by simp) ?_
                    refine AllTill.cons (i := 1) (rs := [14]) (by rfl) (fun K hK => ?_) ?_
                    · go_simp
                      have HLB := Lib.hid (HLB.out.empty hsz.symm)
                      have HT := Lib.hid HLB.out.t
                      clear hsz
                      obtain ⟨wk, hwk⟩ : ∃ w', wk.alloc (.cells #[] 22) = w' := ⟨_, rfl⟩
                      rw [hwk] at HLB HT ⊢
                      clear hwk
                      obtain ⟨nk, hsz⟩ : ∃ n, wk.heap.size = n := ⟨_, rfl⟩
                      refine hK.out _ _ trivial (fun _ => HT.out) ?_
                      clear hK K
                      refine wpTill.ready (rs := [8, 14]) (by kernel_rfl) (by simp) ?_
                      refine AllTill.cons (i := 8) (rs := [14]) (by rfl) (fun K hK => ?_) ?_
                      · obtain ⟨va, wk, hr, hB⟩ := HLB.out.appR _ _ (HSP.out _ HT.out) (by have := HKB.out; simp; omega)
                        obtain ⟨xa, xn, xc, rfl⟩ : ∃ a n c, va = Value.slice a n c := (by obtain ⟨a, c, e, _⟩ := hB.a.shape; exact ⟨a, _, c, e⟩)
                        refine step_append_run rfl _ _ _ _ rfl _ _ rfl rfl _ _ (hr _) ?_
                        clear hsz
                        have HLB := Lib.hid hB
                        have HT := Lib.hid hB.t
                        obtain ⟨nk, hsz⟩ : ∃ n, wk.heap.size = n := ⟨_, rfl⟩
                        clear hr hB
                        simp only [Act.put, List.setIfInBounds_toArray, List.set_cons_zero, List.set_cons_succ]
                        refine hK.out _ _ trivial (fun _ => HT.out) ?_
                        clear hK K
                        refine wpTill.ready (rs := [14]) (by kernel_rfl) (by simp) ?_
                        refine AllTill.cons (i := 14) (rs := []) (by rfl) (fun K hK => ?_) ?_
                        · go_simp
                          obtain ⟨rv, hrv⟩ : ∃ v, Value.slice (some ⟨nk, 0, none⟩) n n = v := ⟨_, rfl⟩
                          have HLB := Lib.hid (HLB.out.datum ((Touch.refl [] wk).alloc _) (qu_zero n HN6.out wk hsz.symm))
                          rw [hrv] at HLB ⊢
                          obtain ⟨ra, rn, rc, rfl⟩ : ∃ a n c, rv = Value.slice a n c := ⟨_, _, _, hrv.symm⟩
                          clear hrv
                          have HT := Lib.hid HLB.out.t
                          clear hsz
                          obtain ⟨wk, hwk⟩ : ∃ w', wk.alloc (.cells (rowA (fun _ => 0) n) 3) = w' := ⟨_, rfl⟩
                          rw [hwk] at HLB HT ⊢
                          clear hwk
                          obtain ⟨nk, hsz⟩ : ∃ n, wk.heap.size = n := ⟨_, rfl⟩
                          refine hK.out _ _ trivial (fun _ => HT.out) ?_
                          clear hK K
                          refine wpTill.ready (rs := [15]) (by kernel_rfl) (by simp) ?_
                          refine AllTill.cons (i := 15) (rs := []) (by rfl) (fun K hK => ?_) ?_
                          · go_simp
                            have HLB := Lib.hid (HLB.out.box (.slice ra rn rc) hsz.symm)
                            have HT := Lib.hid HLB.out.t
                            clear hsz
                            obtain ⟨wk, hwk⟩ : ∃ w', wk.alloc (.cells #[.slice ra rn rc] 22) = w' := ⟨_, rfl⟩
                            rw [hwk] at HLB HT ⊢
                            clear hwk
                            obtain ⟨nk, hsz⟩ : ∃ n, wk.heap.size = n := ⟨_, rfl⟩
                            refine hK.out _ _ trivial (fun _ => HT.out) ?_
                            clear hK K
                            refine wpTill.ready (rs := [16]) (by kernel_rfl) (by simp) ?_
                            refine AllTill.cons (i := 16) (rs := []) (by rfl) (fun K hK => ?_) ?_
                            · obtain ⟨va, wk, hr, hB⟩ := HLB.out.appRB 1 rfl (by have := HKB.out; simp; omega)
                              obtain ⟨xa, xn, xc, rfl⟩ : ∃ a n c, va = Value.slice a n c := (by obtain ⟨a, c, e, _⟩ := hB.a.shape; exact ⟨a, _, c, e⟩)
                              refine step_append_run rfl _ _ _ _ rfl _ _ rfl rfl _ _ (hr _) ?_
                              clear hsz
                              have HLB := Lib.hid hB
                              have HT := Lib.hid hB.t
                              obtain ⟨nk, hsz⟩ : ∃ n, wk.heap.size = n := ⟨_, rfl⟩
                              clear hr hB
                              simp only [Act.put, List.setIfInBounds_toArray, List.set_cons_zero, List.set_cons_succ]
                              refine hK.out _ _ trivial (fun _ => HT.out) ?_
                              clear hK K
                              refine wpTill.ready (rs := [23]) (by kernel_rfl) (by simp) ?_
                              refine AllTill.cons (i := 23) (rs := []) (by rfl) (fun K hK => ?_) ?_
                              · obtain ⟨va, wk, hr, hB⟩ := HLB.out.appR _ _ (HSR.out _ HT.out) (by have := HKB.out; simp; omega)
                                obtain ⟨xa, xn, xc, rfl⟩ : ∃ a n c, va = Value.slice a n c := (by obtain ⟨a, c, e, _⟩ := hB.a.shape; exact ⟨a, _, c, e⟩)
                                refine step_append_run rfl _ _ _ _ rfl _ _ rfl rfl _ _ (hr _) ?_
                                clear hsz
                                have HLB := Lib.hid hB
                                have HT := Lib.hid hB.t
                                obtain ⟨nk, hsz⟩ : ∃ n, wk.heap.size = n := ⟨_, rfl⟩
                                clear hr hB
                                simp only [Act.put, List.setIfInBounds_toArray, List.set_cons_zero, List.set_cons_succ]
                                refine hK.out _ _ trivial (fun _ => HT.out) ?_
                                clear hK K
                                refine wpTill.takeT (i := 24) (v := ?v1019) (some 107) rfl rfl (by kernel_rfl) (fun _ _ _ h => h) (Or.inl ⟨by rfl, ?hy1019⟩) ⟨trivial, HT.out⟩ ?rest1019
                                case hy1019 => (intro w hSw; obtain ⟨q1, q2, q3⟩ := HX.out w hSw; go_simp; try with_reducible rfl)
                                simp only [Act.put, List.setIfInBounds_toArray, List.set_cons_zero, List.set_cons_succ]
                                refine wpTill.takeT (i := 25) (v := ?v1020) (some 108) rfl rfl (by kernel_rfl) (fun _ _ _ h => h) (Or.inl ⟨by rfl, ?hy1020⟩) ⟨trivial, HT.out⟩ ?rest1020
                                case hy1020 => (intro w hSw; obtain ⟨q1, q2, q3⟩ := HX.out w hSw; go_simp; try with_reducible rfl)
                                simp only [Act.put, List.setIfInBounds_toArray, List.set_cons_zero, List.set_cons_succ]
                                refine wpTill.ready (rs := [26]) (by kernel_rfl) (by simp) ?_
                                refine AllTill.cons (i := 26) (rs := []) (by rfl) (fun K hK => ?_) ?_
                                · obtain ⟨q1, q2, q3⟩ := HX.out _ HT.out
                                  go_simp
                                  refine hK.out _ _ trivial (fun h => absurd h (by decide +kernel)) ?_
                                  clear hK K
                                  refine wpTill.done (by kernel_rfl) ?_ _
                                  have hcr : Im wk (grow F1 W1 wk) [b] (.slice ra rn rc) (List.replicate n 0) := Im.new HRA.out.lt HRA.out.bF (HLB.out.r _ _ rfl).1
                                  have hla : Qu wk W1.heap.size 22 (.slice xa xn xc) (vs.take k ++ [.slice ra rn rc] ++ vs.drop k) := by have := HLB.out.a; rwa [List.nil_append] at this
                                  have hro : Imr wk (grow F1 W1 wk) [b] (.slice xa xn xc) (R.hs.take k ++ [List.replicate n 0] ++ R.hs.drop k) := rows_ins HRA.out.lt HRA.out.bF HKB.out.1 HKB.out.2.1 HVR.out HT.out hla hcr
                                  have HUP := Lib.hid (Up.hs HRA.out HT.out hro)
                                  clear hcr hla hro q1 q2 q3
                                  go_wp2_with fail
                                  go_meet
                                  case rel => exact HUP.out
                                exact AllTill.nil
                              exact AllTill.nil
                            exact AllTill.nil
                          exact AllTill.nil
                        exact AllTill.nil
                      refine AllTill.cons (i := 14) (rs := []) (by rfl) (fun K hK => ?_) ?_
                      · go_simp
                        obtain ⟨rv, hrv⟩ : ∃ v, Value.slice (some ⟨nk, 0, none⟩) n n = v := ⟨_, rfl⟩
                        have HLB := Lib.hid (HLB.out.datum ((Touch.refl [] wk).alloc _) (qu_zero n HN6.out wk hsz.symm))
                        rw [hrv] at HLB ⊢
                        obtain ⟨ra, rn, rc, rfl⟩ : ∃ a n c, rv = Value.slice a n c := ⟨_, _, _, hrv.symm⟩
                        clear hrv
                        have HT := Lib.hid HLB.out.t
                        clear hsz
                        obtain ⟨wk, hwk⟩ : ∃ w', wk.alloc (.cells (rowA (fun _ => 0) n) 3) = w' := ⟨_, rfl⟩
                        rw [hwk] at HLB HT ⊢
                        clear hwk
                        obtain ⟨nk, hsz⟩ : ∃ n, wk.heap.size = n := ⟨_, rfl⟩
                        refine hK.out _ _ trivial (fun _ => HT.out) ?_
                        clear hK K
                        refine wpTill.ready (rs := [8, 15]) (by kernel_rfl) (by simp) ?_
                        refine AllTill.cons (i := 8) (rs := [15]) (by rfl) (fun K hK => ?_) ?_
                        · obtain ⟨va, wk, hr, hB⟩ := HLB.out.appR _ _ (HSP.out _ HT.out) (by have := HKB.out; simp; omega)
                          obtain ⟨xa, xn, xc, rfl⟩ : ∃ a n c, va = Value.slice a n c := (by obtain ⟨a, c, e, _⟩ := hB.a.shape; exact ⟨a, _, c, e⟩)
                          refine step_append_run rfl _ _ _ _ rfl _ _ rfl rfl _ _ (hr _) ?_
                          clear hsz
                          have HLB := Lib.hid hB
                          have HT := Lib.hid hB.t
                          obtain ⟨nk, hsz⟩ : ∃ n, wk.heap.size = n := ⟨_, rfl⟩
                          clear hr hB
                          simp only [Act.put, List.setIfInBounds_toArray, List.set_cons_zero, List.set_cons_succ]
                          refine hK.out _ _ trivial (fun _ => HT.out) ?_
                          clear hK K
                          refine wpTill.ready (rs := [15]) (by kernel_rfl) (by simp) ?_
                          refine AllTill.cons (i := 15) (rs := []) (by rfl) (fun K hK => ?_) ?_
                          · go_simp
                            have HLB := Lib.hid (HLB.out.box (.slice ra rn rc) hsz.symm)
                            have HT := Lib.hid HLB.out.t
                            clear hsz
                            obtain ⟨wk, hwk⟩ : ∃ w', wk.alloc (.cells #[.slice ra rn rc] 22) = w' := ⟨_, rfl⟩
                            rw [hwk] at HLB HT ⊢
                            clear hwk
                            obtain ⟨nk, hsz⟩ : ∃ n, wk.heap.size = n := ⟨_, rfl⟩
                            refine hK.out _ _ trivial (fun _ => HT.out) ?_
                            clear hK K
                            refine wpTill.ready (rs := [16]) (by kernel_rfl) (by simp) ?_
                            refine AllTill.cons (i := 16) (rs := []) (by rfl) (fun K hK => ?_) ?_
                            · obtain ⟨va, wk, hr, hB⟩ := HLB.out.appRB 1 rfl (by have := HKB.out; simp; omega)
                              obtain ⟨xa, xn, xc, rfl⟩ : ∃ a n c, va = Value.slice a n c := (by obtain ⟨a, c, e, _⟩ := hB.a.shape; exact ⟨a, _, c, e⟩)
                              refine step_append_run rfl _ _ _ _ rfl _ _ rfl rfl _ _ (hr _) ?_
                              clear hsz
                              have HLB := Lib.hid hB
                              have HT := Lib.hid hB.t
                              obtain ⟨nk, hsz⟩ : ∃ n, wk.heap.size = n := ⟨_, rfl⟩
                              clear hr hB
                              simp only [Act.put, List.setIfInBounds_toArray, List.set_cons_zero, List.set_cons_succ]
                              refine hK.out _ _ trivial (fun _ => HT.out) ?_
                              clear hK K
                              refine wpTill.ready (rs := [23]) (by kernel_rfl) (by simp) ?_
                              refine AllTill.cons (i := 23) (rs := []) (by rfl) (fun K hK => ?_) ?_
                              · obtain ⟨va, wk, hr, hB⟩ := HLB.out.appR _ _ (HSR.out _ HT.out) (by have := HKB.out; simp; omega)
                                obtain ⟨xa, xn, xc, rfl⟩ : ∃ a n c, va = Value.slice a n c := (by obtain ⟨a, c, e, _⟩ := hB.a.shape; exact ⟨a, _, c, e⟩)
                                refine step_append_run rfl _ _ _ _ rfl _ _ rfl rfl _ _ (hr _) ?_
                                clear hsz
                                have HLB := Lib.hid hB
                                have HT := Lib.hid hB.t
                                obtain ⟨nk, hsz⟩ : ∃ n, wk.heap.size = n := ⟨_, rfl⟩
                                clear hr hB
                                simp only [Act.put, List.setIfInBounds_toArray, List.set_cons_zero, List.set_cons_succ]
                                refine hK.out _ _ trivial (fun _ => HT.out) ?_
                                clear hK K
                                refine wpTill.takeT (i := 24) (v := ?v1021) (some 107) rfl rfl (by kernel_rfl) (fun _ _ _ h => h) (Or.inl ⟨by rfl, ?hy1021⟩) ⟨trivial, HT.out⟩ ?rest1021
                                case hy1021 => (intro w hSw; obtain ⟨q1, q2, q3⟩ := HX.out w hSw; go_simp; try with_reducible rfl)
                                simp only [Act.put, List.setIfInBounds_toArray, List.set_cons_zero, List.set_cons_succ]
                                refine wpTill.takeT (i := 25) (v := ?v1022) (some 108) rfl rfl (by kernel_rfl) (fun _ _ _ h => h) (Or.inl ⟨by rfl, ?hy1022⟩) ⟨trivial, HT.out⟩ ?rest1022
                                case hy1022 => (intro w hSw; obtain ⟨q1, q2, q3⟩ := HX.out w hSw; go_simp; try with_reducible rfl)
                                simp only [Act.put, List.setIfInBounds_toArray, List.set_cons_zero, List.set_cons_succ]
                                refine wpTill.ready (rs := [26]) (by kernel_rfl) (by simp) ?_
                                refine AllTill.cons (i := 26) (rs := []) (by rfl) (fun K hK => ?_) ?_
                                · obtain ⟨q1, q2, q3⟩ := HX.out _ HT.out
                                  go_simp
                                  refine hK.out _ _ trivial (fun h => absurd h (by decide +kernel)) ?_
                                  clear hK K
                                  refine wpTill.done (by kernel_rfl) ?_ _
                                  have hcr : Im wk (grow F1 W1 wk) [b] (.slice ra rn rc) (List.replicate n 0) := Im.new HRA.out.lt HRA.out.bF (HLB.out.r _ _ rfl).1
                                  have hla : Qu wk W1.heap.size 22 (.slice xa xn xc) (vs.take k ++ [.slice ra rn rc] ++ vs.drop k) := by have := HLB.out.a; rwa [List.nil_append] at this
                                  have hro : Imr wk (grow F1 W1 wk) [b] (.slice xa xn xc) (R.hs.take k ++ [List.replicate n 0] ++ R.hs.drop k) := rows_ins HRA.out.lt HRA.out.bF HKB.out.1 HKB.out.2.1 HVR.out HT.out hla hcr
                                  have HUP := Lib.hid (Up.hs HRA.out HT.out hro)
                                  clear hcr hla hro q1 q2 q3
                                  go_wp2_with fail
                                  go_meet
                                  case rel => exact HUP.out
                                exact AllTill.nil
                              exact AllTill.nil
                            exact AllTill.nil
                          exact AllTill.nil
                        refine AllTill.cons (i := 15) (rs := []) (by rfl) (fun K hK => ?_) ?_
                        · go_simp
                          have HLB := Lib.hid (HLB.out.box (.slice ra rn rc) hsz.symm)
                          have HT := Lib.hid HLB.out.t
                          clear hsz
                          obtain ⟨wk, hwk⟩ : ∃ w', wk.alloc (.cells #[.slice ra rn rc] 22) = w' := ⟨_, rfl⟩
                          rw [hwk] at HLB HT ⊢
                          clear hwk
                          obtain ⟨nk, hsz⟩ : ∃ n, wk.heap.size = n := ⟨_, rfl⟩
                          refine hK.out _ _ trivial (fun _ => HT.out) ?_
                          clear hK K
                          refine wpTill.ready (rs := [8]) (by kernel_rfl) (by simp) ?_
                          refine AllTill.cons (i := 8) (rs := []) (by rfl) (fun K hK => ?_) ?_
                          · obtain ⟨va, wk, hr, hB⟩ := HLB.out.appR _ _ (HSP.out _ HT.out) (by have := HKB.out; simp; omega)
                            obtain ⟨xa, xn, xc, rfl⟩ : ∃ a n c, va = Value.slice a n c := (by obtain ⟨a, c, e, _⟩ := hB.a.shape; exact ⟨a, _, c, e⟩)
                            refine step_append_run rfl _ _ _ _ rfl _ _ rfl rfl _ _ (hr _) ?_
                            clear hsz
                            have HLB := Lib.hid hB
                            have HT := Lib.hid hB.t
                            obtain ⟨nk, hsz⟩ : ∃ n, wk.heap.size = n := ⟨_, rfl⟩
                            clear hr hB
                            simp only [Act.put, List.setIfInBounds_toArray, List.set_cons_zero, List.set_cons_succ]
                            refine hK.out _ _ trivial (fun _ => HT.out) ?_
                            clear hK K
                            refine wpTill.ready (rs := [16]) (by kernel_rfl) (by simp) ?_
                            refine AllTill.cons (i := 16) (rs := []) (by rfl) (fun K hK => ?_) ?_
                            · obtain ⟨va, wk, hr, hB⟩ := HLB.out.appRB 1 rfl (by have := HKB.out; simp; omega)
                              obtain ⟨xa, xn, xc, rfl⟩ : ∃ a n c, va = Value.slice a n c := (by obtain ⟨a, c, e, _⟩ := hB.a.shape; exact ⟨a, _, c, e⟩)
                              refine step_append_run rfl _ _ _ _ rfl _ _ rfl rfl _ _ (hr _) ?_
                              clear hsz
                              have HLB := Lib.hid hB
                              have HT := Lib.hid hB.t
                              obtain ⟨nk, hsz⟩ : ∃ n, wk.heap.size = n := ⟨_, rfl⟩
                              clear hr hB
                              simp only [Act.put, List.setIfInBounds_toArray, List.set_cons_zero, List.set_cons_succ]
                              refine hK.out _ _ trivial (fun _ => HT.out) ?_
                              clear hK K
                              refine wpTill.ready (rs := [23]) (by kernel_rfl) (by simp) ?_
                              refine AllTill.cons (i := 23) (rs := []) (by rfl) (fun K hK => ?_) ?_
                              · obtain ⟨va, wk, hr, hB⟩ := HLB.out.appR _ _ (HSR.out _ HT.out) (by have := HKB.out; simp; omega)
                                obtain ⟨xa, xn, xc, rfl⟩ : ∃ a n c, va = Value.slice a n c := (by obtain ⟨a, c, e, _⟩ := hB.a.shape; exact ⟨a, _, c, e⟩)
                                refine step_append_run rfl _ _ _ _ rfl _ _ rfl rfl _ _ (hr _) ?_
                                clear hsz
                                have HLB := Lib.hid hB
                                have HT := Lib.hid hB.t
                                obtain ⟨nk, hsz⟩ : ∃ n, wk.heap.size = n := ⟨_, rfl⟩
                                clear hr hB
                                simp only [Act.put, List.setIfInBounds_toArray, List.set_cons_zero, List.set_cons_succ]
                                refine hK.out _ _ trivial (fun _ => HT.out) ?_
                                clear hK K
                                refine wpTill.takeT (i := 24) (v := ?v1023) (some 107) rfl rfl (by kernel_rfl) (fun _ _ _ h => h) (Or.inl ⟨by rfl, ?hy1023⟩) ⟨trivial, HT.out⟩ ?rest1023
                                case hy1023 => (intro w hSw; obtain ⟨q1, q2, q3⟩ := HX.out w hSw; go_simp; try with_reducible rfl)
                                simp only [Act.put, List.setIfInBounds_toArray, List.set_cons_zero, List.set_cons_succ]
                                refine wpTill.takeT (i := 25) (v := ?v1024) (some 108) rfl rfl (by kernel_rfl) (fun _ _ _ h => h) (Or.inl ⟨by rfl, ?hy1024⟩) ⟨trivial, HT.out⟩ ?rest1024
                                case hy1024 => (intro w hSw; obtain ⟨q1, q2, q3⟩ := HX.out w hSw; go_simp; try with_reducible rfl)
                                simp only [Act.put, List.setIfInBounds_toArray, List.set_cons_zero, List.set_cons_succ]
                                refine wpTill.ready (rs := [26]) (by kernel_rfl) (by simp) ?_
                                refine AllTill.cons (i := 26) (rs := []) (by rfl) (fun K hK => ?_) ?_
                                · obtain ⟨q1, q2, q3⟩ := HX.out _ HT.out
                                  go_simp
                                  refine hK.out _ _ trivial (fun h => absurd h (by decide +kernel)) ?_
                                  clear hK K
                                  refine wpTill.done (by kernel_rfl) ?_ _
                                  have hcr : Im wk (grow F1 W1 wk) [b] (.slice ra rn rc) (List.replicate n 0) := Im.new HRA.out.lt HRA.out.bF (HLB.out.r _ _ rfl).1
                                  have hla : Qu wk W1.heap.size 22 (.slice xa xn xc) (vs.take k ++ [.slice ra rn rc] ++ vs.drop k) := by have := HLB.out.a; rwa [List.nil_append] at this
                                  have hro : Imr wk (grow F1 W1 wk) [b] (.slice xa xn xc) (R.hs.take k ++ [List.replicate n 0] ++ R.hs.drop k) := rows_ins HRA.out.lt HRA.out.bF HKB.out.1 HKB.out.2.1 HVR.out HT.out hla hcr
                                  have HUP := Lib.hid (Up.hs HRA.out HT.out hro)
                                  clear hcr hla hro q1 q2 q3
                                  go_wp2_with fail
                                  go_meet
                                  case rel => exact HUP.out
                                exact AllTill.nil
                              exact AllTill.nil
                            exact AllTill.nil
                          exact AllTill.nil
                        exact AllTill.nil
                      exact AllTill.nil
                    refine AllTill.cons (i := 14) (rs := []) (by rfl) (fun K hK => ?_) ?_
                    · go_simp
                      obtain ⟨rv, hrv⟩ : ∃ v, Value.slice (some ⟨nk, 0, none⟩) n n = v := ⟨_, rfl⟩
                      have HLB := Lib.hid (HLB.out.datum ((Touch.refl [] wk).alloc _) (qu_zero n HN6.out wk hsz.symm))
                      rw [hrv] at HLB ⊢
                      obtain ⟨ra, rn, rc, rfl⟩ : ∃ a n c, rv = Value.slice a n c := ⟨_, _, _, hrv.symm⟩
                      clear hrv
                      have HT := Lib.hid HLB.out.t
                      clear hsz
                      obtain ⟨wk, hwk⟩ : ∃ w', wk.alloc (.cells (rowA (fun _ => 0) n) 3) = w' := ⟨_, rfl⟩
                      rw [hwk] at HLB HT ⊢
                      clear hwk
                      obtain ⟨nk, hsz⟩ : ∃ n, wk.heap.size = n := ⟨_, rfl⟩
                      refine hK.out _ _ trivial (fun _ => HT.out) ?_
                      clear hK K
                      refine wpTill.ready (rs := [1, 15]) (by kernel_rfl) (by simp) ?_
                      refine AllTill.cons (i := 1) (rs := [15]) (by rfl) (fun K hK => ?_) ?_
                      · go_simp
                        have HLB := Lib.hid (HLB.out.empty hsz.symm)
                        have HT := Lib.hid HLB.out.t
                        clear hsz
                        obtain ⟨wk, hwk⟩ : ∃ w', wk.alloc (.cells #[] 22) = w' := ⟨_, rfl⟩
                        rw [hwk] at HLB HT ⊢
                        clear hwk
                        obtain ⟨nk, hsz⟩ : ∃ n, wk.heap.size = n := ⟨_, rfl⟩
                        refine hK.out _ _ trivial (fun _ => HT.out) ?_
                        clear hK K
                        refine wpTill.ready (rs := [8, 15]) (by kernel_rfl) (by simp) ?_
                        refine AllTill.cons (i := 8) (rs := [15]) (by rfl) (fun K hK => ?_) ?_
                        · obtain ⟨va, wk, hr, hB⟩ := HLB.out.appR _ _ (HSP.out _ HT.out) (by have := HKB.out; simp; omega)
                          obtain ⟨xa, xn, xc, rfl⟩ : ∃ a n c, va = Value.slice a n c := (by obtain ⟨a, c, e, _⟩ := hB.a.shape; exact ⟨a, _, c, e⟩)
                          refine step_append_run rfl _ _ _ _ rfl _ _ rfl rfl _ _ (hr _) ?_
                          clear hsz
                          have HLB := Lib.hid hB
                          have HT := Lib.hid hB.t
                          obtain ⟨nk, hsz⟩ : ∃ n, wk.heap.size = n := ⟨_, rfl⟩
                          clear hr hB
                          simp only [Act.put, List.setIfInBounds_toArray, List.set_cons_zero, List.set_cons_succ]
                          refine hK.out _ _ trivial (fun _ => HT.out) ?_
                          clear hK K
                          refine wpTill.ready (rs := [15]) (by kernel_rfl) (by simp) ?_
                          refine AllTill.cons (i := 15) (rs := []) (by rfl) (fun K hK => ?_) ?_
                          · go_simp
                            have HLB := Lib.hid (HLB.out.box (.slice ra rn rc) hsz.symm)
                            have HT := Lib.hid HLB.out.t
                            clear hsz
                            obtain ⟨wk, hwk⟩ : ∃ w', wk.alloc (.cells #[.slice ra rn rc] 22) = w' := ⟨_, rfl⟩
                            rw [hwk] at HLB HT ⊢
                            clear hwk
                            obtain ⟨nk, hsz⟩ : ∃ n, wk.heap.size = n := ⟨_, rfl⟩
                            refine hK.out _ _ trivial (fun _ => HT.out) ?_
                            clear hK K
                            refine wpTill.ready (rs := [16]) (by kernel_rfl) (by simp) ?_
                            refine AllTill.cons (i := 16) (rs := []) (by rfl) (fun K hK => ?_) ?_
                            · obtain ⟨va, wk, hr, hB⟩ := HLB.out.appRB 1 rfl (by have := HKB.out; simp; omega)
                              obtain ⟨xa, xn, xc, rfl⟩ : ∃ a n c, va = Value.slice a n c := (by obtain ⟨a, c, e, _⟩ := hB.a.shape; exact ⟨a, _, c, e⟩)
                              refine step_append_run rfl _ _ _ _ rfl _ _ rfl rfl _ _ (hr _) ?_
                              clear hsz
                              have HLB := Lib.hid hB
                              have HT := Lib.hid hB.t
                              obtain ⟨nk, hsz⟩ : ∃ n, wk.heap.size = n := ⟨_, rfl⟩
                              clear hr hB
                              simp only [Act.put, List.setIfInBounds_toArray, List.set_cons_zero, List.set_cons_succ]
                              refine hK.out _ _ trivial (fun _ => HT.out) ?_
                              clear hK K
                              refine wpTill.ready (rs := [23]) (by kernel_rfl) (by simp) ?_
                              refine AllTill.cons (i := 23) (rs := []) (by rfl) (fun K hK => ?_) ?_
                              · obtain ⟨va, wk, hr, hB⟩ := HLB.out.appR _ _ (HSR.out _ HT.out) (by have := HKB.out; simp; omega)
                                obtain ⟨xa, xn, xc, rfl⟩ : ∃ a n c, va = Value.slice a n c := (by obtain ⟨a, c, e, _⟩ := hB.a.shape; exact ⟨a, _, c, e⟩)
                                refine step_append_run rfl _ _ _ _ rfl _ _ rfl rfl _ _ (hr _) ?_
                                clear hsz
                                have HLB := Lib.hid hB
                                have HT := Lib.hid hB.t
                                obtain ⟨nk, hsz⟩ : ∃ n, wk.heap.size = n := ⟨_, rfl⟩
                                clear hr hB
                                simp only [Act.put, List.setIfInBounds_toArray, List.set_cons_zero, List.set_cons_succ]
                                refine hK.out _ _ trivial (fun _ => HT.out) ?_
                                clear hK K
                                refine wpTill.takeT (i := 24) (v := ?v1025) (some 107) rfl rfl (by kernel_rfl) (fun _ _ _ h => h) (Or.inl ⟨by rfl, ?hy1025⟩) ⟨trivial, HT.out⟩ ?rest1025
                                case hy1025 => (intro w hSw; obtain ⟨q1, q2, q3⟩ := HX.out w hSw; go_simp; try with_reducible rfl)
                                simp only [Act.put, List.setIfInBounds_toArray, List.set_cons_zero, List.set_cons_succ]
                                refine wpTill.takeT (i := 25) (v := ?v1026) (some 108) rfl rfl (by kernel_rfl) (fun _ _ _ h => h) (Or.inl ⟨by rfl, ?hy1026⟩) ⟨trivial, HT.out⟩ ?rest1026
                                case hy1026 => (intro w hSw; obtain ⟨q1, q2, q3⟩ := HX.out w hSw; go_simp; try with_reducible rfl)
                                simp only [Act.put, List.setIfInBounds_toArray, List.set_cons_zero, List.set_cons_succ]
                                refine wpTill.ready (rs := [26]) (by kernel_rfl) (by simp) ?_
                                refine AllTill.cons (i := 26) (rs := []) (by rfl) (fun K hK => ?_) ?_
                                · obtain ⟨q1, q2, q3⟩ := HX.out _ HT.out
                                  go_simp
                                  refine hK.out _ _ trivial (fun h => absurd h (by decide +kernel)) ?_
                                  clear hK K
                                  refine wpTill.done (by kernel_rfl) ?_ _
                                  have hcr : Im wk (grow F1 W1 wk) [b] (.slice ra rn rc) (List.replicate n 0) := Im.new HRA.out.lt HRA.out.bF (HLB.out.r _ _ rfl).1
                                  have hla : Qu wk W1.heap.size 22 (.slice xa xn xc) (vs.take k ++ [.slice ra rn rc] ++ vs.drop k) := by have := HLB.out.a; rwa [List.nil_append] at this
                                  have hro : Imr wk (grow F1 W1 wk) [b] (.slice xa xn xc) (R.hs.take k ++ [List.replicate n 0] ++ R.hs.drop k) := rows_ins HRA.out.lt HRA.out.bF HKB.out.1 HKB.out.2.1 HVR.out HT.out hla hcr
                                  have HUP := Lib.hid (Up.hs HRA.out HT.out hro)
                                  clear hcr hla hro q1 q2 q3
                                  go_wp2_with fail
                                  go_meet
                                  case rel => exact HUP.out
                                exact AllTill.nil
                              exact AllTill.nil
                            exact AllTill.nil
                          exact AllTill.nil
                        refine AllTill.cons (i := 15) (rs := []) (by rfl) (fun K hK => ?_) ?_
                        · go_simp
                          have HLB := Lib.hid (HLB.out.box (.slice ra rn rc) hsz.symm)
                          have HT := Lib.hid HLB.out.t
                          clear hsz
                          obtain ⟨wk, hwk⟩ : ∃ w', wk.alloc (.cells #[.slice ra rn rc] 22) = w' := ⟨_, rfl⟩
                          rw [hwk] at HLB HT ⊢
                          clear hwk
                          obtain ⟨nk, hsz⟩ : ∃ n, wk.heap.size = n := ⟨_, rfl⟩
                          refine hK.out _ _ trivial (fun _ => HT.out) ?_
                          clear hK K
                          refine wpTill.ready (rs := [8]) (by kernel_rfl) (by simp) ?_
                          refine AllTill.cons (i := 8) (rs := []) (by rfl) (fun K hK => ?_) ?_
                          · obtain ⟨va, wk, hr, hB⟩ := HLB.out.appR _ _ (HSP.out _ HT.out) (by have := HKB.out; simp; omega)
                            obtain ⟨xa, xn, xc, rfl⟩ : ∃ a n c, va = Value.slice a n c := (by obtain ⟨a, c, e, _⟩ := hB.a.shape; exact ⟨a, _, c, e⟩)
                            refine step_append_run rfl _ _ _ _ rfl _ _ rfl rfl _ _ (hr _) ?_
                            clear hsz
                            have HLB := Lib.hid hB
                            have HT := Lib.hid hB.t
                            obtain ⟨nk, hsz⟩ : ∃ n, wk.heap.size = n := ⟨_, rfl⟩
                            clear hr hB
                            simp only [Act.put, List.setIfInBounds_toArray, List.set_cons_zero, List.set_cons_succ]
                            refine hK.out _ _ trivial (fun _ => HT.out) ?_
                            clear hK K
                            refine wpTill.ready (rs := [16]) (by kernel_rfl) (by simp) ?_
                            refine AllTill.cons (i := 16) (rs := []) (by rfl) (fun K hK => ?_) ?_
                            · obtain ⟨va, wk, hr, hB⟩ := HLB.out.appRB 1 rfl (by have := HKB.out; simp; omega)
                              obtain ⟨xa, xn, xc, rfl⟩ : ∃ a n c, va = Value.slice a n c := (by obtain ⟨a, c, e, _⟩ := hB.a.shape; exact ⟨a, _, c, e⟩)
                              refine step_append_run rfl _ _ _ _ rfl _ _ rfl rfl _ _ (hr _) ?_
                              clear hsz
                              have HLB := Lib.hid hB
                              have HT := Lib.hid hB.t
                              obtain ⟨nk, hsz⟩ : ∃ n, wk.heap.size = n := ⟨_, rfl⟩
                              clear hr hB
                              simp only [Act.put, List.setIfInBounds_toArray, List.set_cons_zero, List.set_cons_succ]
                              refine hK.out _ _ trivial (fun _ => HT.out) ?_
                              clear hK K
                              refine wpTill.ready (rs := [23]) (by kernel_rfl) (by simp) ?_
                              refine AllTill.cons (i := 23) (rs := []) (by rfl) (fun K hK => ?_) ?_
                              · obtain ⟨va, wk, hr, hB⟩ := HLB.out.appR _ _ (HSR.out _ HT.out) (by have := HKB.out; simp; omega)
                                obtain ⟨xa, xn, xc, rfl⟩ : ∃ a n c, va = Value.slice a n c := (by obtain ⟨a, c, e, _⟩ := hB.a.shape; exact ⟨a, _, c, e⟩)
                                refine step_append_run rfl _ _ _ _ rfl _ _ rfl rfl _ _ (hr _) ?_
                                clear hsz
                                have HLB := Lib.hid hB
                                have HT := Lib.hid hB.t
                                obtain ⟨nk, hsz⟩ : ∃ n, wk.heap.size = n := ⟨_, rfl⟩
                                clear hr hB
                                simp only [Act.put, List.setIfInBounds_toArray, List.set_cons_zero, List.set_cons_succ]
                                refine hK.out _ _ trivial (fun _ => HT.out) ?_
                                clear hK K
                                refine wpTill.takeT (i := 24) (v := ?v1027) (some 107) rfl rfl (by kernel_rfl) (fun _ _ _ h => h) (Or.inl ⟨by rfl, ?hy1027⟩) ⟨trivial, HT.out⟩ ?rest1027
                                case hy1027 => (intro w hSw; obtain ⟨q1, q2, q3⟩ := HX.out w hSw; go_simp; try with_reducible rfl)
                                simp only [Act.put, List.setIfInBounds_toArray, List.set_cons_zero, List.set_cons_succ]
                                refine wpTill.takeT (i := 25) (v := ?v1028) (some 108) rfl rfl (by kernel_rfl) (fun _ _ _ h => h) (Or.inl ⟨by rfl, ?hy1028⟩) ⟨trivial, HT.out⟩ ?rest1028
                                case hy1028 => (intro w hSw; obtain ⟨q1, q2, q3⟩ := HX.out w hSw; go_simp; try with_reducible rfl)
                                simp only [Act.put, List.setIfInBounds_toArray, List.set_cons_zero, List.set_cons_succ]
                                refine wpTill.ready (rs := [26]) (by kernel_rfl) (by simp) ?_
                                refine AllTill.cons (i := 26) (rs := []) (by rfl) (fun K hK => ?_) ?_
                                · obtain ⟨q1, q2, q3⟩ := HX.out _ HT.out
                                  go_simp
                                  refine hK.out _ _ trivial (fun h => absurd h (by decide +kernel)) ?_
                                  clear hK K
                                  refine wpTill.done (by kernel_rfl) ?_ _
                                  have hcr : Im wk (grow F1 W1 wk) [b] (.slice ra rn rc) (List.replicate n 0) := Im.new HRA.out.lt HRA.out.bF (HLB.out.r _ _ rfl).1
                                  have hla : Qu wk W1.heap.size 22 (.slice xa xn xc) (vs.take k ++ [.slice ra rn rc] ++ vs.drop k) := by have := HLB.out.a; rwa [List.nil_append] at this
                                  have hro : Imr wk (grow F1 W1 wk) [b] (.slice xa xn xc) (R.hs.take k ++ [List.replicate n 0] ++ R.hs.drop k) := rows_ins HRA.out.lt HRA.out.bF HKB.out.1 HKB.out.2.1 HVR.out HT.out hla hcr
                                  have HUP := Lib.hid (Up.hs HRA.out HT.out hro)
                                  clear hcr hla hro q1 q2 q3
                                  go_wp2_with fail
                                  go_meet
                                  case rel => exact HUP.out
                                exact AllTill.nil
                              exact AllTill.nil
                            exact AllTill.nil
                          exact AllTill.nil
                        exact AllTill.nil
                      refine AllTill.cons (i := 15) (rs := []) (by rfl) (fun K hK => ?_) ?_
                      · go_simp
                        have HLB := Lib.hid (HLB.out.box (.slice ra rn rc) hsz.symm)
                        have HT := Lib.hid HLB.out.t
                        clear hsz
                        obtain ⟨wk, hwk⟩ : ∃ w', wk.alloc (.cells #[.slice ra rn rc] 22) = w' := ⟨_, rfl⟩
                        rw [hwk] at HLB HT ⊢
                        clear hwk
                        obtain ⟨nk, hsz⟩ : ∃ n, wk.heap.size = n := ⟨_, rfl⟩
                        refine hK.out _ _ trivial (fun _ => HT.out) ?_
                        clear hK K
                        refine wpTill.ready (rs := [1]) (by kernel_rfl) (by simp) ?_
                        refine AllTill.cons (i := 1) (rs := []) (by rfl) (fun K hK => ?_) ?_
                        · go_simp
                          have HLB := Lib.hid (HLB.out.empty hsz.symm)
                          have HT := Lib.hid HLB.out.t
                          clear hsz
                          obtain ⟨wk, hwk⟩ : ∃ w', wk.alloc (.cells #[] 22) = w' := ⟨_, rfl⟩
                          rw [hwk] at HLB HT ⊢
                          clear hwk
                          obtain ⟨nk, hsz⟩ : ∃ n, wk.heap.size = n := ⟨_, rfl⟩
                          refine hK.out _ _ trivial (fun _ => HT.out) ?_
                          clear hK K
                          refine wpTill.ready (rs := [8]) (by kernel_rfl) (by simp) ?_
                          refine AllTill.cons (i := 8) (rs := []) (by rfl) (fun K hK => ?_) ?_
                          · obtain ⟨va, wk, hr, hB⟩ := HLB.out.appR _ _ (HSP.out _ HT.out) (by have := HKB.out; simp; omega)
                            obtain ⟨xa, xn, xc, rfl⟩ : ∃ a n c, va = Value.slice a n c := (by obtain ⟨a, c, e, _⟩ := hB.a.shape; exact ⟨a, _, c, e⟩)
                            refine step_append_run rfl _ _ _ _ rfl _ _ rfl rfl _ _ (hr _) ?_
                            clear hsz
                            have HLB := Lib.hid hB
                            have HT := Lib.hid hB.t
                            obtain ⟨nk, hsz⟩ : ∃ n, wk.heap.size = n := ⟨_, rfl⟩
                            clear hr hB
                            simp only [Act.put, List.setIfInBounds_toArray, List.set_cons_zero, List.set_cons_succ]
                            refine hK.out _ _ trivial (fun _ => HT.out) ?_
                            clear hK K
                            refine wpTill.ready (rs := [16]) (by kernel_rfl) (by simp) ?_
                            refine AllTill.cons (i := 16) (rs := []) (by rfl) (fun K hK => ?_) ?_
                            · obtain ⟨va, wk, hr, hB⟩ := HLB.out.appRB 1 rfl (by have := HKB.out; simp; omega)
                              obtain ⟨xa, xn, xc, rfl⟩ : ∃ a n c, va = Value.slice a n c := (by obtain ⟨a, c, e, _⟩ := hB.a.shape; exact ⟨a, _, c, e⟩)
                              refine step_append_run rfl _ _ _ _ rfl _ _ rfl rfl _ _ (hr _) ?_
                              clear hsz
                              have HLB := Lib.hid hB
                              have HT := Lib.hid hB.t
                              obtain ⟨nk, hsz⟩ : ∃ n, wk.heap.size = n := ⟨_, rfl⟩
                              clear hr hB
                              simp only [Act.put, List.setIfInBounds_toArray, List.set_cons_zero, List.set_cons_succ]
                              refine hK.out _ _ trivial (fun _ => HT.out) ?_
                              clear hK K
                              refine wpTill.ready (rs := [23]) (by kernel_rfl) (by simp) ?_
                              refine AllTill.cons (i := 23) (rs := []) (by rfl) (fun K hK => ?_) ?_
                              · obtain ⟨va, wk, hr, hB⟩ := HLB.out.appR _ _ (HSR.out _ HT.out) (by have := HKB.out; simp; omega)
                                obtain ⟨xa, xn, xc, rfl⟩ : ∃ a n c, va = Value.slice a n c := (by obtain ⟨a, c, e, _⟩ := hB.a.shape; exact ⟨a, _, c, e⟩)
                                refine step_append_run rfl _ _ _ _ rfl _ _ rfl rfl _ _ (hr _) ?_
                                clear hsz
                                have HLB := Lib.hid hB
                                have HT := Lib.hid hB.t
                                obtain ⟨nk, hsz⟩ : ∃ n, wk.heap.size = n := ⟨_, rfl⟩
                                clear hr hB
                                simp only [Act.put, List.setIfInBounds_toArray, List.set_cons_zero, List.set_cons_succ]
                                refine hK.out _ _ trivial (fun _ => HT.out) ?_
                                clear hK K
                                refine wpTill.takeT (i := 24) (v := ?v1029) (some 107) rfl rfl (by kernel_rfl) (fun _ _ _ h => h) (Or.inl ⟨by rfl, ?hy1029⟩) ⟨trivial, HT.out⟩ ?rest1029
                                case hy1029 => (intro w hSw; obtain ⟨q1, q2, q3⟩ := HX.out w hSw; go_simp; try with_reducible rfl)
                                simp only [Act.put, List.setIfInBounds_toArray, List.set_cons_zero, List.set_cons_succ]
                                refine wpTill.takeT (i := 25) (v := ?v1030) (some 108) rfl rfl (by kernel_rfl) (fun _ _ _ h => h) (Or.inl ⟨by rfl, ?hy1030⟩) ⟨trivial, HT.out⟩ ?rest1030
                                case hy1030 => (intro w hSw; obtain ⟨q1, q2, q3⟩ := HX.out w hSw; go_simp; try with_reducible rfl)
                                simp only [Act.put, List.setIfInBounds_toArray, List.set_cons_zero, List.set_cons_succ]
                                refine wpTill.ready (rs := [26]) (by kernel_rfl) (by simp) ?_
                                refine AllTill.cons (i := 26) (rs := []) (by rfl) (fun K hK => ?_) ?_
                                · obtain ⟨q1, q2, q3⟩ := HX.out _ HT.out
                                  go_simp
                                  refine hK.out _ _ trivial (fun h => absurd h (by decide +kernel)) ?_
                                  clear hK K
                                  refine wpTill.done (by kernel_rfl) ?_ _
                                  have hcr : Im wk (grow F1 W1 wk) [b] (.slice ra rn rc) (List.replicate n 0) := Im.new HRA.out.lt HRA.out.bF (HLB.out.r _ _ rfl).1
                                  have hla : Qu wk W1.heap.size 22 (.slice xa xn xc) (vs.take k ++ [.slice ra rn rc] ++ vs.drop k) := by have := HLB.out.a; rwa [List.nil_append] at this
                                  have hro : Imr wk (grow F1 W1 wk) [b] (.slice xa xn xc) (R.hs.take k ++ [List.replicate n 0] ++ R.hs.drop k) := rows_ins HRA.out.lt HRA.out.bF HKB.out.1 HKB.out.2.1 HVR.out HT.out hla hcr
                                  have HUP := Lib.hid (Up.hs HRA.out HT.out hro)
                                  clear hcr hla hro q1 q2 q3
                                  go_wp2_with fail
                                  go_meet
                                  case rel => exact HUP.out
                                exact AllTill.nil
                              exact AllTill.nil
                            exact AllTill.nil
                          exact AllTill.nil
                        exact AllTill.nil
                      exact AllTill.nil
                    exact AllTill.nil
                  case rest =>
                    clear e1 e3 HSP HSR HKB HX HLB HT hmk HVR
                    obtain ⟨F2, r2, hf2, hr2⟩ := hcut
                    have HF2 := Lib.hid (HF1.out.trans hf2)
                    have HRA := Lib.hid hr2
                    obtain ⟨W2, hW2⟩ : ∃ W2, wc = W2 := ⟨_, rfl⟩
                    rw [hW2] at HF2 HRA ⊢
                    clear hf2 hr2 hW2
                    -- what they have claimed
                    obtain ⟨vs, hvl, ⟨baseh, hqh⟩, hvr, hones⟩ := HRA.out.cs.vals
                    have HVR : Hid (∀ i, i < R.cs.length → Im W2 F2 [b] (vs.getD i (.slice none 0 0)) (rw_ R.cs i)) := Lib.hid hvr
                    obtain ⟨ha, hn', hc, hhv⟩ : ∃ a n c, r2.cv = .slice a n c := by obtain ⟨a, c, e, _⟩ := hqh.shape; exact ⟨a, _, c, e⟩
                    rw [hhv] at hqh
                    have HKB : Hid (k ≤ R.cs.length ∧ vs.length = R.cs.length ∧ R.cs.length ≤ 31) := Lib.hid ⟨by have := HB.out; have := HL.out; have := HKL.out; omega, hvl, by have := HB.out; have := HL.out; have := HMM.out; omega⟩
                    obtain ⟨e1, e2, sa, sn, sc, e3, e4⟩ := parts_R hqh hones (k := k) (by have := HKB.out; omega)
                    have HSP := Lib.hid e2
                    have HSR := Lib.hid e4
                    have HX : Hid (∀ w', Touch [] W2 w' → w'.cell? ⟨b, 5, none⟩ = some (.slice ha hn' hc) ∧ w'.frozen? ⟨b, 5, none⟩ = false) := Lib.hid (fun w' ht => ⟨by rw [← hhv]; exact (HRA.out.obj.touch ht (by simp)).cell (i := 5) rfl, (HRA.out.obj.touch ht (by simp)).free 5⟩)
                    have HFW := Lib.hid ((Fr.same HCW.out HRA0.out.lt).trans HF2.out)
                    have HCP : Hid (∀ w', Touch [] W2 w' → Calls Tryz.prog 43 #[.slice ua N uc] w' (Own u w')) := Lib.hid (fun w' ht => copy_any _ _ w' ((HU.out.keep HFW.out.t (fun hne k hk => HV.out hne k hk)).touch ht (fun _ _ => by simp)) (by have := HNU.out; omega))
                    have HLB := Lib.hid (Lb.start 22 ((Touch.refl [] W2).drew))
                    have HT := Lib.hid HLB.out.t
                    clear hvl hqh hvr hones hhv e2 e4
                    go_upto_region 14 with fail
                    go_cut [] from 8 (fun wx => Up W2 F2 b { R with ps := R.ps.take k ++ [q] ++ R.ps.drop k, hs := R.hs.take k ++ [List.replicate n 0] ++ R.hs.drop k, cs := R.cs.take k ++ [u] ++ R.cs.drop k } wx)
                    case first =>
                      refine wp_region_till (fun _ => True) (fun w' => Touch [] W2 w') [22] (by kernel_rfl) ?_
                      obtain ⟨wk, hwk⟩ : ∃ w', World.drew W2 = w' := ⟨_, rfl⟩
                      rw [hwk] at HLB HT ⊢
                      clear hwk
                      obtain ⟨nk, hsz⟩ : ∃ n, wk.heap.size = n := ⟨_, rfl⟩
                      refine wpTill.takeT (i := 0) (v := ?v3001) (some 109) rfl rfl (by kernel_rfl) (fun _ _ _ h => h) (Or.inl ⟨by rfl, ?hy3001⟩) ⟨trivial, HT.out⟩ ?rest3001
                      case hy3001 => (intro w hSw; obtain ⟨q1, q2⟩ := HX.out w hSw; go_simp; try with_reducible rfl)
                      simp only [Act.put, List.setIfInBounds_toArray, List.set_cons_zero, List.set_cons_succ]
                      refine wpTill.takeT (i := 2) (v := ?v3002) (some 111) rfl rfl (by kernel_rfl) (fun _ _ _ h => h) (Or.inl ⟨by rfl, ?hy3002⟩) ⟨trivial, HT.out⟩ ?rest3002
                      case hy3002 => (intro w hSw; obtain ⟨q1, q2⟩ := HX.out w hSw; go_simp; try with_reducible rfl)
                      simp only [Act.put, List.setIfInBounds_toArray, List.set_cons_zero, List.set_cons_succ]
                      refine wpTill.takeT (i := 3) (v := ?v3003) (some 112) rfl rfl (by kernel_rfl) (fun _ _ _ h => h) (Or.inl ⟨by rfl, ?hy3003⟩) ⟨trivial, HT.out⟩ ?rest3003
                      case hy3003 => (intro w hSw; obtain ⟨q1, q2⟩ := HX.out w hSw; go_simp; try with_reducible rfl)
                      simp only [Act.put, List.setIfInBounds_toArray, List.set_cons_zero, List.set_cons_succ]
                      refine wpTill.takeT (i := 4) (v := ?v3004) (some 113) rfl rfl (by kernel_rfl) (fun _ _ _ h => h) (Or.inl ⟨by rfl, ?hy3004⟩) ⟨trivial, HT.out⟩ ?rest3004
                      case hy3004 => (intro w hSw; obtain ⟨q1, q2⟩ := HX.out w hSw; go_simp; try with_reducible rfl)
                      simp only [Act.put, List.setIfInBounds_toArray, List.set_cons_zero, List.set_cons_succ]
                      refine wpTill.takeT (i := 5) (v := ?v3005) (some 114) rfl rfl (by kernel_rfl) (fun _ _ _ h => h) (Or.inl ⟨by rfl, ?hy3005⟩) ⟨trivial, HT.out⟩ ?rest3005
                      case hy3005 => (intro w hSw; obtain ⟨q1, q2⟩ := HX.out w hSw; go_simp; try with_reducible rfl)
                      simp only [Act.put, List.setIfInBounds_toArray, List.set_cons_zero, List.set_cons_succ]
                      refine wpTill.takeT (i := 6) (v := ?v3006) (some 115) rfl rfl (by kernel_rfl) (fun _ _ _ h => h) (Or.inl ⟨by rfl, ?hy3006⟩) ⟨trivial, HT.out⟩ ?rest3006
                      case hy3006 => (intro w hSw; obtain ⟨q1, q2⟩ := HX.out w hSw; go_simp; try with_reducible rfl)
                      simp only [Act.put, List.setIfInBounds_toArray, List.set_cons_zero, List.set_cons_succ]
                      refine wpTill.takeT (i := 7) (v := ?v3007) (some 116) rfl rfl (by kernel_rfl) (fun _ _ _ h => h) (Or.inl ⟨by rfl, ?hy3007⟩) ⟨trivial, HT.out⟩ ?rest3007
                      case hy3007 => (intro w hSw; obtain ⟨q1, q2⟩ := HX.out w hSw; go_simp; try with_reducible rfl)
                      simp only [Act.put, List.setIfInBounds_toArray, List.set_cons_zero, List.set_cons_succ]
                      refine wpTill.takeT (i := 9) (v := ?v3008) (some 118) rfl rfl (by kernel_rfl) (fun _ _ _ h => h) (Or.inl ⟨by rfl, ?hy3008⟩) ⟨trivial, HT.out⟩ ?rest3008
                      case hy3008 => (intro w hSw; obtain ⟨q1, q2⟩ := HX.out w hSw; go_simp; try with_reducible rfl)
                      simp only [Act.put, List.setIfInBounds_toArray, List.set_cons_zero, List.set_cons_succ]
                      refine wpTill.takeT (i := 13) (v := ?v3009) (some 122) rfl rfl (by kernel_rfl) (fun _ _ _ h => h) (Or.inl ⟨by rfl, ?hy3009⟩) ⟨trivial, HT.out⟩ ?rest3009
                      case hy3009 => (intro w hSw; obtain ⟨q1, q2⟩ := HX.out w hSw; go_simp; try with_reducible rfl)
                      simp only [Act.put, List.setIfInBounds_toArray, List.set_cons_zero, List.set_cons_succ]
                      refine wpTill.takeT (i := 14) (v := ?v3010) (some 123) rfl rfl (by kernel_rfl) (fun _ _ _ h => h) (Or.inl ⟨by rfl, ?hy3010⟩) ⟨trivial, HT.out⟩ ?rest3010
                      case hy3010 => (intro w hSw; obtain ⟨q1, q2⟩ := HX.out w hSw; go_simp; try with_reducible rfl)
                      simp only [Act.put, List.setIfInBounds_toArray, List.set_cons_zero, List.set_cons_succ]
                      refine wpTill.takeT (i := 15) (v := ?v3011) (some 124) rfl rfl (by kernel_rfl) (fun _ _ _ h => h) (Or.inl ⟨by rfl, ?hy3011⟩) ⟨trivial, HT.out⟩ ?rest3011
                      case hy3011 => (intro w hSw; obtain ⟨q1, q2⟩ := HX.out w hSw; go_simp; try with_reducible rfl)
                      simp only [Act.put, List.setIfInBounds_toArray, List.set_cons_zero, List.set_cons_succ]
                      refine wpTill.takeT (i := 16) (v := ?v3012) (some 125) rfl rfl (by kernel_rfl) (fun _ _ _ h => h) (Or.inl ⟨by rfl, ?hy3012⟩) ⟨trivial, HT.out⟩ ?rest3012
                      case hy3012 => (intro w hSw; obtain ⟨q1, q2⟩ := HX.out w hSw; go_simp; try with_reducible rfl)
                      simp only [Act.put, List.setIfInBounds_toArray, List.set_cons_zero, List.set_cons_succ]
                      refine wpTill.takeT (i := 17) (v := ?v3013) (some 126) rfl rfl (by kernel_rfl) (fun _ _ _ h => h) (Or.inl ⟨by rfl, ?hy3013⟩) ⟨trivial, HT.out⟩ ?rest3013
                      case hy3013 => (intro w hSw; obtain ⟨q1, q2⟩ := HX.out w hSw; go_simp; try with_reducible rfl)
                      simp only [Act.put, List.setIfInBounds_toArray, List.set_cons_zero, List.set_cons_succ]
                      refine wpTill.takeT (i := 18) (v := ?v3014) (some 127) rfl rfl (by kernel_rfl) (fun _ _ _ h => h) (Or.inl ⟨by rfl, ?hy3014⟩) ⟨trivial, HT.out⟩ ?rest3014
                      case hy3014 => (intro w hSw; obtain ⟨q1, q2⟩ := HX.out w hSw; go_simp; try with_reducible rfl)
                      simp only [Act.put, List.setIfInBounds_toArray, List.set_cons_zero, List.set_cons_succ]
                      refine wpTill.ready (rs := [1]) (by kernel_rfl) (by simp) ?_
                      refine AllTill.cons (i := 1) (rs := []) (by rfl) (fun K hK => ?_) ?_
                      · go_simp
                        have HLB := Lib.hid (HLB.out.empty hsz.symm)
                        have HT := Lib.hid HLB.out.t
                        clear hsz
                        obtain ⟨wk, hwk⟩ : ∃ w', wk.alloc (.cells #[] 22) = w' := ⟨_, rfl⟩
                        rw [hwk] at HLB HT ⊢
                        clear hwk
                        obtain ⟨nk, hsz⟩ : ∃ n, wk.heap.size = n := ⟨_, rfl⟩
                        refine hK.out _ _ trivial (fun _ => HT.out) ?_
                        clear hK K
                        refine wpTill.ready (rs := [8]) (by kernel_rfl) (by simp) ?_
                        refine AllTill.cons (i := 8) (rs := []) (by rfl) (fun K hK => ?_) ?_
                        · obtain ⟨va, wk, hr, hB⟩ := HLB.out.appR _ _ (HSP.out _ HT.out) (by have := HKB.out; simp; omega)
                          obtain ⟨xa, xn, xc, rfl⟩ : ∃ a n c, va = Value.slice a n c := (by obtain ⟨a, c, e, _⟩ := hB.a.shape; exact ⟨a, _, c, e⟩)
                          refine step_append_run rfl _ _ _ _ rfl _ _ rfl rfl _ _ (hr _) ?_
                          clear hsz
                          have HLB := Lib.hid hB
                          have HT := Lib.hid hB.t
                          obtain ⟨nk, hsz⟩ : ∃ n, wk.heap.size = n := ⟨_, rfl⟩
                          clear hr hB
                          simp only [Act.put, List.setIfInBounds_toArray, List.set_cons_zero, List.set_cons_succ]
                          refine hK.out _ _ trivial (fun _ => HT.out) ?_
                          clear hK K
                          refine wpTill.ready (rs := [10]) (by kernel_rfl) (by simp) ?_
                          refine AllTill.cons (i := 10) (rs := []) (by rfl) (fun K hK => ?_) ?_
                          · go_simp
                            go_at_call 43
                            refine (HCP.out _ HT.out).mono ?_
                            rintro e wk ⟨v7, rfl, hq7, ht7⟩
                            clear hsz
                            obtain ⟨ra, rn, rc, rfl⟩ : ∃ a n c, v7 = Value.slice a n c := (by obtain ⟨a, c, e, _⟩ := hq7.shape; exact ⟨a, _, c, e⟩)
                            have HLB := Lib.hid (HLB.out.datum ht7 hq7)
                            have HT := Lib.hid HLB.out.t
                            clear hq7 ht7
                            obtain ⟨nk, hsz⟩ : ∃ n, wk.heap.size = n := ⟨_, rfl⟩
                            simp only [Act.put, List.setIfInBounds_toArray, List.set_cons_zero, List.set_cons_succ]
                            refine hK.out _ _ trivial (fun _ => HT.out) ?_
                            clear hK K
                            refine wpTill.ready (rs := [11]) (by kernel_rfl) (by simp) ?_
                            refine AllTill.cons (i := 11) (rs := []) (by rfl) (fun K hK => ?_) ?_
                            · go_simp
                              have HLB := Lib.hid (HLB.out.box (.slice ra rn rc) hsz.symm)
                              have HT := Lib.hid HLB.out.t
                              clear hsz
                              obtain ⟨wk, hwk⟩ : ∃ w', wk.alloc (.cells #[.slice ra rn rc] 22) = w' := ⟨_, rfl⟩
                              rw [hwk] at HLB HT ⊢
                              clear hwk
                              obtain ⟨nk, hsz⟩ : ∃ n, wk.heap.size = n := ⟨_, rfl⟩
                              refine hK.out _ _ trivial (fun _ => HT.out) ?_
                              clear hK K
                              refine wpTill.ready (rs := [12]) (by kernel_rfl) (by simp) ?_
                              refine AllTill.cons (i := 12) (rs := []) (by rfl) (fun K hK => ?_) ?_
                              · obtain ⟨va, wk, hr, hB⟩ := HLB.out.appRB 1 rfl (by have := HKB.out; simp; omega)
                                obtain ⟨xa, xn, xc, rfl⟩ : ∃ a n c, va = Value.slice a n c := (by obtain ⟨a, c, e, _⟩ := hB.a.shape; exact ⟨a, _, c, e⟩)
                                refine step_append_run rfl _ _ _ _ rfl _ _ rfl rfl _ _ (hr _) ?_
                                clear hsz
                                have HLB := Lib.hid hB
                                have HT := Lib.hid hB.t
                                obtain ⟨nk, hsz⟩ : ∃ n, wk.heap.size = n := ⟨_, rfl⟩
                                clear hr hB
                                simp only [Act.put, List.setIfInBounds_toArray, List.set_cons_zero, List.set_cons_succ]
                                refine hK.out _ _ trivial (fun _ => HT.out) ?_
                                clear hK K
                                refine wpTill.ready (rs := [19]) (by kernel_rfl) (by simp) ?_
                                refine AllTill.cons (i := 19) (rs := []) (by rfl) (fun K hK => ?_) ?_
                                · obtain ⟨va, wk, hr, hB⟩ := HLB.out.appR _ _ (HSR.out _ HT.out) (by have := HKB.out; simp; omega)
                                  obtain ⟨xa, xn, xc, rfl⟩ : ∃ a n c, va = Value.slice a n c := (by obtain ⟨a, c, e, _⟩ := hB.a.shape; exact ⟨a, _, c, e⟩)
                                  refine step_append_run rfl _ _ _ _ rfl _ _ rfl rfl _ _ (hr _) ?_
                                  clear hsz
                                  have HLB := Lib.hid hB
                                  have HT := Lib.hid hB.t
                                  obtain ⟨nk, hsz⟩ : ∃ n, wk.heap.size = n := ⟨_, rfl⟩
                                  clear hr hB
                                  simp only [Act.put, List.setIfInBounds_toArray, List.set_cons_zero, List.set_cons_succ]
                                  refine hK.out _ _ trivial (fun _ => HT.out) ?_
                                  clear hK K
                                  refine wpTill.takeT (i := 20) (v := ?v3015) (some 129) rfl rfl (by kernel_rfl) (fun _ _ _ h => h) (Or.inl ⟨by rfl, ?hy3015⟩) ⟨trivial, HT.out⟩ ?rest3015
                                  case hy3015 => (intro w hSw; obtain ⟨q1, q2⟩ := HX.out w hSw; go_simp; try with_reducible rfl)
                                  simp only [Act.put, List.setIfInBounds_toArray, List.set_cons_zero, List.set_cons_succ]
                                  refine wpTill.takeT (i := 21) (v := ?v3016) (some 130) rfl rfl (by kernel_rfl) (fun _ _ _ h => h) (Or.inl ⟨by rfl, ?hy3016⟩) ⟨trivial, HT.out⟩ ?rest3016
                                  case hy3016 => (intro w hSw; obtain ⟨q1, q2⟩ := HX.out w hSw; go_simp; try with_reducible rfl)
                                  simp only [Act.put, List.setIfInBounds_toArray, List.set_cons_zero, List.set_cons_succ]
                                  refine wpTill.ready (rs := [22]) (by kernel_rfl) (by simp) ?_
                                  refine AllTill.cons (i := 22) (rs := []) (by rfl) (fun K hK => ?_) ?_
                                  · obtain ⟨q1, q2⟩ := HX.out _ HT.out
                                    go_simp
                                    refine hK.out _ _ trivial (fun h => absurd h (by decide +kernel)) ?_
                                    clear hK K
                                    refine wpTill.done (by kernel_rfl) ?_ _
                                    have hcr : Im wk (grow F2 W2 wk) [b] (.slice ra rn rc) (u) := Im.new HRA.out.lt HRA.out.bF (HLB.out.r _ _ rfl).1
                                    have hla : Qu wk W2.heap.size 22 (.slice xa xn xc) (vs.take k ++ [.slice ra rn rc] ++ vs.drop k) := by have := HLB.out.a; rwa [List.nil_append] at this
                                    have hro : Imr wk (grow F2 W2 wk) [b] (.slice xa xn xc) (R.cs.take k ++ [u] ++ R.cs.drop k) := rows_ins HRA.out.lt HRA.out.bF HKB.out.1 HKB.out.2.1 HVR.out HT.out hla hcr
                                    have HUP := Lib.hid (Up.cs HRA.out HT.out hro)
                                    clear hcr hla hro q1 q2 
                                    go_wp2_with fail
                                    go_meet
                                    case rel => exact HUP.out
                                  exact AllTill.nil
                                exact AllTill.nil
                              exact AllTill.nil
                            exact AllTill.nil
                          exact AllTill.nil
                        exact AllTill.nil
                      exact AllTill.nil
                    case rest =>
                      clear e1 e3 HSP HSR HKB HX HLB HT HVR HCP
                      have HF : Hid (AdmP w F b R q u (.returned (.int .i64 0)) wc) := Lib.hid (by
                        unfold AdmP
                        rw [if_neg HN1.out, if_neg HNI.out, if_neg (by rw [HL.out]; exact HMM.out), if_neg HNC.out]
                        refine ⟨k, by rw [HL.out]; exact HKL.out, HLO.out.1, fun h => HLO.out.2 (by rw [← HL.out]; exact h), rfl, ?_⟩
                        rw [HN.out]
                        exact Up.trans HFW.out hcut)
                      clear hcut
                      go_wp2_with fail
                      go_ret
                      exact HF.out
      · have hge : (0 : Int) ≤ (k : Int) := by omega
        have HIN : Hid (q ∈ R.ps) := Lib.hid (by
          rename_i hkl _
          rw [← hk2, List.getD_eq_getElem?_getD, List.getElem?_eq_getElem hkl]; exact List.getElem_mem _)
        have HF : Hid (AdmP w F b R q u (.returned (.int .i64 4)) w) := Lib.hid (by
          unfold AdmP
          rw [if_neg HN1.out, if_pos HIN.out]
          exact ⟨rfl, Up.same HRA.out (Touch.refl _ _)⟩)
        clear hk2
        go_wp2_with fail
        go_ret
        exact HF.out
end Go.Proofs.YticglfmmjgnicaaGreat
