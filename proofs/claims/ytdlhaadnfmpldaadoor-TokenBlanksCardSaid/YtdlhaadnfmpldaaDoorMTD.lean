/-
  The law TokenBlanks.
-/
import Derived.Test.YtdlhaadnfmpldaaDoorMTE
import Derived.Test.YtdlhaadnfmpldaaDoorR
import Derived.Laws.StructEq
import Derived.Deep.RegionHeldLaw
set_option linter.unusedVariables false
namespace Go.Proofs.YtdlhaadnfmpldaaDoor
open Go Go.RowKit

theorem allT_bad {D : List UInt8} {c a : Int} (h : allT D = .bad c a) : c ≠ 0 := by
  unfold allT at h
  split at h
  · cases h; decide
  · have : ∀ (f : Nat) (l : List UInt8) (p : Nat) (acc : List Tok), scanF f l p acc = .bad c a → c ≠ 0 := by
      intro f
      induction f with
      | zero => intro l p acc h; cases h
      | succ f ih =>
        intro l p acc h
        cases l with
        | nil => cases h
        | cons x r =>
          unfold scanF at h
          cases hs : stepT p x r with
          | bad y => rw [hs] at h; cases h; exact step_bad hs
          | go m ts => rw [hs] at h; exact ih _ _ _ h
    exact this _ _ _ _ h
theorem allT_some {D : List UInt8} {T : List Tok} (h : allT D = .ok T) : 1 ≤ T.length := by
  unfold allT at h
  split at h
  · cases h
  · have : ∀ (f : Nat) (l : List UInt8) (p : Nat) (acc : List Tok), l.length < f → scanF f l p acc = .ok T → 1 ≤ T.length := by
      intro f
      induction f with
      | zero => intro l p acc hf h; omega
      | succ f ih =>
        intro l p acc hf h
        cases l with
        | nil =>
          have h : TokR.ok (acc ++ [⟨5, p, 0, []⟩]) = .ok T := h
          cases h
          simp
        | cons x r =>
          unfold scanF at h
          cases hs : stepT p x r with
          | bad y => rw [hs] at h; cases h
          | go m ts => rw [hs] at h; exact ih _ _ _ (by simp at hf ⊢; omega) h
    exact this _ _ _ _ (by omega) h
theorem lay_lt {T : List Tok} {K q M : Nat} (h : q < K) (hK : K < T.length) : (T.take K ++ (T.drop K).map (shT M)).getD q tk0 = T.getD q tk0 := by
  rw [List.getD_eq_getElem?_getD, List.getElem?_append_left (by rw [List.length_take]; omega), List.getElem?_take, if_pos h, ← List.getD_eq_getElem?_getD]
theorem lay_ge {T : List Tok} {K q M : Nat} (h : K ≤ q) (hq : q < T.length) : (T.take K ++ (T.drop K).map (shT M)).getD q tk0 = shT M (T.getD q tk0) := by
  rw [List.getD_eq_getElem?_getD, List.getElem?_append_right (by rw [List.length_take]; omega), List.length_take, Nat.min_eq_left (by omega), List.getElem?_map, List.getElem?_drop, show K + (q - K) = q from by omega, List.getD_eq_getElem?_getD, List.getElem?_eq_getElem hq]
  rfl
/-- What is laid between: the bytes, as the law makes them. -/
theorem put_cat {W : World} {ra : Option Addr} {m rc : Nat} {R : List UInt8} (hr : Bt W (.slice ra m rc) R) (hm : m ≤ 100) :
    ∃ p1 c1 x1 p2 c2 x2, (∀ ty, (Builtin.append_ #[23, 23] ty #[.slice (some ⟨W.heap.size, 0, none⟩) 3 3, .slice ra m rc]).run Tryd.prog (W.alloc (.cells #[.int .u8 32, .int .u8 9, .int .u8 123] 5)) = .ok (.slice p1 (3 + m) c1) x1) ∧
      (∀ ty, (Builtin.append_ #[23, 23] ty #[.slice p1 (3 + m) c1, .slice (some ⟨x1.heap.size, 0, none⟩) 3 3]).run Tryd.prog (x1.alloc (.cells #[.int .u8 125, .int .u8 10, .int .u8 13] 5)) = .ok (.slice p2 (3 + m + 3) c2) x2) ∧
      Bt x2 (.slice p2 (3 + m + 3) c2) (putL R) ∧ Touch [] W x2 := by
  obtain ⟨_, _, e1, _⟩ := id hr
  cases e1
  have t0 : Touch [] W (W.alloc (.cells #[.int .u8 32, .int .u8 9, .int .u8 123] 5)) := (Touch.refl [] W).alloc _
  have q0 : Qu (W.alloc (.cells #[.int .u8 32, .int .u8 9, .int .u8 123] 5)) W.heap.size 5 (.slice (some ⟨W.heap.size, 0, none⟩) 3 3) (([32, 9, 123] : List UInt8).map bv) := Qu.made (c := #[.int .u8 32, .int .u8 9, .int .u8 123]) rfl (Nat.le_refl _) rfl (by unfold maxLen; omega)
  obtain ⟨p1, c1, x1, r1, k1, u1, n1⟩ := bytes_cat q0 t0.size (hr.touch t0 (by simp)) (by simp; omega)
  have e3 : ([32, 9, 123] : List UInt8).length = 3 := rfl
  rw [e3] at r1 k1 n1
  have t1 : Touch [] W x1 := t0.transF u1 (fun q hq hlt => by have := (q0.own q (Option.mem_toList.1 hq)).1; omega)
  have t2 : Touch [] x1 (x1.alloc (.cells #[.int .u8 125, .int .u8 10, .int .u8 13] 5)) := (Touch.refl [] x1).alloc _
  have b2 : Bt (x1.alloc (.cells #[.int .u8 125, .int .u8 10, .int .u8 13] 5)) (.slice (some ⟨x1.heap.size, 0, none⟩) 3 3) [125, 10, 13] := bt_new x1 [125, 10, 13] _ 3 rfl rfl _ _
  obtain ⟨p2, c2, x2, r2, k2, u2, n2⟩ := bytes_cat (k1.touch t2 (fun _ _ => by simp)) (t1.trans t2).size b2 (by simp; omega)
  have e4 : ([32, 9, 123] ++ R).length = 3 + R.length := by simp; omega
  have e5 : ([125, 10, 13] : List UInt8).length = 3 := rfl
  rw [e4, e5] at r2 k2
  have t3 : Touch [] W x2 := (t1.trans t2).transF u2 (fun q hq hlt => by have := (k1.own q (Option.mem_toList.1 hq)).1; omega)
  have hb := qu_bt k2
  rw [show [32, 9, 123] ++ R ++ [125, 10, 13] = putL R from by simp [putL]] at hb
  exact ⟨p1, c1, x1, p2, c2, x2, r1, r2, hb, t3⟩
set_option maxHeartbeats 64000000 in
set_option maxRecDepth 100000 in
theorem blanks_law (nv : Value) (xs : List Int) (a0 : Int) (rv : Value) (R : List UInt8) (w : World) (hn : Sl w nv xs) (hi : ∀ y ∈ xs, InI y) (hx : xs.length ≤ maxLen) (ha : (Lit.int .i64 a0).wf = true) (hr : Bt w rv R) (hR : R.length ≤ maxLen) (hv0 : Vs w ∧ VM w) : Calls Tryd.prog 4 #[nv, .int .i64 a0, rv] w (TrueP w) := by
  have hai := inI_of ha
  obtain ⟨na, nc, rfl⟩ := hn.form
  obtain ⟨ra, rc, rfl, _⟩ := hr.form
  have HV := Lib.hid hv0.1
  have HVM := Lib.hid hv0.2
  have HAI := Lib.hid hai
  obtain ⟨n, hnn⟩ : ∃ n, xs.length = n := ⟨_, rfl⟩
  obtain ⟨m, hmm⟩ : ∃ n, R.length = n := ⟨_, rfl⟩
  have HRM := Lib.hid hmm
  by_cases hbig : 300 < n ∨ 100 < m
  · rw [hnn, hmm]
    have HAW := Lib.hid (awake_any w HV.out)
    rcases (by omega : 300 < n ∨ (¬ 300 < n ∧ 100 < m)) with hb | ⟨hb, hb2⟩
    · have d1 : decide ((300 : Int) < (n : Int)) = true := dT (by omega)
      clear hbig hn hi hx hr hR ha hai hv0 hnn hmm HVM HV hb
      go_enter Tryd.func4, Tryd.ntmps4
      go_wp2_with fail
      refine HAW.out.mono ?_
      rintro e w2 ⟨rfl, ht⟩
      have HT := Lib.hid ht
      clear ht
      go_wp2_with fail
      go_ret
      exact ⟨rfl, HT.out⟩
    · have d1 : decide ((300 : Int) < (n : Int)) = false := dF (by omega)
      have d2 : decide ((100 : Int) < (m : Int)) = true := dT (by omega)
      clear hbig hn hi hx hr hR ha hai hv0 hnn hmm HVM HV hb hb2
      go_enter Tryd.func4, Tryd.ntmps4
      go_wp2_with fail
      refine HAW.out.mono ?_
      rintro e w2 ⟨rfl, ht⟩
      have HT := Lib.hid ht
      clear ht
      go_wp2_with fail
      go_ret
      exact ⟨rfl, HT.out⟩
  have HTX := Lib.hid (mtext_any w _ xs hn (by omega) HVM.out)
  have HR := Lib.hid hr
  rw [hnn] at HTX ⊢
  rw [hmm] at HR ⊢
  have d1 : decide ((300 : Int) < (n : Int)) = false := dF (by omega)
  have d2 : decide ((100 : Int) < (m : Int)) = false := dF (by omega)
  have HM100 : Hid (m ≤ 100) := Lib.hid (by omega)
  clear hbig hn hi hx hr hR ha hai hv0 hnn hmm HVM
  go_enter Tryd.func4, Tryd.ntmps4
  go_wp2_with fail
  refine HTX.out.mono ?_
  rintro e u1 ⟨v, D, rfl, hq, hl, ht⟩
  have hbt := qu_bt hq
  obtain ⟨a, cp, rfl, _⟩ := hbt.form
  have HBu := Lib.hid hbt
  have HTu := Lib.hid ht
  have HVu := Lib.hid (HV.out.touch ht)
  have HRu := Lib.hid (HR.out.touch ht (by simp))
  have HQu := Lib.hid hq
  have HLL : Hid (D.length ≤ 100000) := Lib.hid (by omega)
  obtain ⟨N, hN⟩ : ∃ N, D.length = N := ⟨_, rfl⟩
  rw [hN] at HBu ⊢
  have HN := Lib.hid hN
  have HTL := Lib.hid (allT_len D)
  clear hq hl ht hbt hN HTX HV HR d1 d2
  go_wp2_with fail
  refine (all_any u1 _ D HVu.out HBu.out HLL.out).mono ?_
  intro e w1 h1
  obtain ⟨v1, rfl, hk1, ht1⟩ := h1.ans
  cases hall : allT D with
  | bad C A =>
    have hC0 := allT_bad hall
    rw [hall] at hk1
    have hk1 : Tks w1 u1.heap.size v1 [] := hk1
    obtain ⟨a1, c1, rfl⟩ := hk1.form
    have HSEC0 := fun (q : World) (hq : Touch [] u1 q) => second_any q _ D (HBu.out.touch hq (by simp)) HLL.out
    rw [hall] at HSEC0
    have hb1 : Blk (w1.alloc (.cells #[.int .i64 C, .int .i64 A] 29)) w1.heap.size #[.int .i64 C, .int .i64 A] 29 := Blk.new rfl
    have HT1 := Lib.hid (ht1.alloc (.cells #[.int .i64 C, .int .i64 A] 29))
    obtain ⟨g1, hg1⟩ : ∃ z, w1.heap.size = z := ⟨_, rfl⟩
    obtain ⟨W1, hW1⟩ : ∃ x, (w1.alloc (.cells #[.int .i64 C, .int .i64 A] 29)) = x := ⟨_, rfl⟩
    rw [hg1, hW1] at hb1
    rw [hW1] at HT1
    have HG1 := Lib.hid hb1
    have HSEC : Hid (∀ q : Later W1, Calls Tryd.prog 11 #[.slice a N cp] q.world fun e w' => e = .returned (.agg #[.int .i64 C, .int .i64 A]) ∧ Touch [] q.world w') := Lib.hid (fun q => HSEC0 _ (HT1.out.trans q.ok))
    have HAW : Hid (∀ q : Later W1, Calls Tryd.prog 5 #[] q.world fun e w' => e = .returned (.bool true) ∧ Touch [] q.world w') := Lib.hid (fun q => awake_any _ (HVu.out.touch (HT1.out.trans q.ok)))
    have HWW := Lib.hid hW1
    have HGG := Lib.hid hg1
    have hCb : (C != 0) = true := by simpa using hC0
    have z0 : W1.cell? ⟨g1, 0, none⟩ = some (.int .i64 C) := HG1.out.cell (i := 0) rfl
    have x0 : ∀ q : Later W1, q.world.cell? ⟨g1, 0, none⟩ = some (.int .i64 C) := fun q => (HG1.out.touch q.ok (by simp)).cell (i := 0) rfl
    have x1 : ∀ q : Later W1, q.world.cell? ⟨g1, 1, none⟩ = some (.int .i64 A) := fun q => (HG1.out.touch q.ok (by simp)).cell (i := 1) rfl
    clear hb1 hW1 hg1 h1 hk1 ht1 HSEC0 hC0 hall
    go_upto_region 5 with fail
    rw [show (ansC (TokR.bad C A)) = C from rfl, show (ansA (TokR.bad C A)) = A from rfl]
    rw [HGG.out]
    rw [HWW.out]
    clear HGG HWW
    go_wp2_with fail
    refine wp_region_later (by kernel_rfl) (by kernel_rfl) ?_
    repeat (first
      | (go_big_quiet_step ((first | (with_reducible rfl) | exact Later.met (HSEC.out _) | exact Later.met (HAW.out _))))
      | (quiet_step (fail)))
    refine wpQuiet_nil ?_
    intro wq hw'
    obtain ⟨⟨wq', hwq⟩, hwe⟩ := hw'
    have hwe : wq = wq' := hwe
    subst hwe
    have HTn := Lib.hid ((HTu.out.trans HT1.out).trans hwq)
    clear hwe hwq x0 x1
    go_wp2
    go_ret
    exact ⟨rfl, HTn.out⟩
  | ok T =>
    have htl := allT_some hall
    rw [hall] at hk1 HTL
    have hk1 : Tks w1 u1.heap.size v1 T := hk1
    have HTL : Hid (T.length ≤ 5000) := Lib.hid HTL.out
    obtain ⟨a1, c1, rfl⟩ := hk1.form
    have hb1 : Blk (w1.alloc (.cells #[.int .i64 0, .int .i64 0] 29)) w1.heap.size #[.int .i64 0, .int .i64 0] 29 := Blk.new rfl
    have HT1 := Lib.hid (ht1.alloc (.cells #[.int .i64 0, .int .i64 0] 29))
    have HK1 := Lib.hid (hk1.touch ((Touch.refl [] w1).alloc (.cells #[.int .i64 0, .int .i64 0] 29)) (fun _ _ => by simp))
    obtain ⟨g1, hg1⟩ : ∃ z, w1.heap.size = z := ⟨_, rfl⟩
    obtain ⟨W1, hW1⟩ : ∃ x, (w1.alloc (.cells #[.int .i64 0, .int .i64 0] 29)) = x := ⟨_, rfl⟩
    rw [hg1, hW1] at hb1
    rw [hW1] at HT1 HK1
    have HG1 := Lib.hid hb1
    have HWW := Lib.hid hW1
    have HGG := Lib.hid hg1
    have HALL := Lib.hid hall
    obtain ⟨tn, htn⟩ : ∃ z, T.length = z := ⟨_, rfl⟩
    rw [htn] at htl HK1 HTL
    have HTN := Lib.hid htn
    have HTW := Lib.hid (HTu.out.trans HT1.out)
    have HB1 := Lib.hid (HBu.out.touch HT1.out (by simp))
    have HR1 := Lib.hid (HRu.out.touch HT1.out (by simp))
    have HV1 := Lib.hid (HVu.out.touch HT1.out)
    have ht0 : ((tn : Int) == 0) = false := by simp; omega
    have ht0n : (tn == 0) = false := by simp; omega
    have z0 : W1.cell? ⟨g1, 0, none⟩ = some (.int .i64 0) := HG1.out.cell (i := 0) rfl
    clear hb1 hW1 hg1 h1 hk1 ht1 hall
    go_upto_region 5 with fail
    rw [show (ansC (TokR.ok T)) = 0 from rfl, show (ansA (TokR.ok T)) = 0 from rfl]
    rw [HGG.out]
    rw [HWW.out]
    clear HGG HWW htn HBu HRu HVu HTu HT1
    go_wp2_with fail
    clear z0 ht0 ht0n
    go_loop [10] (fun iv => ∃ i : Nat, iv = .int .i64 (i : Int) ∧ i ≤ m ∧ ∀ j, j < i → R.getD j 0 ≠ 125) (fun iv => m - (intOf iv).toNat)
    case atStart => exact ⟨0, rfl, Nat.zero_le _, fun j hj => by omega⟩
    case round =>
      obtain ⟨i, rfl, hi, hno⟩ := hrel
      have HNO := Lib.hid hno
      clear hno
      have hm1 : m ≤ 100 := HM100.out
      by_cases hlt : i < m
      · have dlt : decide ((i : Int) < (m : Int)) = true := dT (by omega)
        obtain ⟨g, off, rfl, hg, hc0⟩ := HR1.out.ix (i := i) (by rw [HRM.out]; exact hlt)
        have hc := hc0 [] W1 (Touch.refl _ _) (by simp)
        obtain ⟨y, hy⟩ : ∃ y : Int, ((R.getD i 0).toNat : Int) = y := ⟨_, rfl⟩
        have hyi := byte_eq (c := R.getD i 0) (n := 125) (by omega)
        rw [hy] at hc
        by_cases h5 : y = 125
        · subst h5
          have HAW := Lib.hid (awake_any W1 HV1.out)
          clear hg hc0 hy hyi
          go_wp2_with fail
          refine HAW.out.mono ?_
          rintro e w2 ⟨rfl, ht⟩
          have HT := Lib.hid (HTW.out.trans ht)
          clear ht
          go_wp2
          go_ret
          exact ⟨rfl, HT.out⟩
        · have hyb : (y == 125) = false := beqF h5
          have HNE : Hid (R.getD i 0 ≠ 125) := Lib.hid (fun e => h5 (by rw [← hy]; have := hyi.2 e; omega))
          clear hg hc0 hy hyi h5
          go_wp2_with fail
          go_round
          case rel => exact ⟨i + 1, by go_num, by omega, fun j hj => by
            rcases Nat.lt_or_ge j i with h | h
            · exact HNO.out j h
            · obtain rfl : j = i := by omega
              exact HNE.out⟩
          case measure => simp [intOf]; omega
      · obtain rfl : i = m := by omega
        have dlt : decide ((i : Int) < (i : Int)) = false := dF (by omega)
        have HREM : Hid ((125 : UInt8) ∉ R) := Lib.hid (fun hm => by
          obtain ⟨j, hj, e⟩ := List.getElem_of_mem hm
          refine HNO.out j (by rw [← HRM.out]; exact hj) ?_
          rw [List.getD_eq_getElem?_getD, List.getElem?_eq_getElem hj]
          exact e)
        have ht1 : 1 ≤ tn := htl
        have htm : tn ≤ 5000 := HTL.out
        have HWI := Lib.hid (within_any a0 ((tn : Int) - 1) HAI.out (by omega) W1)
        clear hi hlt
        go_wp2_with fail
        refine HWI.out.mono ?_
        rintro e w2 ⟨rfl, K0, rfl, hK0, hK1⟩
        obtain ⟨K, rfl⟩ : ∃ K : Nat, K0 = (K : Int) := ⟨K0.toNat, by omega⟩
        obtain ⟨p1, q1, x1, p2, q2, x2, r1, r2, hbp, htp⟩ := put_cat HR1.out HM100.out
        have hKt : K < tn := by omega
        obtain ⟨M, hM⟩ : ∃ M, 3 + i + 3 = M := ⟨_, rfl⟩
        rw [hM] at r2 hbp
        have HMM : Hid (M = R.length + 6) := Lib.hid (by rw [HRM.out]; omega)
        have HMB : Hid (M ≤ 106) := Lib.hid (by omega)
        have HKT := Lib.hid hKt
        have HBP := Lib.hid hbp
        have HTP := Lib.hid htp
        clear hK0 hK1 hbp htp hM
        go_upto_region 14 with (first | (at_builtin; refine Lib.wpList_append_run _ rfl _ _ _ _ rfl _ _ rfl rfl _ _ (r1 _) ?_; clear r1) | (at_builtin; refine Lib.wpList_append_run _ rfl _ _ _ _ rfl _ _ rfl rfl _ _ (r2 _) ?_; clear r2))
        obtain ⟨pp, hp1, hp2, hp3⟩ := blanks_all HALL.out HREM.out (show T[K]? = some (T.getD K tk0) from by rw [List.getD_eq_getElem?_getD, List.getElem?_eq_getElem (by rw [HTN.out]; exact hKt)]; rfl)
        rw [← HMM.out] at hp3
        rw [HN.out] at hp2 hp3
        have HP3 := Lib.hid hp3
        obtain ⟨g, rfl, hcs⟩ := HK1.out.at (i := K) (by rw [HTN.out]; exact hKt)
        have hca := (hcs x2 HTP.out).2.1
        rw [hp1] at hca
        have dp0 : decide ((pp : Int) < 0) = false := dF (by omega)
        have dpN : decide ((N : Int) < (pp : Int)) = false := dF (by omega)
        have dpNn : decide (N < pp) = false := dF (by omega)
        have dqNn : decide (pp ≤ N) = true := dT (by omega)
        have dq0 : decide (0 ≤ (pp : Int)) = true := dT (by omega)
        have dqN : decide ((pp : Int) ≤ (N : Int)) = true := dT (by omega)
        have HPN : Hid (pp ≤ N) := Lib.hid hp2
        have HK2 := Lib.hid (HK1.out.touch HTP.out (fun _ _ => by simp))
        have HB2 := Lib.hid (HB1.out.touch HTP.out (by simp))
        have HV2 := Lib.hid (HV1.out.touch HTP.out)
        have HTW2 := Lib.hid (HTW.out.trans HTP.out)
        have hNb : N ≤ 100000 := by have := HLL.out; rw [HN.out] at this; exact this
        have hMb : M ≤ 106 := HMB.out
        have HCA : Hid (∀ w', Touch [] x2 w' → w'.cell? ⟨g, K * 4 + 1, none⟩ = some (.int .i64 (pp : Int))) := Lib.hid (fun w' h => by have := (hcs w' (HTP.out.trans h)).2.1; rw [hp1] at this; exact this)
        clear hp1 hp2 hp3 hcs
        by_cases hbig2 : 4096 < N + M
        · have dsum : decide ((4096 : Int) < (N : Int) + (M : Int)) = true := dT (by omega)
          clear hbig2
          have HAW := Lib.hid (awake_any x2 HV2.out)
          go_wp2_with fail
          refine HAW.out.mono ?_
          rintro e w2 ⟨rfl, ht⟩
          have HT := Lib.hid (HTW2.out.trans ht)
          clear ht
          go_wp2
          go_ret
          exact ⟨rfl, HT.out⟩
        · have dsum : decide ((4096 : Int) < (N : Int) + (M : Int)) = false := dF (by omega)
          have HT2 : Hid (allT (laid D (putL R) pp) = .ok (T.take K ++ (T.drop K).map (shT M))) := Lib.hid (HP3.out (by omega))
          clear hbig2
          obtain ⟨T2, hT2⟩ : ∃ z, T.take K ++ (T.drop K).map (shT M) = z := ⟨_, rfl⟩
          rw [hT2] at HT2
          have HT2D := Lib.hid hT2
          have hT2l : T2.length = tn := by rw [← hT2, List.length_append, List.length_map, List.length_take, List.length_drop, HTN.out]; omega
          have HT2L := Lib.hid hT2l
          clear hT2 hT2l
          go_upto_region 16 with fail
          go_cut [13, 14] from 113 to 135 (fun v13 v14 wx => RelE x2 T2 tn v13 v14 wx)
          case first =>
            have HTW := Lib.hid (Ap.start x2)
            have hpn := HPN.out
            have HA1 := Lib.hid (HB2.out.first (k := pp) (by rw [HN.out]; exact HPN.out))
            have ha3 := HB2.out.cut (k := pp) (by rw [HN.out]; exact HPN.out)
            have hcc : N ≤ cp := by
              obtain ⟨_, _, he, hcc⟩ := HB2.out.form
              cases he
              rw [HN.out] at hcc
              exact hcc
            have HL1 : Hid (([] : List UInt8).length + (D.take pp).length = pp) := Lib.hid (by rw [List.length_take, HN.out]; simp; omega)
            have HL2 : Hid ((([] : List UInt8) ++ D.take pp).length + (putL R).length = pp + M) := Lib.hid (by have := HL1.out; have := HMM.out; rw [List.length_append]; simp [putL] at *; omega)
            have HL3 : Hid ((([] : List UInt8) ++ D.take pp ++ putL R).length + (D.drop pp).length = N + M) := Lib.hid (by have := HL2.out; rw [List.length_append, List.length_drop, HN.out]; omega)
            have HLEN : Hid ((([] : List UInt8) ++ D.take pp ++ putL R ++ D.drop pp).length ≤ 100000) := Lib.hid (by rw [List.length_append, HL3.out]; have := HLL.out; have := dsum; simp at this; omega)
            have HT3 : Hid (allT ([] ++ D.take pp ++ putL R ++ D.drop pp) = .ok T2) := Lib.hid (by rw [List.nil_append, List.append_assoc]; exact HT2.out)
            have hcA := fun o => HCA.out _ ((Touch.refl [] x2).alloc o)
            have hcB := fun o o' => HCA.out _ (((Touch.refl [] x2).alloc o).alloc o')
            by_cases hcp : cp = pp
            · obtain rfl : N = pp := by omega
              subst hcp
              rw [if_pos rfl, Nat.sub_self] at ha3
              have HA3 := Lib.hid ha3
              clear ha3 hpn
              go_region_held_law (fun w' => w'.cell? ⟨g, K * 4 + 1, none⟩ = some (.int .i64 (cp : Int))) (first | (exact HCA.out _ HT5.out) | (exact HCA.out _ HTW.out.t) | (exact HCA.out _ ((Touch.refl [] x2).drew.alloc _)) | (exact HCA.out _ (((Touch.refl [] x2).drew.alloc _).alloc _)) | (exact HCA.out _ (HTW.out.t.alloc _)) | (exact HCA.out _ (HT5.out.alloc _)) | (exact HCA.out _ ((HT5.out.setNew (HG5.out _ rfl).2.1 _).setNew (HG5.out _ rfl).2.1 _)) | (exact HCA.out _ (((HT5.out.alloc _).setNew HT5.out.size _).setNew HT5.out.size _)) | go_keep)
                ((first
                  | (refine step_ap rfl _ _ rfl (by rfl) (by rfl) HA1.out (by first | exact Ap.start_empty x2 | exact Ap.empty_zeros x2 | exact Ap.zeros_empty x2) HL1.out (by omega) ?_; intro v1 q1' w1' h1; have hcb := HCA.out _ h1.t; have hcb2 := fun o => HCA.out _ (h1.t.alloc o); have HTW := Lib.hid h1; clear h1)
                  | (refine step_ap rfl _ _ rfl (by rfl) (by rfl) HBP.out (by first | exact HTW.out | exact HTW.out.zeros) HL2.out (by omega) ?_; intro v1 q1' w1' h1; have hcb := HCA.out _ h1.t; have hcb2 := fun o => HCA.out _ (h1.t.alloc o); have HTW := Lib.hid h1; clear h1)
                  | (refine step_ap rfl _ _ rfl (by rfl) (by rfl) HA3.out (by first | exact HTW.out | exact HTW.out.zeros) HL3.out (by omega) ?_; intro v1 q1' w1' h1; have HTW := Lib.hid h1; clear h1)
                  | (go_simp; go_at_call 7; refine (all_ap HV2.out (by first | exact HTW.out | exact HTW.out.zeros) HLEN.out HT3.out HT2L.out).mono ?_; rintro e w5 ⟨b1, bc, rfl, hk5, ht5, hg5, hc5⟩; have HK5 := Lib.hid hk5; have HT5 := Lib.hid ht5; have HG5 := Lib.hid hg5; first | (obtain ⟨z0, z1, zf⟩ := hc5 _ rfl; clear hk5 ht5 hg5 hc5) | (clear hk5 ht5 hg5 hc5))))
              all_goals go_wp2_with fail
              all_goals go_meet
              all_goals (first | exact rel_c HK5.out HT5.out | exact rel_b HK5.out HT5.out | (have hk := HG5.out _ rfl; exact rel_a HK5.out HT5.out hk))
            · rw [if_neg hcp] at ha3
              have HA3 := Lib.hid ha3
              have hKc : pp ≤ cp := by omega
              have hKci : (pp : Int) ≤ (cp : Int) := by omega
              have hKni : (pp : Int) ≤ (N : Int) := by omega
              have hK0i : (0 : Int) ≤ (pp : Int) := by omega
              clear ha3
              go_region_held_law (fun w' => w'.cell? ⟨g, K * 4 + 1, none⟩ = some (.int .i64 (pp : Int))) (first | (exact HCA.out _ HT5.out) | (exact HCA.out _ HTW.out.t) | (exact HCA.out _ ((Touch.refl [] x2).drew.alloc _)) | (exact HCA.out _ (((Touch.refl [] x2).drew.alloc _).alloc _)) | (exact HCA.out _ (HTW.out.t.alloc _)) | (exact HCA.out _ (HT5.out.alloc _)) | (exact HCA.out _ ((HT5.out.setNew (HG5.out _ rfl).2.1 _).setNew (HG5.out _ rfl).2.1 _)) | (exact HCA.out _ (((HT5.out.alloc _).setNew HT5.out.size _).setNew HT5.out.size _)) | go_keep)
                ((first
                  | (refine step_ap rfl _ _ rfl (by rfl) (by rfl) HA1.out (by first | exact Ap.start_empty x2 | exact Ap.empty_zeros x2 | exact Ap.zeros_empty x2) HL1.out (by omega) ?_; intro v1 q1' w1' h1; have hcb := HCA.out _ h1.t; have hcb2 := fun o => HCA.out _ (h1.t.alloc o); have HTW := Lib.hid h1; clear h1)
                  | (refine step_ap rfl _ _ rfl (by rfl) (by rfl) HBP.out (by first | exact HTW.out | exact HTW.out.zeros) HL2.out (by omega) ?_; intro v1 q1' w1' h1; have hcb := HCA.out _ h1.t; have hcb2 := fun o => HCA.out _ (h1.t.alloc o); have HTW := Lib.hid h1; clear h1)
                  | (refine step_ap rfl _ _ rfl (by rfl) (by rfl) HA3.out (by first | exact HTW.out | exact HTW.out.zeros) HL3.out (by omega) ?_; intro v1 q1' w1' h1; have HTW := Lib.hid h1; clear h1)
                  | (go_simp; go_at_call 7; refine (all_ap HV2.out (by first | exact HTW.out | exact HTW.out.zeros) HLEN.out HT3.out HT2L.out).mono ?_; rintro e w5 ⟨b1, bc, rfl, hk5, ht5, hg5, hc5⟩; have HK5 := Lib.hid hk5; have HT5 := Lib.hid ht5; have HG5 := Lib.hid hg5; first | (obtain ⟨z0, z1, zf⟩ := hc5 _ rfl; clear hk5 ht5 hg5 hc5) | (clear hk5 ht5 hg5 hc5))))
              all_goals go_wp2_with fail
              all_goals go_meet
              all_goals (first | exact rel_c HK5.out HT5.out | exact rel_b HK5.out HT5.out | (have hk := HG5.out _ rfl; exact rel_a HK5.out HT5.out hk))
          case rest =>
            obtain ⟨b1, bc, base, g2, rfl, rfl, hkb, hgb, htb⟩ := hcut
            have HKB := Lib.hid hkb
            have HKA := Lib.hid (HK2.out.touch htb (fun _ _ => by simp))
            have HTC := Lib.hid (HTW2.out.trans htb)
            have HVC := Lib.hid (HV2.out.touch htb)
            have y0 := hgb.cell (i := 0) rfl
            have hne0 : ((tn : Int) != (tn : Int)) = false := bneF rfl
            clear hkb hgb htb hca dp0 dpN dq0 dqN dsum dpNn dqNn
            go_wp2_with fail
            clear y0 hne0
            go_loopw [15] (fun kv wr => ∃ q : Nat, kv = .int .i64 (q : Int) ∧ q ≤ tn ∧ Touch [] wc wr) (fun kv _ => tn - (intOf kv).toNat)
            case atStart => exact ⟨0, rfl, Nat.zero_le _, Touch.refl _ _⟩
            case round =>
              obtain ⟨q, rfl, hq, ht⟩ := hrel
              have HT := Lib.hid ht
              clear ht
              by_cases hlt : q < tn
              · have dlt : decide ((q : Int) < (tn : Int)) = true := dT (by omega)
                have hqT : q < T.length := by rw [HTN.out]; exact hlt
                obtain ⟨py, hpy, hpyD, _⟩ := blanks_all HALL.out HREM.out (show T[q]? = some (T.getD q tk0) from by rw [List.getD_eq_getElem?_getD, List.getElem?_eq_getElem hqT]; rfl)
                rw [HN.out] at hpyD
                obtain ⟨gb, rfl, hcb⟩ := HKB.out.at (i := q) (by rw [HT2L.out]; exact hlt)
                obtain ⟨ga, hga, hcA⟩ := HKA.out.at (i := q) hqT
                cases hga
                obtain ⟨Y, hY⟩ : ∃ z, T.getD q tk0 = z := ⟨_, rfl⟩
                obtain ⟨yk, yp, yn, yt⟩ := Y
                rw [hY] at hcA hpy
                have hpy : yp = (py : Int) := hpy
                subst hpy
                dsimp only at hcA
                obtain ⟨YT, hYT⟩ : ∃ z : ByteArray, ⟨yt.toArray⟩ = z := ⟨_, rfl⟩
                rw [hYT] at hcA
                have HCA := Lib.hid hcA
                have hcb2 := hcb wr HT.out
                obtain ⟨B, hB⟩ : ∃ z, wr.heap.size = z := ⟨_, rfl⟩
                by_cases hqK : q < K
                · have dK : decide ((K : Int) ≤ (q : Int)) = false := dF (by omega)
                  have dKn : decide (K ≤ q) = false := dF (by omega)
                  rw [← HT2D.out, lay_lt hqK (by rw [HTN.out]; exact HKT.out), hY] at hcb2
                  dsimp only at hcb2
                  rw [hYT] at hcb2
                  obtain ⟨l0, l1, l2, l3⟩ := hcb2
                  have nbk : Blk (wr.alloc (.cells #[.int .i64 yk, .int .i64 (py : Int), .int .i64 yn, .string YT] 38)) B #[.int .i64 yk, .int .i64 (py : Int), .int .i64 yn, .string YT] 38 := Blk.new hB.symm
                  have HTB := Lib.hid ((Touch.refl [] wr).alloc (.cells #[.int .i64 yk, .int .i64 (py : Int), .int .i64 yn, .string YT] 38))
                  obtain ⟨WB, hWB⟩ : ∃ x, (wr.alloc (.cells #[.int .i64 yk, .int .i64 (py : Int), .int .i64 yn, .string YT] 38)) = x := ⟨_, rfl⟩
                  rw [hWB] at nbk HTB
                  have HNB := Lib.hid nbk
                  have HWB := Lib.hid hWB
                  have HBB := Lib.hid hB
                  have x0 : ∀ z : Later WB, z.world.cell? ⟨B, 0, none⟩ = some (.int .i64 yk) := fun z => (HNB.out.touch z.ok (by simp)).cell (i := 0) rfl
                  have x1 : ∀ z : Later WB, z.world.cell? ⟨B, 1, none⟩ = some (.int .i64 (py : Int)) := fun z => (HNB.out.touch z.ok (by simp)).cell (i := 1) rfl
                  have x2 : ∀ z : Later WB, z.world.cell? ⟨B, 2, none⟩ = some (.int .i64 yn) := fun z => (HNB.out.touch z.ok (by simp)).cell (i := 2) rfl
                  have x3 : ∀ z : Later WB, z.world.cell? ⟨B, 3, none⟩ = some (.string YT) := fun z => (HNB.out.touch z.ok (by simp)).cell (i := 3) rfl
                  have y0 : ∀ z : Later WB, z.world.cell? ⟨g, q * 4, none⟩ = some (.int .i64 yk) := fun z => (HCA.out _ ((HT.out.trans HTB.out).trans z.ok)).1
                  have y1 : ∀ z : Later WB, z.world.cell? ⟨g, q * 4 + 1, none⟩ = some (.int .i64 (py : Int)) := fun z => (HCA.out _ ((HT.out.trans HTB.out).trans z.ok)).2.1
                  have y2 : ∀ z : Later WB, z.world.cell? ⟨g, q * 4 + 2, none⟩ = some (.int .i64 yn) := fun z => (HCA.out _ ((HT.out.trans HTB.out).trans z.ok)).2.2.1
                  have y3 : ∀ z : Later WB, z.world.cell? ⟨g, q * 4 + 3, none⟩ = some (.string YT) := fun z => (HCA.out _ ((HT.out.trans HTB.out).trans z.ok)).2.2.2
                  clear nbk hWB hB hcb hcA hY hYT hqT hpyD hqK
                  go_upto_region 23 with fail
                  rw [HBB.out]
                  rw [HWB.out]
                  clear l0 l1 l2 l3
                  go_wp2_with fail
                  refine wp_region_later (by kernel_rfl) (by kernel_rfl) ?_
                  repeat (first
                    | (go_big_quiet_step ((with_reducible rfl)))
                    | (quiet_step (fail)))
                  refine wpQuiet_nil ?_
                  intro wq hw'
                  obtain ⟨⟨wq', hwq⟩, hwe⟩ := hw'
                  have hwe : wq = wq' := hwe
                  subst hwe
                  have HTn := Lib.hid ((HT.out.trans HTB.out).trans hwq)
                  clear hwe hwq x0 x1 x2 x3 y0 y1 y2 y3
                  go_wp2
                  go_roundw
                  case rel => exact ⟨q + 1, by go_num, by omega, HTn.out⟩
                  case measure => simp [intOf]; omega
                · have dK : decide ((K : Int) ≤ (q : Int)) = true := dT (by omega)
                  have dKn : decide (K ≤ q) = true := dT (by omega)
                  rw [← HT2D.out, lay_ge (by omega) hqT, hY] at hcb2
                  dsimp only [shT] at hcb2
                  rw [hYT] at hcb2
                  obtain ⟨l0, l1, l2, l3⟩ := hcb2
                  have nbk : Blk (wr.alloc (.cells #[.int .i64 yk, .int .i64 ((py : Int) + (M : Int)), .int .i64 yn, .string YT] 38)) B #[.int .i64 yk, .int .i64 ((py : Int) + (M : Int)), .int .i64 yn, .string YT] 38 := Blk.new hB.symm
                  have HTB := Lib.hid ((Touch.refl [] wr).alloc (.cells #[.int .i64 yk, .int .i64 ((py : Int) + (M : Int)), .int .i64 yn, .string YT] 38))
                  obtain ⟨WB, hWB⟩ : ∃ x, (wr.alloc (.cells #[.int .i64 yk, .int .i64 ((py : Int) + (M : Int)), .int .i64 yn, .string YT] 38)) = x := ⟨_, rfl⟩
                  rw [hWB] at nbk HTB
                  have nf := nbk.free 1
                  have n0 := nbk.cell (i := 0) rfl
                  have n1 := nbk.cell (i := 1) rfl
                  have n2 := nbk.cell (i := 2) rfl
                  have n3 := nbk.cell (i := 3) rfl
                  have nb2 := nbk.set 1 (.int .i64 (py : Int))
                  have HTS : Hid (Touch [] wr (WB.setCell ⟨B, 1, none⟩ (.int .i64 (py : Int)))) := Lib.hid (HTB.out.transF ((Touch.refl [B] WB).setCell (by simp) _) (fun z hz hlt2 => by have := List.mem_singleton.1 hz; omega))
                  obtain ⟨WC, hWC⟩ : ∃ x, (WB.setCell ⟨B, 1, none⟩ (.int .i64 (py : Int))) = x := ⟨_, rfl⟩
                  rw [hWC] at nb2 HTS
                  have HNB : Hid (Blk WC B #[.int .i64 yk, .int .i64 (py : Int), .int .i64 yn, .string YT] 38) := Lib.hid nb2
                  have HWC := Lib.hid hWC
                  have hpyb : py ≤ 100000 := by omega
                  have hsum : (py : Int) + (M : Int) - (M : Int) = (py : Int) := by omega
                  have HWB := Lib.hid hWB
                  have HBB := Lib.hid hB
                  have x0 : ∀ z : Later WC, z.world.cell? ⟨B, 0, none⟩ = some (.int .i64 yk) := fun z => (HNB.out.touch z.ok (by simp)).cell (i := 0) rfl
                  have x1 : ∀ z : Later WC, z.world.cell? ⟨B, 1, none⟩ = some (.int .i64 (py : Int)) := fun z => (HNB.out.touch z.ok (by simp)).cell (i := 1) rfl
                  have x2 : ∀ z : Later WC, z.world.cell? ⟨B, 2, none⟩ = some (.int .i64 yn) := fun z => (HNB.out.touch z.ok (by simp)).cell (i := 2) rfl
                  have x3 : ∀ z : Later WC, z.world.cell? ⟨B, 3, none⟩ = some (.string YT) := fun z => (HNB.out.touch z.ok (by simp)).cell (i := 3) rfl
                  have y0 : ∀ z : Later WC, z.world.cell? ⟨g, q * 4, none⟩ = some (.int .i64 yk) := fun z => (HCA.out _ ((HT.out.trans HTS.out).trans z.ok)).1
                  have y1 : ∀ z : Later WC, z.world.cell? ⟨g, q * 4 + 1, none⟩ = some (.int .i64 (py : Int)) := fun z => (HCA.out _ ((HT.out.trans HTS.out).trans z.ok)).2.1
                  have y2 : ∀ z : Later WC, z.world.cell? ⟨g, q * 4 + 2, none⟩ = some (.int .i64 yn) := fun z => (HCA.out _ ((HT.out.trans HTS.out).trans z.ok)).2.2.1
                  have y3 : ∀ z : Later WC, z.world.cell? ⟨g, q * 4 + 3, none⟩ = some (.string YT) := fun z => (HCA.out _ ((HT.out.trans HTS.out).trans z.ok)).2.2.2
                  clear nbk nb2 hWB hWC hB hcb hcA hY hYT hqT hpyD hqK
                  go_upto_region 23 with fail
                  rw [HBB.out]
                  rw [HWB.out]
                  clear l0 l1 l2 l3
                  go_upto_region 25 with fail
                  rw [HWC.out]
                  clear n0 n1 n2 n3 nf
                  refine wp_region_later (by kernel_rfl) (by kernel_rfl) ?_
                  repeat (first
                    | (go_big_quiet_step ((with_reducible rfl)))
                    | (quiet_step (fail)))
                  refine wpQuiet_nil ?_
                  intro wq hw'
                  obtain ⟨⟨wq', hwq⟩, hwe⟩ := hw'
                  have hwe : wq = wq' := hwe
                  subst hwe
                  have HTn := Lib.hid ((HT.out.trans HTS.out).trans hwq)
                  clear hwe hwq x0 x1 x2 x3 y0 y1 y2 y3
                  go_wp2
                  go_roundw
                  case rel => exact ⟨q + 1, by go_num, by omega, HTn.out⟩
                  case measure => simp [intOf]; omega
              · obtain rfl : q = tn := by omega
                have dlt : decide ((q : Int) < (q : Int)) = false := dF (by omega)
                have HAW := Lib.hid (awake_any wr (HVC.out.touch HT.out))
                go_wp2_with fail
                refine HAW.out.mono ?_
                rintro e w2 ⟨rfl, ht⟩
                have HTZ := Lib.hid ((HTC.out.trans HT.out).trans ht)
                clear ht
                go_wp2
                go_ret
                exact ⟨rfl, HTZ.out⟩
end Go.Proofs.YtdlhaadnfmpldaaDoor
