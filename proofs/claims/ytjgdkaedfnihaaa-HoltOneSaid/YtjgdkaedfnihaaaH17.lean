/-
  All sets by masks; the law HoltJust.
-/
import Derived.Test.YtjgdkaedfnihaaaH16
set_option linter.unusedVariables false
namespace Go.Proofs.Ytjgdkaedfnihaaa
open Go.RowKit Go.BigFrame

theorem filtL_succ (n : Nat) (P : Nat → Bool) : filtL (n + 1) P = filtL n P ++ if P n = true then [(n : Int)] else [] := by
  unfold filtL
  rw [List.range_succ, List.filter_append, List.map_append]
  cases h : P n <;> simp [h]
theorem take_snoc' (l : List Int) {k : Nat} (h : k < l.length) : l.take (k + 1) = l.take k ++ [l.getD k 0] := by
  rw [List.take_add_one, List.getD_eq_getElem?_getD, List.getElem?_eq_getElem h]
  rfl
theorem filtL_len (n : Nat) (P : Nat → Bool) : (filtL n P).length ≤ n := by
  have h := List.length_filter_le P (List.range n)
  unfold filtL
  rw [List.length_map]
  simpa using h
/-- The set of a mask. -/
def maskL (n m : Nat) : List Int := filtL n (fun i => m.testBit i)
section
variable (xs : List Int) (hs qs : List (List Int))
/-- Is i in a deadlocked set of a mask below m? -/
def inJ (m i : Nat) : Bool := (List.range m).any fun k => deadB xs hs qs (maskL hs.length k) && k.testBit i
end
section
variable {xs : List Int} {hs qs : List (List Int)}
theorem inJ_succ (m i : Nat) : inJ xs hs qs (m + 1) i = (inJ xs hs qs m i || (deadB xs hs qs (maskL hs.length m) && m.testBit i)) := by
  unfold inJ
  rw [List.range_succ, List.any_append]
  simp
theorem inJ_one (i : Nat) : inJ xs hs qs 1 i = false := by
  unfold inJ
  simp
theorem mask_all (P : Nat → Bool) : ∀ n, ∃ m, m < 2 ^ n ∧ ∀ i, i < n → m.testBit i = P i
  | 0 => ⟨0, by simp, fun i hi => by omega⟩
  | n + 1 => by
    obtain ⟨m, hm, h⟩ := mask_all P n
    cases hp : P n with
    | false =>
      refine ⟨m, by rw [Nat.pow_succ]; omega, fun i hi => ?_⟩
      by_cases e : i = n
      · subst e; rw [hp]; exact Nat.testBit_lt_two_pow hm
      · exact h i (by omega)
    | true =>
      refine ⟨2 ^ n + m, by rw [Nat.pow_succ]; omega, fun i hi => ?_⟩
      by_cases e : i = n
      · subst e; rw [hp, Nat.testBit_two_pow_add_eq, Nat.testBit_lt_two_pow hm]; rfl
      · rw [Nat.testBit_two_pow_add_gt (by omega)]; exact h i (by omega)
/-- Whose members are the same is as deadlocked. -/
theorem dead_same {S : List Int} {P : Nat → Bool} (hP : ∀ i : Nat, i < hs.length → (P i = true ↔ (i : Int) ∈ S)) (hd : deadB xs hs qs S = true) : deadB xs hs qs (filtL hs.length P) = true := by
  obtain ⟨h1, h2, ⟨h3, h4⟩, h5⟩ := deadB_iff.1 hd
  have hm : ∀ a : Int, a ∈ filtL hs.length P ↔ a ∈ S := fun a => by
    rw [filtL_mem]
    constructor
    · rintro ⟨p1, p2, p3⟩
      have := (hP a.toNat (by omega)).1 p3
      rwa [show ((a.toNat : Nat) : Int) = a by omega] at this
    · intro ha
      have p := h3 a ha
      exact ⟨p.1, p.2, (hP a.toNat (by omega)).2 (by rw [show ((a.toNat : Nat) : Int) = a by omega]; exact ha)⟩
  have he : leftL hs.length (filtL hs.length P) = leftL hs.length S := by
    rw [leftL_filt, leftL_filt]
    refine filtL_congr (fun i _ => ?_)
    exact decide_eq_decide.2 (not_congr (hm (i : Int)))
  refine deadB_iff.2 ⟨h1, fun e => ?_, ⟨fun i hi => h3 i ((hm i).1 hi), filtL_rise _ _⟩, fun i hi => ?_⟩
  · obtain ⟨a, ha⟩ := List.exists_mem_of_ne_nil S h2
    have := (hm a).2 ha
    rw [e] at this; cases this
  · rw [he]
    exact h5 i ((hm i).1 hi)
/-- W4, BY MASKS. -/
theorem just_mask (hr : rowsB xs hs qs = true) (hh : ∀ (i k : Nat), 0 ≤ (rw_ hs i).getD k 0) : filtL hs.length (inJ xs hs qs (2 ^ hs.length)) = stuckL xs hs qs := by
  unfold stuckL
  rw [if_pos hr, leftL_filt]
  refine filtL_congr (fun i hi => ?_)
  rw [Bool.eq_iff_iff]
  unfold inJ
  rw [List.any_eq_true, decide_eq_true_iff]
  have hL : (i : Int) ∉ finR xs hs qs ↔ (i : Int) ∈ leftL hs.length (finR xs hs qs) := by
    rw [leftL_mem]
    exact ⟨fun h => ⟨by omega, by omega, h⟩, fun h => h.2.2⟩
  rw [hL, left_just hr hh]
  constructor
  · rintro ⟨m, hm, h⟩
    rw [Bool.and_eq_true] at h
    exact ⟨_, h.1, filtL_mem.2 ⟨by omega, by omega, by rw [Int.toNat_natCast]; exact h.2⟩⟩
  · rintro ⟨S, hd, hi'⟩
    obtain ⟨m, hm, hb⟩ := mask_all (fun k => decide ((k : Int) ∈ S)) hs.length
    refine ⟨m, List.mem_range.2 hm, ?_⟩
    rw [Bool.and_eq_true]
    refine ⟨dead_same (fun k hk => ?_) hd, ?_⟩
    · rw [hb k hk]; exact decide_eq_true_iff
    · rw [hb i hi]; exact dT hi'
end
theorem and_one : ∀ q : Fin 256, bits .and .i64 (q.val : Int) 1 = if q.val % 2 = 1 then 1 else 0 := by decide +kernel
theorem bit_run (m j : Nat) (h : m < 256) : bits .and .i64 ((m : Int) / 2 ^ j) 1 = if m.testBit j = true then 1 else 0 := by
  have hq : m / 2 ^ j < 256 := Nat.lt_of_le_of_lt (Nat.div_le_self _ _) h
  have e : (m : Int) / 2 ^ j = ((m / 2 ^ j : Nat) : Int) := by
    rw [Int.natCast_ediv]; simp
  rw [e, and_one ⟨m / 2 ^ j, hq⟩, Nat.testBit_eq_decide_div_mod_eq]
  simp

set_option maxRecDepth 100000 in
set_option maxHeartbeats 16000000 in
theorem just_law (n : Int) (vl : Value) (ls : List Int) (w : World) (hl : Sl w vl ls) :
    Calls Try.prog 6 #[.int .i64 n, vl] w fun e w' => e = .returned (.bool true) ∧ Below w.heap.size w w' := by
  have HLs := Lib.hid hl
  obtain ⟨la, lc, rfl⟩ := hl.form
  clear hl
  obtain ⟨L, hL⟩ : ∃ L, ls.length = L := ⟨_, rfl⟩
  have HLl := Lib.hid hL
  rw [hL] at HLs ⊢
  clear hL
  have HT : Hid (Touch [] w w) := Lib.hid (Touch.refl _ _)
  by_cases h0 : n < 0
  · have q0 : decide (n < 0) = true := dT (by omega)
    clear h0
    go_enter Try.func6, Try.ntmps6
    go_wp2_with fail
    refine (awake_any _).mono ?_
    rintro e wn ⟨rfl, ht⟩
    have HT := Lib.hid (HT.out.trans ht)
    clear ht
    go_wp2
    go_ret
    exact ⟨rfl, HT.out.below (Nat.le_refl _) (by simp)⟩
  have q0 : decide (n < 0) = false := dF (by omega)
  by_cases h1 : 7 < n
  · have q1 : decide (7 < n) = true := dT (by omega)
    clear h0 h1
    go_enter Try.func6, Try.ntmps6
    go_wp2_with fail
    refine (awake_any _).mono ?_
    rintro e wn ⟨rfl, ht⟩
    have HT := Lib.hid (HT.out.trans ht)
    clear ht
    go_wp2
    go_ret
    exact ⟨rfl, HT.out.below (Nat.le_refl _) (by simp)⟩
  have q1 : decide (7 < n) = false := dF (by omega)
  by_cases h2 : 60 < L
  · have q2 : decide (60 < (L : Int)) = true := dT (by omega)
    clear h0 h1 h2
    go_enter Try.func6, Try.ntmps6
    go_wp2_with fail
    refine (awake_any _).mono ?_
    rintro e wn ⟨rfl, ht⟩
    have HT := Lib.hid (HT.out.trans ht)
    clear ht
    go_wp2
    go_ret
    exact ⟨rfl, HT.out.below (Nat.le_refl _) (by simp)⟩
  have q2 : decide (60 < (L : Int)) = false := dF (by omega)
  obtain ⟨N, rfl⟩ : ∃ N : Nat, n = (N : Int) := ⟨n.toNat, by omega⟩
  have HN : Hid (N ≤ 12) := Lib.hid (by omega)
  have HL2 : Hid (ls.length ≤ 100) := Lib.hid (by rw [HLl.out]; omega)
  have q4 : decide (7 < N) = false := dF (by omega)
  have h7 : N ≤ 7 := by omega
  obtain ⟨M, hM⟩ : ∃ M : Nat, 2 ^ N = M := ⟨_, rfl⟩
  have hM1 : M ≤ 128 := by rw [← hM]; exact Nat.pow_le_pow_right (by omega) h7
  have hM0 : 1 ≤ M := by rw [← hM]; exact Nat.one_le_two_pow
  have HM := Lib.hid hM
  have vM : IntKind.i64.wrap ((2 : Int) ^ N) = (M : Int) := by
    rw [show (2 : Int) ^ N = (M : Int) from by rw [← hM]; simp]
    exact IntWalk.i64_in _ (by omega)
  have hmk := fun w => run_mk_bool (P := Try.prog) 32 4 Try.underlying32 (by kernel_rfl) N (by omega) w
  clear h0 h1 h2 hM
  go_enter Try.func6, Try.ntmps6
  go_wp2_with fail
  refine (state_any N _ ls _ HLs.out HL2.out HN.out).mono ?_
  rintro e ws ⟨va, vh, vc, rfl, a0, a1, hs, cs, ha0, ha1, sa, sh, sc, hln, cln, hrow, ht⟩
  have HSt : Hid (St2 N a0 a1 hs cs) := Lib.hid ⟨ha0, ha1, hln, cln, HN.out, hrow⟩
  have HT := Lib.hid ht
  have HA := Lib.hid sa
  have HH := Lib.hid sh
  have HC := Lib.hid sc
  have HTS : Hid (Touch [] ws ws) := Lib.hid (Touch.refl _ _)
  obtain ⟨aa, ca, hva⟩ := sa.form
  obtain ⟨ah, ch, hvh⟩ := sh.form
  obtain ⟨ac, cc, hvc⟩ := sc.form
  rw [show [a0, a1].length = 2 from rfl] at hva
  rw [hln] at hvh
  rw [cln] at hvc
  subst hva hvh hvc
  clear ha0 ha1 sa sh sc hln cln hrow ht
  go_wp2_with fail
  obtain ⟨g, hg⟩ : ∃ g, ws.heap.size = g := ⟨_, rfl⟩
  have HI0 : Hid (Blk (ws.alloc (.cells (boolA (fun _ => false) N) 4)) g (boolA (inJ [a0, a1] hs cs 1) N) 4) := Lib.hid
    (by rw [show inJ [a0, a1] hs cs 1 = fun _ => false from funext (fun i => inJ_one i)]; exact Blk.new hg.symm)
  have HTS0 : Hid (Touch [] ws (ws.alloc (.cells (boolA (fun _ => false) N) 4))) := Lib.hid ((Touch.refl _ _).alloc _)
  have HG : Hid (ws.heap.size ≤ g) := Lib.hid (by omega)
  have HSt0 := Lib.hid HSt.out.hl
  rw [hg]
  clear hg hmk
  go_loopw [9] (fun i wr => ∃ m : Nat, 1 ≤ m ∧ m ≤ M ∧ i = .int .i64 m ∧ Blk wr g (boolA (inJ [a0, a1] hs cs m) N) 4 ∧ Touch [] ws wr) (fun i _ => M + 1 - (intOf i).toNat)
  case atStart => exact ⟨1, by omega, by omega, rfl, HI0.out, HTS0.out⟩
  case round =>
    clear HI0 HTS0 HTS
    obtain ⟨m, hm1, hm2, rfl, hb, hts⟩ := hrel
    have HB := Lib.hid hb
    have HTS := Lib.hid hts
    have HT2 := Lib.hid (HT.out.trans hts)
    clear hb hts
    by_cases hmM : m < M
    · have hlt : (m : Int) < (M : Int) := by omega
      have HQ0 := Lib.hid (Qu.made (w := wr) (base := wr.heap.size) (e := 3) (b := wr.heap.size) (n := 0) (c := #[]) rfl (Nat.le_refl _) rfl (Nat.zero_le _))
      go_wp2_with fail
      go_loopw [10, 11] (fun lv i wi => ∃ j : Nat, j ≤ N ∧ i = .int .i64 j ∧ Qu wi wr.heap.size 3 lv ((maskL j m).map (Value.int .i64)) ∧ Touch [] wr wi) (fun _ i _ => N + 1 - (intOf i).toNat)
      case atStart => exact ⟨0, by omega, rfl, HQ0.out, (Touch.refl _ _).alloc _⟩
      case round =>
        clear HQ0
        obtain ⟨j, hj, rfl, hqo, ht⟩ := hrel
        have HQO := Lib.hid hqo
        have HTI := Lib.hid ht
        obtain ⟨oa, oc, hov⟩ := hqo.form
        subst hov
        obtain ⟨O, hO⟩ : ∃ O, (maskL j m).length = O := ⟨_, rfl⟩
        have HO := Lib.hid hO
        have hO2 : O ≤ j := by rw [← hO]; exact filtL_len j _
        rw [hO] at HQO ⊢
        by_cases hjn : j < N
        · have hlt : (j : Int) < (N : Int) := by omega
          have HLS : Hid (maskL (j + 1) m = maskL j m ++ if m.testBit j = true then [(j : Int)] else []) := Lib.hid (filtL_succ j _)
          have vb := bit_run m j (by omega)
          cases hbit : m.testBit j with
          | false =>
            rw [hbit] at vb HLS
            rw [if_neg (by decide)] at vb
            clear hqo ht hO hbit
            go_wp2
            go_roundw
            case rel => exact ⟨j + 1, by omega, by go_num, by rw [HLS.out, if_neg (by decide), List.append_nil]; exact HQO.out, HTI.out⟩
            case measure => simp [intOf]; omega
          | true =>
            rw [hbit] at vb HLS
            rw [if_pos rfl] at vb
            obtain ⟨v', w5, hrn, hq', hg5, hn5⟩ := Qu.appendI (ys := [(j : Int)]) (HQO.out.alloc (.cells #[.int .i64 j] 3)) (by have := ht.size; simp; omega) (sl1' wr (j : Int)) (by simp; omega)
            have t5 : Touch (Value.ownBlock (.slice oa O oc)).toList wr w5 := ((Touch.refl _ wr).alloc _).grown hg5 (fun k hk _ => Option.mem_toList.2 hk)
            have HT5 := Lib.hid (ht.transF t5 (fun i hi hlt => by have := (HQO.out.own i (Option.mem_toList.1 hi)).1; omega))
            have HQ5 := Lib.hid hq'
            obtain ⟨va', vc', hv'⟩ := Qu.form hq'
            rw [List.length_append, hO, show [(j : Int)].length = 1 from rfl] at hv'
            subst hv'
            clear hqo ht hO hbit hq' hg5 hn5 t5
            go_wp2_with (at_builtin; refine Lib.wpList_append_run _ rfl _ _ _ _ rfl _ _ rfl rfl _ _ (hrn _) ?_)
            go_roundw
            case rel => exact ⟨j + 1, by omega, by go_num, by rw [HLS.out, if_pos rfl]; exact HQ5.out, HT5.out⟩
            case measure => simp [intOf]; omega
        · have hlt : ¬ (j : Int) < (N : Int) := by omega
          obtain rfl : j = N := by omega
          have HMl : Hid ((maskL j m).length ≤ maxLen) := Lib.hid (by rw [hO]; unfold maxLen; omega)
          have HSet := Lib.hid (Qu.sl HQO.out)
          have HOwn : Hid (∀ k, Value.ownBlock (.slice oa O oc) = some k → k ≠ g) := Lib.hid (fun k hk => by have := (HQO.out.own k hk).1; have := HB.out.lt; omega)
          have HMem : Hid (∀ k, k < O → 0 ≤ (maskL j m).getD k 0 ∧ (maskL j m).getD k 0 < (j : Int)) := Lib.hid (fun k hk => by
            have hm' : (maskL j m).getD k 0 ∈ maskL j m := by rw [List.getD_eq_getElem?_getD, List.getElem?_eq_getElem (by omega)]; exact List.getElem_mem (by omega)
            have := filtL_mem.1 hm'
            exact ⟨this.1, this.2.1⟩)
          have HB := Lib.hid (HB.out.touch ht (by simp))
          have HTS := Lib.hid (HTS.out.trans ht)
          have HT2 := Lib.hid (HT2.out.trans ht)
          obtain ⟨b, hb⟩ : ∃ b, deadB [a0, a1] hs cs (maskL j m) = b := ⟨_, rfl⟩
          have HDb := Lib.hid hb
          have HJs : Hid (∀ i, inJ [a0, a1] hs cs (m + 1) i = (inJ [a0, a1] hs cs m i || (b && m.testBit i))) := Lib.hid (fun i => by rw [inJ_succ, HSt0.out, hb])
          clear hqo ht hO hb HTI HQO
          cases b with
          | false =>
            go_wp2_with fail
            refine (dead_any _ _ _ _ [a0, a1] hs cs (maskL j m) false _ (HA.out.touch HTS.out (by simp)) (HH.out.touch HTS.out) (HC.out.touch HTS.out) HSet.out HMl.out HDb.out).mono ?_
            rintro e w5 ⟨rfl, ht⟩
            have HB := Lib.hid (HB.out.touch ht (by simp))
            have HTS := Lib.hid (HTS.out.trans ht)
            clear ht
            go_wp2
            go_roundw
            case rel => exact ⟨m + 1, by omega, by omega, by go_num, by rw [show inJ [a0, a1] hs cs (m + 1) = inJ [a0, a1] hs cs m from funext (fun i => by rw [HJs.out i]; simp)]; exact HB.out, HTS.out⟩
            case measure => simp [intOf]; omega
          | true =>
            go_wp2_with fail
            refine (dead_any _ _ _ _ [a0, a1] hs cs (maskL j m) true _ (HA.out.touch HTS.out (by simp)) (HH.out.touch HTS.out) (HC.out.touch HTS.out) HSet.out HMl.out HDb.out).mono ?_
            rintro e w5 ⟨rfl, ht⟩
            have HB := Lib.hid (HB.out.touch ht (by simp))
            have HTS := Lib.hid (HTS.out.trans ht)
            have HSet := Lib.hid (HSet.out.touch ht (by simp))
            have HB1 : Hid (Blk w5 g (boolA (fun i => inJ [a0, a1] hs cs m i || decide ((i : Int) ∈ (maskL j m).take 0)) j) 4) := Lib.hid (by rw [boolA_congr (g := inJ [a0, a1] hs cs m) (fun i _ => by simp)]; exact HB.out)
            clear ht HT2 HB
            go_wp2_with fail
            go_loopw [12] (fun i wi => ∃ k : Nat, k ≤ O ∧ i = .int .i64 k ∧ Blk wi g (boolA (fun i => inJ [a0, a1] hs cs m i || decide ((i : Int) ∈ (maskL j m).take k)) j) 4 ∧ Touch [g] w5 wi ∧ Touch [] ws wi) (fun i _ => O + 1 - (intOf i).toNat)
            case atStart => exact ⟨0, by omega, rfl, HB1.out, Touch.refl _ _, HTS.out⟩
            case round =>
              clear HB1 HTS
              obtain ⟨k, hk, rfl, hb, htg, hts⟩ := hrel
              have HB := Lib.hid hb
              have HTG := Lib.hid htg
              have HTS := Lib.hid hts
              by_cases hkO : k < O
              · have hlt2 : (k : Int) < (O : Int) := by omega
                have SL := HSet.out.touch htg (fun q hq => by have := HOwn.out q hq; simpa using this)
                obtain ⟨gs, os, hgs, xc⟩ := SL.ix (q := k) (by rw [HO.out]; exact hkO)
                subst hgs
                obtain ⟨hx0, hx1⟩ := HMem.out k hkO
                obtain ⟨X, hX⟩ : ∃ X : Nat, (maskL j m).getD k 0 = (X : Int) := ⟨((maskL j m).getD k 0).toNat, by omega⟩
                have HTk : Hid ((maskL j m).take (k + 1) = (maskL j m).take k ++ [(X : Int)]) := Lib.hid (by rw [take_snoc' _ (by rw [HO.out]; exact hkO), hX])
                rw [hX] at xc hx1
                have hXj : X < j := by omega
                have x1 := xc _ (Touch.refl _ _)
                have c1 : wr.cell? ⟨g, X, none⟩ = some (.bool (inJ [a0, a1] hs cs m X || decide ((X : Int) ∈ (maskL j m).take k))) := hb.cell (boolA_get _ _ _ hXj)
                have f1 : wr.frozen? ⟨g, X, none⟩ = false := hb.free X
                have hb2 := hb.set X (.bool true)
                rw [boolA_set] at hb2
                have HB2 := Lib.hid hb2
                have HTS2 := Lib.hid (hts.setNew (p := ⟨g, X, none⟩) HG.out (.bool true))
                have HTG2 := Lib.hid (htg.setCell (p := ⟨g, X, none⟩) (by simp) (.bool true))
                clear hb htg hts SL xc hX hx0 hb2 HB HTS HTG
                go_wp2
                go_roundw
                case rel =>
                  refine ⟨k + 1, by omega, by go_num, ?_, HTG2.out, HTS2.out⟩
                  rw [boolA_congr (g := fun i => if i = X then true else (inJ [a0, a1] hs cs m i || decide ((i : Int) ∈ (maskL j m).take k))) (fun i _ => by
                    rw [HTk.out]
                    by_cases e : i = X
                    · subst e; simp
                    · rw [if_neg e]
                      congr 1
                      refine decide_eq_decide.2 ?_
                      rw [List.mem_append, List.mem_singleton]
                      exact ⟨fun h => h.elim id (fun h => absurd (by omega) e), .inl⟩)]
                  exact HB2.out
                case measure => simp [intOf]; omega
              · have hlt2 : ¬ (k : Int) < (O : Int) := by omega
                obtain rfl : k = O := by omega
                clear hb htg hts
                go_wp2
                go_roundw
                case rel =>
                  refine ⟨m + 1, by omega, by omega, by go_num, ?_, HTS.out⟩
                  rw [boolA_congr (g := fun i => inJ [a0, a1] hs cs m i || decide ((i : Int) ∈ (maskL j m).take k)) (fun i hi => by
                    rw [HJs.out i, List.take_of_length_le (by rw [HO.out]; omega), Bool.true_and]
                    congr 1
                    rw [Bool.eq_iff_iff, decide_eq_true_iff]
                    unfold maskL
                    rw [filtL_mem, Int.toNat_natCast]
                    exact ⟨fun h => ⟨by omega, by omega, h⟩, fun h => h.2.2⟩)]
                  exact HB.out
                case measure => simp [intOf]; omega
    · have hlt : ¬ (m : Int) < (M : Int) := by omega
      obtain rfl : m = M := by omega
      have HR : Hid (stuckL [a0, a1] hs cs = filtL N (inJ [a0, a1] hs cs m)) := Lib.hid (by
        rw [← just_mask HSt.out.rows HSt.out.nn, HSt0.out, HM.out])
      have HQ0 := Lib.hid (Qu.made (w := wr) (base := wr.heap.size) (e := 3) (b := wr.heap.size) (n := 0) (c := #[]) rfl (Nat.le_refl _) rfl (Nat.zero_le _))
      go_wp2_with fail
      go_loopw [13, 14] (fun lv i wi => ∃ j : Nat, j ≤ N ∧ i = .int .i64 j ∧ Qu wi wr.heap.size 3 lv ((filtL j (inJ [a0, a1] hs cs m)).map (Value.int .i64)) ∧ Touch [] wr wi) (fun _ i _ => N + 1 - (intOf i).toNat)
      case atStart => exact ⟨0, by omega, rfl, HQ0.out, (Touch.refl _ _).alloc _⟩
      case round =>
        clear HQ0
        obtain ⟨j, hj, rfl, hqo, ht⟩ := hrel
        have HQO := Lib.hid hqo
        have HTI := Lib.hid ht
        have HBI := Lib.hid (HB.out.touch ht (by simp))
        obtain ⟨oa, oc, hov⟩ := hqo.form
        subst hov
        obtain ⟨O, hO⟩ : ∃ O, (filtL j (inJ [a0, a1] hs cs m)).length = O := ⟨_, rfl⟩
        have HO := Lib.hid hO
        have hO2 : O ≤ j := by rw [← hO]; exact filtL_len j _
        rw [hO] at HQO ⊢
        by_cases hjn : j < N
        · have hlt : (j : Int) < (N : Int) := by omega
          have HLS := Lib.hid (filtL_succ j (inJ [a0, a1] hs cs m))
          obtain ⟨b, hb⟩ : ∃ b, inJ [a0, a1] hs cs m j = b := ⟨_, rfl⟩
          have y0 : wr.cell? ⟨g, j, none⟩ = some (.bool b) := by rw [← hb]; exact HBI.out.cell (boolA_get _ _ _ hjn)
          rw [hb] at HLS
          clear hb
          cases b with
          | false =>
            rw [if_neg (by decide), List.append_nil] at HLS
            clear hqo ht hO
            go_wp2
            go_roundw
            case rel => exact ⟨j + 1, by omega, by go_num, by rw [HLS.out]; exact HQO.out, HTI.out⟩
            case measure => simp [intOf]; omega
          | true =>
            rw [if_pos rfl] at HLS
            obtain ⟨v', w5, hrn, hq', hg5, hn5⟩ := Qu.appendI (ys := [(j : Int)]) (HQO.out.alloc (.cells #[.int .i64 j] 3)) (by have := ht.size; simp; omega) (sl1' wr (j : Int)) (by simp; omega)
            have t5 : Touch (Value.ownBlock (.slice oa O oc)).toList wr w5 := ((Touch.refl _ wr).alloc _).grown hg5 (fun k hk _ => Option.mem_toList.2 hk)
            have HT5 := Lib.hid (ht.transF t5 (fun i hi hlt => by have := (HQO.out.own i (Option.mem_toList.1 hi)).1; omega))
            have HQ5 := Lib.hid hq'
            obtain ⟨va', vc', hv'⟩ := Qu.form hq'
            rw [List.length_append, hO, show [(j : Int)].length = 1 from rfl] at hv'
            subst hv'
            clear hqo ht hO hq' hg5 hn5 t5
            go_wp2_with (at_builtin; refine Lib.wpList_append_run _ rfl _ _ _ _ rfl _ _ rfl rfl _ _ (hrn _) ?_)
            go_roundw
            case rel => exact ⟨j + 1, by omega, by go_num, by rw [HLS.out]; exact HQ5.out, HT5.out⟩
            case measure => simp [intOf]; omega
        · have hlt : ¬ (j : Int) < (N : Int) := by omega
          obtain rfl : j = N := by omega
          have HW := Lib.hid (Qu.sl HQO.out)
          have HTS := Lib.hid (HTS.out.trans ht)
          have HT := Lib.hid (HT2.out.trans ht)
          have HZ : Hid (O ≤ 32) := Lib.hid (by omega)
          obtain ⟨R, hR⟩ : ∃ R, filtL j (inJ [a0, a1] hs cs m) = R := ⟨_, rfl⟩
          rw [hR] at HW HR hO
          have HRl := Lib.hid hO
          have HR32 : Hid (R.length ≤ 32) := Lib.hid (by rw [hO]; exact HZ.out)
          clear hqo ht hO hR HQO HBI HB HT2 HO HTI
          go_wp2_with fail
          refine (stuck_l _ _ _ [a0, a1] hs cs R O _ (HA.out.touch HTS.out (by simp)) (HH.out.touch HTS.out) (HC.out.touch HTS.out) HR.out HRl.out).mono ?_
          rintro e wn ⟨sa1, sc1, rfl, hs1, ht⟩
          have HT := Lib.hid (HT.out.trans ht)
          have HTS := Lib.hid (HTS.out.trans ht)
          have HW := Lib.hid (HW.out.touch ht (by simp))
          have HS1 := Lib.hid hs1
          clear ht hs1
          go_wp2_with fail
          refine (ints_q _ _ R R true _ HS1.out HW.out (maxI HR32.out) (maxI HR32.out) (EqI_refl R)).mono ?_
          rintro e wn ⟨rfl, ht⟩
          have HT := Lib.hid (HT.out.trans ht)
          have HTS := Lib.hid (HTS.out.trans ht)
          clear ht
          go_wp2_with fail
          refine (awake_any _).mono ?_
          rintro e wn ⟨rfl, ht⟩
          have HT := Lib.hid (HT.out.trans ht)
          clear ht
          go_wp2
          go_ret
          exact ⟨rfl, HT.out.below (Nat.le_refl _) (by simp)⟩
end Go.Proofs.Ytjgdkaedfnihaaa
