/-
  Layer 17: the law of lists walks.
-/
import Derived.Test.YtgdpjkhkgdcfjaaDoorEI
import Derived.Test.YtgdpjkhkgdcfjaaDoorV2
import Derived.Lib.AppendZeros
import Derived.Deep.AppendSrc
set_option linter.unusedVariables false
namespace Go.Proofs.YtgdpjkhkgdcfjaaDoor
open Go Go.RowKit Go.ChangeShapes Go.WideShapes Go.Deep

theorem arg_cap {H : Type} {enc : TypeId × Value → H} {P : Program} {w : World} {base : Nat} {spare : Nat → Bool} {held : Bool} {t e : TypeId} {fuel : Nat} {a : Option Addr} {len cap : Nat} {x : DataW H × List MemPlace} (ht : P.underlying t = some (.slice e))
    (h : DataW.trod enc P w base spare held fuel t (Value.slice a len cap).cells.toList = some x) : len ≤ cap ∧ cap ≤ maxLen := by
  rcases open_slice ht h with ⟨hcs, _⟩ | ⟨a', len', cap', m, n, D, Pl, hcs, hb, hl, hm, _⟩
  · simp [Value.cells] at hcs
    obtain ⟨rfl, rfl, rfl⟩ := hcs
    exact ⟨Nat.le_refl _, Nat.zero_le _⟩
  · simp [Value.cells] at hcs
    obtain ⟨rfl, rfl, rfl⟩ := hcs
    exact ⟨hl, hm⟩
def IsB (vr v' : Value) (wr w' : World) : Prop := vr = v' ∧ wr = w'
theorem wpList_append_want {P : Program} (w : World) {ops : Array Oper} {rest : List Oper} {o : Oper} {a : Act} {Q : Exit → Act → World → Prop} (hw : Region.wanted o (yielded ops a.tmps) = true) (s x : Operand) (t tn : TypeId)
    (ho : o.op = .call { callee := .builtin .append, args := #[s, x], argTypes := #[t, tn] }) (vs vx : Value) (hs : a.eval s = vs) (hx : a.eval x = vx)
    (v' : Value) (w' : World) (hr : (Builtin.append_ #[t, tn] o.type #[vs, vx]).run P w = .ok v' w') (h : ∀ vr wr, IsB vr v' wr w' → wpList P ops Q rest (a.put o.dst vr) wr) : wpList P ops Q (o :: rest) a w :=
  wpList_step fun K hK => by
    rw [if_pos hw]
    exact Lib.wp_append_run w s x t tn ho vs vx hs hx v' w' hr (hK _ _ (h _ _ ⟨rfl, rfl⟩))
def fV (z : Nat → Nat → Int) : Nat → Nat → Value := fun i j => .int .i64 (z i j)
theorem Slr.src {w : World} {v : Value} {n : Nat} {z : Nat → Nat → Int} (h : Slr w v n 5 z) : Src Tryd.prog 5 31 v n (flatV 5 n (fV z)) w := by
  obtain ⟨a, cap, rfl, h⟩ := h
  rcases h with rfl | ⟨g, off, rfl, hg, hc⟩
  · have e : flatV 5 0 (fV z) = [] := by simp [flatV]
    rw [e]
    cases a with
    | none => exact Src.ofNil _ Tryd.underlying31 cap
    | some a => exact Src.ofSlice _ Tryd.underlying31 a 0 cap [] (by simp) (fun j u hu => by simp at hu) (fun u hu => by simp at hu)
  · refine Src.ofSlice _ Tryd.underlying31 ⟨g, off, none⟩ n cap _ (flatV_len _ _ _) (fun j u hu => ?_) (flatV_one _ _ (by omega) _ (fun _ _ _ _ => rfl))
    obtain ⟨q1, q2, rfl⟩ := flatV_get 5 n (by omega) (fV z) hu
    have := hc _ q1 _ q2
    rw [show j / 5 * 5 + j % 5 = j from Nat.div_add_mod' j 5] at this
    rw [addr_add (s := none)]
    exact this
theorem infoEv : ∃ (i : TypeInfo) (z : Value), Tryd.prog.info? 23 = some i ∧ i.zero = some z ∧ i.size = 5 ∧ i.bytes = 40 ∧ z.cells.size = 5 := by
  obtain ⟨i, h0, h1, h2, h3⟩ := info_parts (show (Tryd.prog.info? 23).map (fun i => (i.zero, i.size, i.bytes)) = some (some (.agg #[.int .i64 0, .int .i64 0, .int .i64 0, .int .i64 0, .int .i64 0]), 5, 40) from by kernel_rfl)
  exact ⟨i, _, h0, h1, h2, h3, rfl⟩
def catZ (z : Nat → Nat → Int) (n : Nat) (y : Nat → Nat → Int) : Nat → Nat → Int := fun i j => if i < n then z i j else y (i - n) j
theorem pre_cat (n m : Nat) (z y : Nat → Nat → Int) : preL n (n + m) z (catZ z n y) = true := decide_eq_true ⟨by omega, fun i hi j hj => by unfold catZ; rw [if_pos hi]⟩
theorem pre_self (k n : Nat) (z : Nat → Nat → Int) (h : k ≤ n) : preL k n z z = true := decide_eq_true ⟨h, fun i hi j hj => rfl⟩
structure TwoBorn (wq : World) (v u : Value) (n m : Nat) (z y : Nat → Nat → Int) (v1 : Value) (w1 : World) (a2 : Option Addr) (c2 : Nat) (w2 : World) : Prop where
  r1 : ∀ ty, (Builtin.append_ #[31, 31] ty #[.slice (some ⟨wq.heap.size, 0, none⟩) 0 0, v]).run Tryd.prog (wq.alloc (.cells #[] 23)) = .ok v1 w1
  r2 : ∀ ty, (Builtin.append_ #[31, 31] ty #[v1, u]).run Tryd.prog w1 = .ok (.slice a2 (n + m) c2) w2
  tw : Touch [] wq w2
  sl : Slr w2 (.slice a2 (n + m) c2) (n + m) 5 (catZ z n y)
  le : n + m ≤ c2
  mx : c2 ≤ maxLen
theorem two_born (wq : World) (v u : Value) (n m : Nat) (z y : Nat → Nat → Int) (hv : Slr wq v n 5 z) (hu : Slr wq u m 5 y) (hn : n ≤ 200) (hm : m ≤ 200) : ∃ v1 w1 a2 c2 w2, TwoBorn wq v u n m z y v1 w1 a2 c2 w2 := by
  obtain ⟨i, zz, hi, hz, h5, h40, hz5⟩ := infoEv
  have t1 : Touch [] wq (wq.alloc (.cells #[] 23)) := (Touch.refl _ _).alloc _
  have A0 : Av (wq.alloc (.cells #[] 23)) wq.heap.size 23 5 (.slice (some ⟨wq.heap.size, 0, none⟩) 0 0) 0 (fV z) :=
    .inr ⟨wq.heap.size, 0, #[], rfl, Nat.le_refl _, Blk.new rfl, Nat.le_refl _, Nat.zero_le _, Nat.zero_le _, fun i hi => by omega⟩
  obtain ⟨v1, w1, r1, A1, g1, o1⟩ := Av.appendN (t := 31) Tryd.underlying31 hi hz h5 h40 hz5 (by omega) A0 (by simp) (hv.touch t1).src (by omega) (by omega)
  have t2 : Touch [] wq w1 := t1.transF (Touch.grown (S := [wq.heap.size]) (Touch.refl _ _) g1 (fun k hk _ => by simp [Value.ownBlock] at hk; simp [hk])) (fun k hk hl => by simp at hk; omega)
  have hs1 := t2.size
  obtain ⟨v2, w2, r2, A2, g2, o2⟩ := Av.appendN (t := 31) Tryd.underlying31 hi hz h5 h40 hz5 (by omega) A1 (by omega) (hu.touch t2).src (by omega) (by omega)
  have t4 : Touch [] wq w2 := t2.transF (Touch.grown (S := v1.ownBlock.toList) (Touch.refl _ _) g2 (fun k hk _ => by simp [hk])) (fun k hk hl => by have := (A1.own k (by simpa using hk)).1; omega)
  rw [Nat.zero_add] at A2
  have ev : ∀ a, a < n + m → ∀ j, j < 5 → catV (catV (fV z) 0 (fV z)) n (fV y) a j = .int .i64 (catZ z n y a j) := fun a ha j hj => by
    unfold catZ
    by_cases h : a < n
    · rw [catV_old _ _ _ h, catV_new _ _ _ (by omega), Nat.sub_zero, if_pos h]; rfl
    · rw [catV_new _ _ _ h, if_neg h]; rfl
  rcases A2 with ⟨rfl, h0⟩ | ⟨g, cap, cur, rfl, hb, hg, h1, h2, h3, h4⟩
  · have e0 : n + m = 0 := h0
    refine ⟨v1, w1, none, 0, w2, r1, fun ty => by rw [e0]; exact r2 ty, t4, ⟨none, 0, rfl, .inl e0⟩, by omega, Nat.zero_le _⟩
  · exact ⟨v1, w1, _, cap, w2, r1, r2, t4, ⟨_, cap, rfl, .inr ⟨g, 0, rfl, hg.lt, fun i hi j hj => by rw [Nat.zero_add]; exact hg.cell ((h4 i hi j hj).trans (by rw [ev i hi j hj]))⟩⟩, h1, h2⟩
set_option maxHeartbeats 32000000 in
set_option maxRecDepth 100000 in
theorem lists_big (v u : Value) (n m : Nat) (cut : Int) (z y : Nat → Nat → Int) (w : World) (hv : Slr w v n 5 z) (hu : Slr w u m 5 y) (h : 200 < n ∨ 200 < m) (hV : Vs w) : Calls Tryd.prog 5 #[v, u, .int .i64 cut] w (TrueP w) := by
  obtain ⟨va, vc, rfl⟩ := hv.form
  obtain ⟨ua, uc, rfl⟩ := hu.form
  by_cases h1 : 200 < n
  · have h1' : decide ((200 : Int) < (n : Int)) = true := dT (by omega)
    go_enter Tryd.func5, Tryd.ntmps5
    go_wp2_with fail
    refine (awake_any _ hV).mono ?_
    rintro e w5 ⟨rfl, ht5⟩
    have HT5 := Lib.hid ht5
    clear ht5
    go_wp2
    go_ret
    exact ⟨rfl, HT5.out⟩
  · have h1' : decide ((200 : Int) < (n : Int)) = false := dF (by omega)
    have h2' : decide ((200 : Int) < (m : Int)) = true := dT (by omega)
    go_enter Tryd.func5, Tryd.ntmps5
    go_wp2_with fail
    refine (awake_any _ hV).mono ?_
    rintro e w5 ⟨rfl, ht5⟩
    have HT5 := Lib.hid ht5
    clear ht5
    go_wp2
    go_ret
    exact ⟨rfl, HT5.out⟩
def cutK (n : Nat) (cut : Int) : Nat := if 0 < n ∧ 0 < cut then (cut % ((n : Int) + 1)).toNat else 0
set_option maxHeartbeats 32000000 in
set_option maxRecDepth 100000 in
theorem lists_in (va ua : Option Addr) (n vc m uc : Nat) (cut : Int) (z y : Nat → Nat → Int) (w : World) (hv : Slr w (.slice va n vc) n 5 z) (hu : Slr w (.slice ua m uc) m 5 y) (hn : n ≤ 200) (hm : m ≤ 200) (hc : n ≤ vc) (hc2 : m ≤ uc) (hx : vc ≤ maxLen) (hx2 : uc ≤ maxLen) (hi : InI cut) (hV : Vs w) : Calls Tryd.prog 5 #[.slice va n vc, .slice ua m uc, .int .i64 cut] w (TrueP w) := by
  have n1 : decide ((200 : Int) < (n : Int)) = false := dF (by omega)
  have n2 : decide ((200 : Int) < (m : Int)) = false := dF (by omega)
  have HV := Lib.hid hv
  have HU := Lib.hid hu
  have HW := Lib.hid hV
  clear hv hu hV
  unfold maxLen at hx hx2
  rcases (by by_cases h : 0 < n
             · by_cases h2 : 0 < cut
               · exact .inl ⟨h, h2⟩
               · exact .inr (.inl ⟨h, h2⟩)
             · exact .inr (.inr (by omega)) : (0 < n ∧ 0 < cut) ∨ (0 < n ∧ ¬ 0 < cut) ∨ n = 0) with ⟨hn0, hcut⟩ | ⟨hn0, hcut⟩ | hn0
  · obtain ⟨k, hk, hkn⟩ : ∃ k : Nat, Int.tmod cut ((n : Int) + 1) = (k : Int) ∧ k ≤ n := by
      have h1 := Int.emod_nonneg cut (b := (n : Int) + 1) (by omega)
      have h2 := Int.emod_lt_of_pos cut (b := (n : Int) + 1) (by omega)
      exact ⟨(cut % ((n : Int) + 1)).toNat, by rw [Int.tmod_eq_emod_of_nonneg (by omega)]; omega, by omega⟩
    have c1 : decide ((0 : Int) < (n : Int)) = true := dT (by omega)
    have c2 : decide ((0 : Int) < cut) = true := dT (by omega)
    go_enter Tryd.func5, Tryd.ntmps5
    go_wp2_with fail
    refine (same_any _ _ n m z y _ HV.out HU.out (by omega) (by omega)).mono ?_
    rintro e w1 ⟨rfl, ht1⟩
    obtain ⟨b1, hb1⟩ : ∃ b, eqL n m z y = b := ⟨_, rfl⟩
    rw [hb1]
    have HB1 := Lib.hid hb1
    have HT1 := Lib.hid ht1
    clear hb1 ht1
    go_wp2_with fail
    refine (revents_any _ _ n m z y _ (HV.out.touch HT1.out) (HU.out.touch HT1.out) (by omega) (by omega)).mono ?_
    rintro e w2 ⟨rfl, ht2⟩
    rw [HB1.out]
    have HT2 := Lib.hid (HT1.out.trans ht2)
    clear ht2 HB1
    go_wp2_with fail
    refine (prefix_any _ _ n m _ uc z y _ (HV.out.touch HT2.out) (HU.out.touch HT2.out) (by omega) (by omega) (by omega)).mono ?_
    rintro e w3 ⟨rfl, ht3⟩
    obtain ⟨b2, hb2⟩ : ∃ b, preL n m z y = b := ⟨_, rfl⟩
    rw [hb2]
    have HB2 := Lib.hid hb2
    have HT3 := Lib.hid (HT2.out.trans ht3)
    clear hb2 ht3
    go_wp2_with fail
    refine (rprefix_any _ _ n m z y _ (HV.out.touch HT3.out) (HU.out.touch HT3.out) (by omega) (by omega)).mono ?_
    rintro e w4 ⟨rfl, ht4⟩
    rw [HB2.out]
    have HT4 := Lib.hid (HT3.out.trans ht4)
    clear ht4 HB2
    go_wp2_with fail
    refine (prefix_any _ _ k n _ vc z z _ ((HV.out.touch HT4.out).take (by omega) _) (HV.out.touch HT4.out) (by omega) (by omega) (by omega)).mono ?_
    rintro e w5 ⟨rfl, ht5⟩
    rw [pre_self _ _ _ (by omega)]
    have HT5 := Lib.hid (HT4.out.trans ht5)
    clear ht5
    obtain ⟨v1, x1, a2, cc2, x2, hbn⟩ := two_born w5 (.slice va n vc) (.slice ua m uc) n m z y (HV.out.touch HT5.out) (HU.out.touch HT5.out) (by omega) (by omega)
    have HB := Lib.hid hbn
    clear hbn
    have HT6 := Lib.hid (HT5.out.trans HB.out.tw)
    go_wp2_with (at_builtin; refine wpList_append_want _ (by rfl) _ _ _ _ rfl _ _ rfl rfl _ _ (HB.out.r1 _) ?_)
    rintro _ _ ⟨rfl, rfl⟩
    go_wp2_with (at_builtin; refine wpList_append_want _ (by rfl) _ _ _ _ rfl _ _ rfl rfl _ _ (HB.out.r2 _) ?_)
    rintro _ _ ⟨rfl, rfl⟩
    go_wp2_with fail
    refine (prefix_any _ _ n (n + m) _ cc2 z (catZ z n y) _ (HV.out.touch HT6.out) HB.out.sl (by omega) HB.out.le (by have := HB.out.mx; unfold maxLen at this; omega)).mono ?_
    rintro e w7 ⟨rfl, ht7⟩
    rw [pre_cat]
    have HT7 := Lib.hid (HT6.out.trans ht7)
    clear ht7
    go_wp2_with fail
    refine (outputs_any _ n z _ (HV.out.touch HT7.out) (by omega)).mono ?_
    rintro e w8 ⟨o1, rfl, hq1, ht8⟩
    have HT8 := Lib.hid (HT7.out.trans ht8)
    have HQ1 := Lib.hid hq1
    clear hq1 ht8
    go_wp2_with fail
    refine (routputs_any _ n z _ (HV.out.touch HT8.out) (by omega)).mono ?_
    rintro e w9 ⟨o2, rfl, hq2, ht9⟩
    have HT9 := Lib.hid (HT8.out.trans ht9)
    have HQ2 := Lib.hid hq2
    have HQ3 := Lib.hid (HQ1.out.touch ht9 (fun _ _ => by simp))
    clear hq2 ht9
    have hol := outL_len z n
    go_wp2_with fail
    refine (ints_any _ _ _ _ _ HQ3.out.sl HQ2.out.sl (by omega) (by omega)).mono ?_
    rintro e wA ⟨rfl, mm, rfl⟩
    rw [eqI_refl]
    have HTA := Lib.hid (HT9.out.drewN mm)
    go_wp2_with fail
    refine (awake_any _ (HW.out.touch HTA.out)).mono ?_
    rintro e wB ⟨rfl, htB⟩
    have HTB := Lib.hid (HTA.out.trans htB)
    clear htB
    go_wp2
    go_ret
    exact ⟨rfl, HTB.out⟩
  · have c1 : decide ((0 : Int) < (n : Int)) = true := dT (by omega)
    have c2 : decide ((0 : Int) < cut) = false := dF (by omega)
    go_enter Tryd.func5, Tryd.ntmps5
    go_wp2_with fail
    refine (same_any _ _ n m z y _ HV.out HU.out (by omega) (by omega)).mono ?_
    rintro e w1 ⟨rfl, ht1⟩
    obtain ⟨b1, hb1⟩ : ∃ b, eqL n m z y = b := ⟨_, rfl⟩
    rw [hb1]
    have HB1 := Lib.hid hb1
    have HT1 := Lib.hid ht1
    clear hb1 ht1
    go_wp2_with fail
    refine (revents_any _ _ n m z y _ (HV.out.touch HT1.out) (HU.out.touch HT1.out) (by omega) (by omega)).mono ?_
    rintro e w2 ⟨rfl, ht2⟩
    rw [HB1.out]
    have HT2 := Lib.hid (HT1.out.trans ht2)
    clear ht2 HB1
    go_wp2_with fail
    refine (prefix_any _ _ n m _ uc z y _ (HV.out.touch HT2.out) (HU.out.touch HT2.out) (by omega) (by omega) (by omega)).mono ?_
    rintro e w3 ⟨rfl, ht3⟩
    obtain ⟨b2, hb2⟩ : ∃ b, preL n m z y = b := ⟨_, rfl⟩
    rw [hb2]
    have HB2 := Lib.hid hb2
    have HT3 := Lib.hid (HT2.out.trans ht3)
    clear hb2 ht3
    go_wp2_with fail
    refine (rprefix_any _ _ n m z y _ (HV.out.touch HT3.out) (HU.out.touch HT3.out) (by omega) (by omega)).mono ?_
    rintro e w4 ⟨rfl, ht4⟩
    rw [HB2.out]
    have HT4 := Lib.hid (HT3.out.trans ht4)
    clear ht4 HB2
    go_wp2_with fail
    refine (prefix_any _ _ 0 n _ vc z z _ ((HV.out.touch HT4.out).take (by omega) _) (HV.out.touch HT4.out) (by omega) (by omega) (by omega)).mono ?_
    rintro e w5 ⟨rfl, ht5⟩
    rw [pre_self _ _ _ (by omega)]
    have HT5 := Lib.hid (HT4.out.trans ht5)
    clear ht5
    obtain ⟨v1, x1, a2, cc2, x2, hbn⟩ := two_born w5 (.slice va n vc) (.slice ua m uc) n m z y (HV.out.touch HT5.out) (HU.out.touch HT5.out) (by omega) (by omega)
    have HB := Lib.hid hbn
    clear hbn
    have HT6 := Lib.hid (HT5.out.trans HB.out.tw)
    go_wp2_with (at_builtin; refine wpList_append_want _ (by rfl) _ _ _ _ rfl _ _ rfl rfl _ _ (HB.out.r1 _) ?_)
    rintro _ _ ⟨rfl, rfl⟩
    go_wp2_with (at_builtin; refine wpList_append_want _ (by rfl) _ _ _ _ rfl _ _ rfl rfl _ _ (HB.out.r2 _) ?_)
    rintro _ _ ⟨rfl, rfl⟩
    go_wp2_with fail
    refine (prefix_any _ _ n (n + m) _ cc2 z (catZ z n y) _ (HV.out.touch HT6.out) HB.out.sl (by omega) HB.out.le (by have := HB.out.mx; unfold maxLen at this; omega)).mono ?_
    rintro e w7 ⟨rfl, ht7⟩
    rw [pre_cat]
    have HT7 := Lib.hid (HT6.out.trans ht7)
    clear ht7
    go_wp2_with fail
    refine (outputs_any _ n z _ (HV.out.touch HT7.out) (by omega)).mono ?_
    rintro e w8 ⟨o1, rfl, hq1, ht8⟩
    have HT8 := Lib.hid (HT7.out.trans ht8)
    have HQ1 := Lib.hid hq1
    clear hq1 ht8
    go_wp2_with fail
    refine (routputs_any _ n z _ (HV.out.touch HT8.out) (by omega)).mono ?_
    rintro e w9 ⟨o2, rfl, hq2, ht9⟩
    have HT9 := Lib.hid (HT8.out.trans ht9)
    have HQ2 := Lib.hid hq2
    have HQ3 := Lib.hid (HQ1.out.touch ht9 (fun _ _ => by simp))
    clear hq2 ht9
    have hol := outL_len z n
    go_wp2_with fail
    refine (ints_any _ _ _ _ _ HQ3.out.sl HQ2.out.sl (by omega) (by omega)).mono ?_
    rintro e wA ⟨rfl, mm, rfl⟩
    rw [eqI_refl]
    have HTA := Lib.hid (HT9.out.drewN mm)
    go_wp2_with fail
    refine (awake_any _ (HW.out.touch HTA.out)).mono ?_
    rintro e wB ⟨rfl, htB⟩
    have HTB := Lib.hid (HTA.out.trans htB)
    clear htB
    go_wp2
    go_ret
    exact ⟨rfl, HTB.out⟩
  · have c1 : decide ((0 : Int) < (n : Int)) = false := dF (by omega)
    have hn1 : ¬ 0 < n := by omega
    clear hn0
    go_enter Tryd.func5, Tryd.ntmps5
    go_wp2_with fail
    refine (same_any _ _ n m z y _ HV.out HU.out (by omega) (by omega)).mono ?_
    rintro e w1 ⟨rfl, ht1⟩
    obtain ⟨b1, hb1⟩ : ∃ b, eqL n m z y = b := ⟨_, rfl⟩
    rw [hb1]
    have HB1 := Lib.hid hb1
    have HT1 := Lib.hid ht1
    clear hb1 ht1
    go_wp2_with fail
    refine (revents_any _ _ n m z y _ (HV.out.touch HT1.out) (HU.out.touch HT1.out) (by omega) (by omega)).mono ?_
    rintro e w2 ⟨rfl, ht2⟩
    rw [HB1.out]
    have HT2 := Lib.hid (HT1.out.trans ht2)
    clear ht2 HB1
    go_wp2_with fail
    refine (prefix_any _ _ n m _ uc z y _ (HV.out.touch HT2.out) (HU.out.touch HT2.out) (by omega) (by omega) (by omega)).mono ?_
    rintro e w3 ⟨rfl, ht3⟩
    obtain ⟨b2, hb2⟩ : ∃ b, preL n m z y = b := ⟨_, rfl⟩
    rw [hb2]
    have HB2 := Lib.hid hb2
    have HT3 := Lib.hid (HT2.out.trans ht3)
    clear hb2 ht3
    go_wp2_with fail
    refine (rprefix_any _ _ n m z y _ (HV.out.touch HT3.out) (HU.out.touch HT3.out) (by omega) (by omega)).mono ?_
    rintro e w4 ⟨rfl, ht4⟩
    rw [HB2.out]
    have HT4 := Lib.hid (HT3.out.trans ht4)
    clear ht4 HB2
    go_wp2_with fail
    refine (prefix_any _ _ 0 n _ vc z z _ ((HV.out.touch HT4.out).take (by omega) _) (HV.out.touch HT4.out) (by omega) (by omega) (by omega)).mono ?_
    rintro e w5 ⟨rfl, ht5⟩
    rw [pre_self _ _ _ (by omega)]
    have HT5 := Lib.hid (HT4.out.trans ht5)
    clear ht5
    obtain ⟨v1, x1, a2, cc2, x2, hbn⟩ := two_born w5 (.slice va n vc) (.slice ua m uc) n m z y (HV.out.touch HT5.out) (HU.out.touch HT5.out) (by omega) (by omega)
    have HB := Lib.hid hbn
    clear hbn
    have HT6 := Lib.hid (HT5.out.trans HB.out.tw)
    go_wp2_with (at_builtin; refine wpList_append_want _ (by rfl) _ _ _ _ rfl _ _ rfl rfl _ _ (HB.out.r1 _) ?_)
    rintro _ _ ⟨rfl, rfl⟩
    go_wp2_with (at_builtin; refine wpList_append_want _ (by rfl) _ _ _ _ rfl _ _ rfl rfl _ _ (HB.out.r2 _) ?_)
    rintro _ _ ⟨rfl, rfl⟩
    go_wp2_with fail
    refine (prefix_any _ _ n (n + m) _ cc2 z (catZ z n y) _ (HV.out.touch HT6.out) HB.out.sl (by omega) HB.out.le (by have := HB.out.mx; unfold maxLen at this; omega)).mono ?_
    rintro e w7 ⟨rfl, ht7⟩
    rw [pre_cat]
    have HT7 := Lib.hid (HT6.out.trans ht7)
    clear ht7
    go_wp2_with fail
    refine (outputs_any _ n z _ (HV.out.touch HT7.out) (by omega)).mono ?_
    rintro e w8 ⟨o1, rfl, hq1, ht8⟩
    have HT8 := Lib.hid (HT7.out.trans ht8)
    have HQ1 := Lib.hid hq1
    clear hq1 ht8
    go_wp2_with fail
    refine (routputs_any _ n z _ (HV.out.touch HT8.out) (by omega)).mono ?_
    rintro e w9 ⟨o2, rfl, hq2, ht9⟩
    have HT9 := Lib.hid (HT8.out.trans ht9)
    have HQ2 := Lib.hid hq2
    have HQ3 := Lib.hid (HQ1.out.touch ht9 (fun _ _ => by simp))
    clear hq2 ht9
    have hol := outL_len z n
    go_wp2_with fail
    refine (ints_any _ _ _ _ _ HQ3.out.sl HQ2.out.sl (by omega) (by omega)).mono ?_
    rintro e wA ⟨rfl, mm, rfl⟩
    rw [eqI_refl]
    have HTA := Lib.hid (HT9.out.drewN mm)
    go_wp2_with fail
    refine (awake_any _ (HW.out.touch HTA.out)).mono ?_
    rintro e wB ⟨rfl, htB⟩
    have HTB := Lib.hid (HTA.out.trans htB)
    clear htB
    go_wp2
    go_ret
    exact ⟨rfl, HTB.out⟩
theorem lists_any (va : Option Addr) (n vc : Nat) (z : Nat → Nat → Int) (ua : Option Addr) (m uc : Nat) (y : Nat → Nat → Int) (cut : Int) (w : World) (hv : Slr w (.slice va n vc) n 5 z) (hc : n ≤ vc ∧ vc ≤ maxLen) (hu : Slr w (.slice ua m uc) m 5 y) (hc2 : m ≤ uc ∧ uc ≤ maxLen) (hi : (Lit.int .i64 cut).wf = true) (hV : Vs w) : Calls Tryd.prog 5 #[.slice va n vc, .slice ua m uc, .int .i64 cut] w (TrueP w) := by
  by_cases h : 200 < n ∨ 200 < m
  · exact lists_big _ _ n m cut z y w hv hu h hV
  · exact lists_in va ua n vc m uc cut z y w hv hu (by omega) (by omega) hc.1 hc2.1 hc.2 hc2.2 (inI_of hi) hV
end Go.Proofs.YtgdpjkhkgdcfjaaDoor
