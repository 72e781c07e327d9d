/-
  Layer 5: the laws walk.
-/
import Derived.Test.YtigbmhppknlinaaDoorIH
set_option linter.unusedVariables false
namespace Go.Proofs.YtigbmhppknlinaaDoor
open Go Go.RowKit

theorem emF {s : ByteArray} (h : ¬ s = ByteArray.empty) : s.toList.isEmpty = false := by
  cases e : s.toList with
  | nil =>
    rw [ByteArray.toList_eq] at e
    exact absurd (bytes_eq (by rw [e]; rfl)) h
  | cons a r => rfl
theorem nlF {s : ByteArray} (h : ¬ s = ByteArray.empty) : ¬ s.toList = [] := by
  intro e
  have := emF h
  rw [e] at this
  cases this
theorem nmZ_ne {op : Int} (h1 : 1 ≤ op) (h2 : op < 39) : ¬ nmZ op = ByteArray.empty := fun e => by
  have := congrArg (fun x : ByteArray => x.data.toList) e
  simp only [nmZ, nmS_list] at this
  exact nmB_ne (k := op.toNat) (by omega) (by omega) this
set_option maxHeartbeats 8000000 in
set_option maxRecDepth 100000 in
theorem asks_any (op : Int) (hw : (Lit.int .i64 op).wf = true) (w : World) (hv : Vs w) : Calls Tryd.prog 3 #[.int .i64 op] w (TrueP w) := by
  have HV := Lib.hid hv
  clear hv hw
  have hne : Hid ((isZ op = true ∧ ¬ nmZ op = ByteArray.empty) ∨ (isZ op = false ∧ nmZ op = ByteArray.empty)) := Lib.hid (by
    by_cases h : 1 ≤ op ∧ op < 39
    · exact .inl ⟨isZ_t h.1 h.2, nmZ_ne h.1 h.2⟩
    · exact .inr ⟨isZ_f (by omega), nmZ_out (by omega)⟩)
  go_enter Tryd.func3, Tryd.ntmps3
  go_wp2_with fail
  refine (is_any op _).mono ?_
  rintro e w1 ⟨rfl, rfl⟩
  go_wp2_with fail
  refine (rname_any op _).mono ?_
  rintro e w1 ⟨rfl, ht1⟩
  have HT1 := Lib.hid ht1
  clear ht1
  obtain ⟨b, hb⟩ : ∃ b, isZ op = b := ⟨_, rfl⟩
  rw [hb] at hne ⊢
  obtain ⟨s, hs⟩ : ∃ s, nmZ op = s := ⟨_, rfl⟩
  rw [hs] at hne ⊢
  have HS := Lib.hid hs
  clear hb hs
  rcases hne.out with ⟨hb, hs⟩ | ⟨hb, hs⟩
  · subst hb
    have h1 := emF hs
    have h2 := nlF hs
    clear hne
    go_wp2_with fail
    refine (operands_any op _ (HV.out.touch HT1.out)).mono ?_
    rintro e w2 ⟨rfl, rfl⟩
    go_wp2_with fail
    refine (roperands_any op _).mono ?_
    rintro e w2 ⟨rfl, rfl⟩
    go_wp2_with fail
    refine (pops_any op _ (HV.out.touch HT1.out)).mono ?_
    rintro e w2 ⟨rfl, rfl⟩
    go_wp2_with fail
    refine (rpops_any op _).mono ?_
    rintro e w2 ⟨rfl, rfl⟩
    go_wp2_with fail
    refine (pushes_any op _ (HV.out.touch HT1.out)).mono ?_
    rintro e w2 ⟨rfl, rfl⟩
    go_wp2_with fail
    refine (rpushes_any op _).mono ?_
    rintro e w2 ⟨rfl, rfl⟩
    go_wp2_with fail
    refine (name_any op _ (HV.out.touch HT1.out)).mono ?_
    rintro e w2 ⟨rfl, rfl⟩
    go_wp2_with fail
    refine (rname_any op _).mono ?_
    rintro e w2 ⟨rfl, ht2⟩
    have HT2 := Lib.hid (HT1.out.trans ht2)
    clear ht2
    go_wp2_with fail
    refine (awake_any _ (HV.out.touch HT2.out)).mono ?_
    rintro e w3 ⟨rfl, ht3⟩
    have HT3 := Lib.hid (HT2.out.trans ht3)
    clear ht3
    go_wp2
    go_ret
    exact ⟨rfl, HT3.out⟩
  · subst hb
    subst hs
    clear hne
    go_wp2_with fail
    refine (operands_any op _ (HV.out.touch HT1.out)).mono ?_
    rintro e w2 ⟨rfl, rfl⟩
    go_wp2_with fail
    refine (roperands_any op _).mono ?_
    rintro e w2 ⟨rfl, rfl⟩
    go_wp2_with fail
    refine (pops_any op _ (HV.out.touch HT1.out)).mono ?_
    rintro e w2 ⟨rfl, rfl⟩
    go_wp2_with fail
    refine (rpops_any op _).mono ?_
    rintro e w2 ⟨rfl, rfl⟩
    go_wp2_with fail
    refine (pushes_any op _ (HV.out.touch HT1.out)).mono ?_
    rintro e w2 ⟨rfl, rfl⟩
    go_wp2_with fail
    refine (rpushes_any op _).mono ?_
    rintro e w2 ⟨rfl, rfl⟩
    go_wp2_with fail
    refine (name_any op _ (HV.out.touch HT1.out)).mono ?_
    rintro e w2 ⟨rfl, rfl⟩
    go_wp2_with fail
    refine (rname_any op _).mono ?_
    rintro e w2 ⟨rfl, ht2⟩
    have HT2 := Lib.hid (HT1.out.trans ht2)
    clear ht2
    go_wp2_with fail
    refine (awake_any _ (HV.out.touch HT2.out)).mono ?_
    rintro e w3 ⟨rfl, ht3⟩
    have HT3 := Lib.hid (HT2.out.trans ht3)
    clear ht3
    go_wp2
    go_ret
    exact ⟨rfl, HT3.out⟩
theorem opOf_in {op : Int} (h1 : 1 ≤ op) (h2 : op < 39) : opOf (nmZ op) = op := opOf_nmB h1 h2
theorem nmZ_inj {a b : Int} (ha1 : 1 ≤ a) (ha2 : a < 39) (h : nmZ a = nmZ b) : a = b := by
  by_cases hb : b < 1 ∨ 39 ≤ b
  · rw [nmZ_out hb] at h
    exact absurd h (nmZ_ne ha1 ha2)
  · have := nmS_inj (j := a.toNat) (k := b.toNat) (by omega) (by omega) h
    omega
theorem nmZ_of {s : ByteArray} {n : Int} (h : opOf s = n) (h0 : ¬ n = 0) : nmZ n = s := by
  rcases opOf_cases s with ⟨e, _⟩ | ⟨k, h1, h2, h3, h4⟩
  · omega
  · rw [← h, h4, h3]
    unfold nmZ
    rw [Int.toNat_natCast]
set_option maxHeartbeats 8000000 in
set_option maxRecDepth 100000 in
theorem names_any (a b : Int) (s : ByteArray) (ha : (Lit.int .i64 a).wf = true) (hb : (Lit.int .i64 b).wf = true) (hs : s.size ≤ maxLen) (w : World) (hv : Vs w) : Calls Tryd.prog 4 #[.int .i64 a, .int .i64 b, .string s] w (TrueP w) := by
  have HV := Lib.hid hv
  clear hv ha hb hs
  obtain ⟨n, hn⟩ : ∃ n, opOf s = n := ⟨_, rfl⟩
  have HN := Lib.hid hn
  clear hn
  rcases (by
    by_cases hin : 1 ≤ a ∧ a < 39
    · by_cases hab : a = b
      · exact .inr (.inl ⟨hin.1, hin.2, hab⟩)
      · exact .inr (.inr ⟨hin.1, hin.2, hab⟩)
    · exact .inl (by omega) : (a < 1 ∨ 39 ≤ a) ∨ (1 ≤ a ∧ a < 39 ∧ a = b) ∨ (1 ≤ a ∧ a < 39 ∧ ¬ a = b)) with ho | ⟨h1, h2, hab⟩ | ⟨h1, h2, hab⟩
  · have hx := nmZ_out ho
    have HX := Lib.hid hx
    clear hx ho
    go_enter Tryd.func4, Tryd.ntmps4
    go_wp2_with fail
    refine (name_any a _ HV.out).mono ?_
    rintro e w1 ⟨rfl, rfl⟩
    rw [HX.out]
    go_wp2_with fail
    refine (name_any b _ HV.out).mono ?_
    rintro e w1 ⟨rfl, rfl⟩
    have HT1 := Lib.hid (Touch.refl [] w)
    go_wp2_with fail
    refine (op_any s _ (HV.out.touch HT1.out)).mono ?_
    rintro e w2 ⟨rfl, ht2⟩
    rw [HN.out]
    have HT2 := Lib.hid (HT1.out.trans ht2)
    clear ht2
    by_cases h0 : n = 0
    · subst h0
      go_wp2_with fail
      refine (rop_any s _).mono ?_
      rintro e w3 ⟨rfl, ht3⟩
      rw [HN.out]
      have HT3 := Lib.hid (HT2.out.trans ht3)
      clear ht3
      go_wp2_with fail
      refine (awake_any _ (HV.out.touch HT3.out)).mono ?_
      rintro e w4 ⟨rfl, ht4⟩
      have HT4 := Lib.hid (HT3.out.trans ht4)
      clear ht4
      go_wp2
      go_ret
      exact ⟨rfl, HT4.out⟩
    · have h0' : (n == 0) = false := beqF h0
      have HZ := Lib.hid (nmZ_of HN.out h0)
      clear h0
      go_wp2_with fail
      refine (name_any n _ (HV.out.touch HT2.out)).mono ?_
      rintro e w3 ⟨rfl, rfl⟩
      rw [HZ.out]
      go_wp2_with fail
      refine (rop_any s _).mono ?_
      rintro e w3 ⟨rfl, ht3⟩
      rw [HN.out]
      have HT3 := Lib.hid (HT2.out.trans ht3)
      clear ht3
      go_wp2_with fail
      refine (awake_any _ (HV.out.touch HT3.out)).mono ?_
      rintro e w4 ⟨rfl, ht4⟩
      have HT4 := Lib.hid (HT3.out.trans ht4)
      clear ht4
      go_wp2
      go_ret
      exact ⟨rfl, HT4.out⟩
  · subst hab
    obtain ⟨x, hx⟩ : ∃ x, nmZ a = x := ⟨_, rfl⟩
    have he := emF (s := x) (by rw [← hx]; exact nmZ_ne h1 h2)
    have hl := nlF (s := x) (by rw [← hx]; exact nmZ_ne h1 h2)
    have HO : Hid (opOf x = a) := Lib.hid (by rw [← hx]; exact opOf_in h1 h2)
    have HX := Lib.hid hx
    clear hx
    go_enter Tryd.func4, Tryd.ntmps4
    go_wp2_with fail
    refine (name_any a _ HV.out).mono ?_
    rintro e w1 ⟨rfl, rfl⟩
    rw [HX.out]
    go_wp2_with fail
    refine (name_any a _ HV.out).mono ?_
    rintro e w1 ⟨rfl, rfl⟩
    rw [HX.out]
    go_wp2_with fail
    refine (op_any x _ HV.out).mono ?_
    rintro e w1 ⟨rfl, ht1⟩
    rw [HO.out]
    have HT1 := Lib.hid ht1
    clear ht1
    go_wp2_with fail
    refine (op_any s _ (HV.out.touch HT1.out)).mono ?_
    rintro e w2 ⟨rfl, ht2⟩
    rw [HN.out]
    have HT2 := Lib.hid (HT1.out.trans ht2)
    clear ht2
    by_cases h0 : n = 0
    · subst h0
      go_wp2_with fail
      refine (rop_any s _).mono ?_
      rintro e w3 ⟨rfl, ht3⟩
      rw [HN.out]
      have HT3 := Lib.hid (HT2.out.trans ht3)
      clear ht3
      go_wp2_with fail
      refine (awake_any _ (HV.out.touch HT3.out)).mono ?_
      rintro e w4 ⟨rfl, ht4⟩
      have HT4 := Lib.hid (HT3.out.trans ht4)
      clear ht4
      go_wp2
      go_ret
      exact ⟨rfl, HT4.out⟩
    · have h0' : (n == 0) = false := beqF h0
      have HZ := Lib.hid (nmZ_of HN.out h0)
      clear h0
      go_wp2_with fail
      refine (name_any n _ (HV.out.touch HT2.out)).mono ?_
      rintro e w3 ⟨rfl, rfl⟩
      rw [HZ.out]
      go_wp2_with fail
      refine (rop_any s _).mono ?_
      rintro e w3 ⟨rfl, ht3⟩
      rw [HN.out]
      have HT3 := Lib.hid (HT2.out.trans ht3)
      clear ht3
      go_wp2_with fail
      refine (awake_any _ (HV.out.touch HT3.out)).mono ?_
      rintro e w4 ⟨rfl, ht4⟩
      have HT4 := Lib.hid (HT3.out.trans ht4)
      clear ht4
      go_wp2
      go_ret
      exact ⟨rfl, HT4.out⟩
  · obtain ⟨x, hx⟩ : ∃ x, nmZ a = x := ⟨_, rfl⟩
    obtain ⟨y, hy⟩ : ∃ y, nmZ b = y := ⟨_, rfl⟩
    have he := emF (s := x) (by rw [← hx]; exact nmZ_ne h1 h2)
    have hl := nlF (s := x) (by rw [← hx]; exact nmZ_ne h1 h2)
    have hxy := strF (a := x) (b := y) (by rw [← hx, ← hy]; exact fun e => hab (nmZ_inj h1 h2 e))
    have HO : Hid (opOf x = a) := Lib.hid (by rw [← hx]; exact opOf_in h1 h2)
    have HX := Lib.hid hx
    have HY := Lib.hid hy
    clear hx hy hab
    go_enter Tryd.func4, Tryd.ntmps4
    go_wp2_with fail
    refine (name_any a _ HV.out).mono ?_
    rintro e w1 ⟨rfl, rfl⟩
    rw [HX.out]
    go_wp2_with fail
    refine (name_any b _ HV.out).mono ?_
    rintro e w1 ⟨rfl, rfl⟩
    rw [HY.out]
    go_wp2_with fail
    refine (op_any x _ HV.out).mono ?_
    rintro e w1 ⟨rfl, ht1⟩
    rw [HO.out]
    have HT1 := Lib.hid ht1
    clear ht1
    go_wp2_with fail
    refine (op_any s _ (HV.out.touch HT1.out)).mono ?_
    rintro e w2 ⟨rfl, ht2⟩
    rw [HN.out]
    have HT2 := Lib.hid (HT1.out.trans ht2)
    clear ht2
    by_cases h0 : n = 0
    · subst h0
      go_wp2_with fail
      refine (rop_any s _).mono ?_
      rintro e w3 ⟨rfl, ht3⟩
      rw [HN.out]
      have HT3 := Lib.hid (HT2.out.trans ht3)
      clear ht3
      go_wp2_with fail
      refine (awake_any _ (HV.out.touch HT3.out)).mono ?_
      rintro e w4 ⟨rfl, ht4⟩
      have HT4 := Lib.hid (HT3.out.trans ht4)
      clear ht4
      go_wp2
      go_ret
      exact ⟨rfl, HT4.out⟩
    · have h0' : (n == 0) = false := beqF h0
      have HZ := Lib.hid (nmZ_of HN.out h0)
      clear h0
      go_wp2_with fail
      refine (name_any n _ (HV.out.touch HT2.out)).mono ?_
      rintro e w3 ⟨rfl, rfl⟩
      rw [HZ.out]
      go_wp2_with fail
      refine (rop_any s _).mono ?_
      rintro e w3 ⟨rfl, ht3⟩
      rw [HN.out]
      have HT3 := Lib.hid (HT2.out.trans ht3)
      clear ht3
      go_wp2_with fail
      refine (awake_any _ (HV.out.touch HT3.out)).mono ?_
      rintro e w4 ⟨rfl, ht4⟩
      have HT4 := Lib.hid (HT3.out.trans ht4)
      clear ht4
      go_wp2
      go_ret
      exact ⟨rfl, HT4.out⟩
/-- What is read of a text that is one instruction's, or none's. -/
theorem rd_textZ (op a b : Int) (ha : InI a) (hb : InI b) : rd (textZ op a b) = if isZ op = true then some (op, if 0 < opZ op then a else 0, if 1 < opZ op then b else 0) else none := by
  by_cases h : 1 ≤ op ∧ op < 39
  · rw [if_pos (isZ_t h.1 h.2)]; exact rd_text h.1 h.2 ha hb
  · rw [if_neg (by rw [isZ_f (by omega)]; simp)]
    have e : textZ op a b = mk [] := by
      unfold textZ
      rw [opZ_out (by omega)]
      show nmZ op = _
      rw [nmZ_out (by omega)]; rfl
    rw [e]
    unfold rd
    rw [mk_list]
    simp only [words, rdW]
    rw [if_pos opOf_empty]
set_option maxHeartbeats 8000000 in
set_option maxRecDepth 100000 in
theorem texts_any (op a b : Int) (ho : (Lit.int .i64 op).wf = true) (ha : (Lit.int .i64 a).wf = true) (hb : (Lit.int .i64 b).wf = true) (w : World) (hv : Vs w) : Calls Tryd.prog 5 #[.int .i64 op, .int .i64 a, .int .i64 b] w (TrueP w) := by
  have HV := Lib.hid hv
  have HA := Lib.hid (inI_of ha)
  have HB := Lib.hid (inI_of hb)
  have hrd := rd_textZ op a b HA.out HB.out
  obtain ⟨s, hs⟩ : ∃ s, textZ op a b = s := ⟨_, rfl⟩
  rw [hs] at hrd
  have HS := Lib.hid hs
  have HR := Lib.hid hrd
  have hsz : s.size ≤ 60 := by rw [← hs]; exact tk_size op HA.out HB.out _
  have hem : isZ op = false → s = ByteArray.empty := fun e => by
    rw [← hs]
    have : op < 1 ∨ 39 ≤ op := by
      by_cases h : 1 ≤ op ∧ op < 39
      · rw [isZ_t h.1 h.2] at e; cases e
      · omega
    unfold textZ
    rw [opZ_out this]
    show nmZ op = _
    rw [nmZ_out this]
  have HE := Lib.hid hem
  have hb7 : Blk (w.alloc (.cells #[.int .i64 op, .int .i64 a, .int .i64 b] 29)) w.heap.size #[.int .i64 op, .int .i64 a, .int .i64 b] 29 := Blk.new rfl
  have HB7 := Lib.hid hb7
  have HT0 := Lib.hid ((Touch.refl [] w).alloc (.cells #[.int .i64 op, .int .i64 a, .int .i64 b] 29))
  clear hv ha hb hs hrd hem hb7 ho
  go_enter Tryd.func5, Tryd.ntmps5
  go_wp2_with fail
  refine (text_any op a b HA.out HB.out _ (HV.out.touch HT0.out)).mono ?_
  rintro e w1 ⟨rfl, ht1⟩
  rw [HS.out]
  have hb7 := HB7.out.touch ht1 (by simp)
  have c0 := hb7.cell (i := 0) rfl
  have c1 := hb7.cell (i := 1) rfl
  have c2 := hb7.cell (i := 2) rfl
  have HT1 := Lib.hid (HT0.out.trans ht1)
  clear ht1 hb7
  go_wp2_with fail
  refine (rtext_any op a b HA.out HB.out _ (HV.out.touch HT1.out)).mono ?_
  rintro e w2 ⟨rfl, ht2⟩
  rw [HS.out]
  have HT2 := Lib.hid (HT1.out.trans ht2)
  clear ht2 c0 c1 c2
  go_wp2_with fail
  refine (read_any s (by omega) _ (HV.out.touch HT2.out)).mono ?_
  rintro e w3 ⟨rfl, ht3⟩
  rw [HR.out]
  have HT3 := Lib.hid (HT2.out.trans ht3)
  clear ht3
  by_cases hz : isZ op = true
  · rw [if_pos hz]
    simp only [rdV]
    obtain ⟨x, hx⟩ : ∃ x, (if 0 < opZ op then a else 0) = x := ⟨_, rfl⟩
    obtain ⟨y, hy⟩ : ∃ y, (if 1 < opZ op then b else 0) = y := ⟨_, rfl⟩
    rw [hx, hy]
    have h02 := opT_02 op.toNat
    obtain ⟨q, hq⟩ : ∃ q : Nat, opZ op = (q : Int) := ⟨(opZ op).toNat, by unfold opZ; omega⟩
    have hq2 : q ≤ 2 := by unfold opZ at hq; omega
    rw [hq] at hx hy
    have HX := Lib.hid hx
    have HY := Lib.hid hy
    have HZ := Lib.hid hz
    have HQ := Lib.hid hq
    have hb9 : Blk (w3.alloc (.cells #[.int .i64 op, .int .i64 x, .int .i64 y] 29)) w3.heap.size #[.int .i64 op, .int .i64 x, .int .i64 y] 29 := Blk.new rfl
    have HB9 := Lib.hid hb9
    clear hx hy hz hq h02 hb9
    go_wp2_with fail
    refine (is_any op _).mono ?_
    rintro e w4 ⟨rfl, rfl⟩
    rw [HZ.out]
    go_wp2_with fail
    refine (roperands_any op _).mono ?_
    rintro e w4 ⟨rfl, rfl⟩
    rw [HQ.out]
    rcases (by omega : q = 0 ∨ q = 1 ∨ q = 2) with rfl | rfl | rfl
    all_goals
      have hx := HX.out
      have hy := HY.out
      simp at hx hy
      subst hx
      subst hy
      clear HX HY
      go_wp2_with fail
      refine (roperands_any op _).mono ?_
      rintro e w4 ⟨rfl, rfl⟩
      rw [HQ.out]
      go_wp2_with fail
      refine (awake_any _ (HV.out.touch ((HT3.out.alloc _).alloc _))).mono ?_
      rintro e w5 ⟨rfl, ht5⟩
      have HT5 := Lib.hid (((HT3.out.alloc _).alloc _).trans ht5)
      clear ht5
      go_wp2
      go_ret
      exact ⟨rfl, HT5.out⟩
  · rw [if_neg hz]
    simp only [rdV]
    have hz' : isZ op = false := by cases h : isZ op with | true => exact absurd h hz | false => rfl
    have hse := HE.out hz'
    have HZ := Lib.hid hz'
    clear hz hz' HS HR HE
    subst hse
    go_wp2_with fail
    refine (is_any op _).mono ?_
    rintro e w4 ⟨rfl, rfl⟩
    rw [HZ.out]
    go_wp2_with fail
    refine (awake_any _ (HV.out.touch (HT3.out.alloc _))).mono ?_
    rintro e w5 ⟨rfl, ht5⟩
    have HT5 := Lib.hid ((HT3.out.alloc _).trans ht5)
    clear ht5
    go_wp2
    go_ret
    exact ⟨rfl, HT5.out⟩
set_option maxHeartbeats 8000000 in
set_option maxRecDepth 100000 in
theorem reads_any (s : ByteArray) (hs : s.size ≤ maxLen) (w : World) (hv : Vs w) : Calls Tryd.prog 6 #[.string s] w (TrueP w) := by
  have HV := Lib.hid hv
  clear hv
  unfold maxLen at hs
  by_cases hbig : 300 < s.size
  · go_enter Tryd.func6, Tryd.ntmps6
    go_wp2_with fail
    refine (awake_any _ HV.out).mono ?_
    rintro e w5 ⟨rfl, ht5⟩
    have HT5 := Lib.hid ht5
    clear ht5
    go_wp2
    go_ret
    exact ⟨rfl, HT5.out⟩
  · have hsz : s.size ≤ 300 := by omega
    clear hbig
    cases hr : rd s with
    | none =>
      have HR := Lib.hid hr
      clear hr
      go_enter Tryd.func6, Tryd.ntmps6
      go_wp2_with fail
      refine (read_any s (by omega) _ HV.out).mono ?_
      rintro e w1 ⟨rfl, ht1⟩
      rw [HR.out]
      simp only [rdV]
      have HT1 := Lib.hid (ht1.alloc (.cells #[.int .i64 0, .int .i64 0, .int .i64 0] 29))
      have hb1 : Blk (w1.alloc (.cells #[.int .i64 0, .int .i64 0, .int .i64 0] 29)) w1.heap.size #[.int .i64 0, .int .i64 0, .int .i64 0] 29 := Blk.new rfl
      have HB1 := Lib.hid hb1
      clear ht1 hb1
      go_wp2_with fail
      refine (rread_any s (by omega) _ (HV.out.touch HT1.out)).mono ?_
      rintro e w2 ⟨rfl, ht2⟩
      rw [HR.out]
      simp only [rdV]
      have HT2 := Lib.hid ((HT1.out.trans ht2).alloc (.cells #[.int .i64 0, .int .i64 0, .int .i64 0] 29))
      have hb1 := (HB1.out.touch ht2 (by simp)).alloc (.cells #[.int .i64 0, .int .i64 0, .int .i64 0] 29)
      have c0 := hb1.cell (i := 0) rfl
      have c1 := hb1.cell (i := 1) rfl
      have c2 := hb1.cell (i := 2) rfl
      clear ht2 hb1
      go_wp2_with fail
      refine (awake_any _ (HV.out.touch HT2.out)).mono ?_
      rintro e w5 ⟨rfl, ht5⟩
      have HT5 := Lib.hid (HT2.out.trans ht5)
      clear ht5
      go_wp2
      go_ret
      exact ⟨rfl, HT5.out⟩
    | some x =>
      obtain ⟨op, a, b⟩ := x
      obtain ⟨ht, h1, h2, hia, hib⟩ := rd_some hr
      have HX := Lib.hid ht
      have HA := Lib.hid hia
      have HB := Lib.hid hib
      have HR := Lib.hid hr
      clear hr ht hia hib
      go_enter Tryd.func6, Tryd.ntmps6
      go_wp2_with fail
      refine (read_any s (by omega) _ HV.out).mono ?_
      rintro e w1 ⟨rfl, ht1⟩
      rw [HR.out]
      simp only [rdV]
      have HT1 := Lib.hid (ht1.alloc (.cells #[.int .i64 op, .int .i64 a, .int .i64 b] 29))
      have hb1 : Blk (w1.alloc (.cells #[.int .i64 op, .int .i64 a, .int .i64 b] 29)) w1.heap.size #[.int .i64 op, .int .i64 a, .int .i64 b] 29 := Blk.new rfl
      have HB1 := Lib.hid hb1
      clear ht1 hb1
      go_wp2_with fail
      refine (rread_any s (by omega) _ (HV.out.touch HT1.out)).mono ?_
      rintro e w2 ⟨rfl, ht2⟩
      rw [HR.out]
      simp only [rdV]
      have HT2 := Lib.hid ((HT1.out.trans ht2).alloc (.cells #[.int .i64 op, .int .i64 a, .int .i64 b] 29))
      have hb1 := (HB1.out.touch ht2 (by simp)).alloc (.cells #[.int .i64 op, .int .i64 a, .int .i64 b] 29)
      have c0 := hb1.cell (i := 0) rfl
      have c1 := hb1.cell (i := 1) rfl
      have c2 := hb1.cell (i := 2) rfl
      clear ht2 hb1
      go_wp2_with fail
      refine (text_any op a b HA.out HB.out _ (HV.out.touch HT2.out)).mono ?_
      rintro e w3 ⟨rfl, ht3⟩
      rw [HX.out]
      have HT3 := Lib.hid (HT2.out.trans ht3)
      clear ht3
      go_wp2_with fail
      refine (awake_any _ (HV.out.touch HT3.out)).mono ?_
      rintro e w5 ⟨rfl, ht5⟩
      have HT5 := Lib.hid (HT3.out.trans ht5)
      clear ht5
      go_wp2
      go_ret
      exact ⟨rfl, HT5.out⟩
end Go.Proofs.YtigbmhppknlinaaDoor
