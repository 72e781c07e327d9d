/-
  Layer 17: the laws of texts walk.
-/
import Derived.Test.YtgdpjkhkgdcfjaaDoorEI
set_option linter.unusedVariables false
namespace Go.Proofs.YtgdpjkhkgdcfjaaDoor
open Go Go.RowKit

theorem rdE_empty : rdE ByteArray.empty = none := rdE_len (by decide +kernel)
theorem textE_size {at' kind pid a b : Int} (h0 : InI at') (h1 : InI pid) (h2 : InI a) (h3 : InI b) : (textE at' kind pid a b).size ≤ 120 := by
  unfold textE
  split
  · decide
  · rw [← tkE_3]; exact tkE_size h0 h1 h2 h3 3
theorem txE_ne {at' kind pid a b : Int} : ¬ txE at' kind pid a b = ByteArray.empty := by
  intro h
  have := congrArg (fun x : ByteArray => x.data.toList) h
  simp [txE, mk] at this
set_option maxHeartbeats 8000000 in
set_option maxRecDepth 100000 in
theorem texts_any (at' kind pid a b : Int) (hat : (Lit.int .i64 at').wf = true) (hk : (Lit.int .i64 kind).wf = true) (hp : (Lit.int .i64 pid).wf = true) (ha : (Lit.int .i64 a).wf = true) (hb : (Lit.int .i64 b).wf = true) (w : World) (hv : Vs w) : Calls Tryd.prog 3 #[.int .i64 at', .int .i64 kind, .int .i64 pid, .int .i64 a, .int .i64 b] w (TrueP w) := by
  have HV := Lib.hid hv
  have HI0 := Lib.hid (inI_of hat)
  have HI1 := Lib.hid (inI_of hp)
  have HA := Lib.hid (inI_of ha)
  have HB := Lib.hid (inI_of hb)
  have hsz := textE_size (kind := kind) HI0.out HI1.out HA.out HB.out
  have hcs : (textE at' kind pid a b = ByteArray.empty) ∨ (¬ textE at' kind pid a b = ByteArray.empty ∧ rdE (textE at' kind pid a b) = some (at', kind, pid, a, b)) := by
    by_cases h : kind < 1 ∨ 7 ≤ kind
    · exact .inl (textE_out h)
    · rw [textE_in (by omega) (by omega)]
      exact .inr ⟨txE_ne, rdE_text (by omega) (by omega) HI0.out HI1.out HA.out HB.out⟩
  obtain ⟨s, hs⟩ : ∃ s, textE at' kind pid a b = s := ⟨_, rfl⟩
  rw [hs] at hsz hcs
  obtain ⟨k, hkz⟩ : ∃ k, evZ kind = k := ⟨_, rfl⟩
  have HS := Lib.hid hs
  have HK := Lib.hid hkz
  have HC := Lib.hid hcs
  have hb7 : Blk (w.alloc (.cells #[.int .i64 at', .int .i64 kind, .int .i64 pid, .int .i64 a, .int .i64 b] 23)) w.heap.size #[.int .i64 at', .int .i64 kind, .int .i64 pid, .int .i64 a, .int .i64 b] 23 := Blk.new rfl
  have HB7 := Lib.hid hb7
  have HT0 := Lib.hid ((Touch.refl [] w).alloc (.cells #[.int .i64 at', .int .i64 kind, .int .i64 pid, .int .i64 a, .int .i64 b] 23))
  clear hv hat hk hp ha hb hs hkz hcs hb7
  go_enter Tryd.func3, Tryd.ntmps3
  go_wp2_with fail
  refine (etext_any at' kind pid a b HI0.out HI1.out HA.out HB.out _ (HV.out.touch HT0.out)).mono ?_
  rintro e w1 ⟨rfl, ht1⟩
  rw [HS.out]
  have hb7 := HB7.out.touch ht1 (by simp)
  have c0 := hb7.cell (i := 0) rfl
  have c1 := hb7.cell (i := 1) rfl
  have c2 := hb7.cell (i := 2) rfl
  have c3 := hb7.cell (i := 3) rfl
  have c4 := hb7.cell (i := 4) rfl
  have HB8 := Lib.hid hb7
  have HT1 := Lib.hid (HT0.out.trans ht1)
  clear ht1 hb7
  go_wp2_with fail
  refine (retext_any at' kind pid a b HI0.out HI1.out HA.out HB.out _ (HV.out.touch HT1.out)).mono ?_
  rintro e w2 ⟨rfl, ht2⟩
  rw [HS.out]
  have HB9 := Lib.hid (HB8.out.touch ht2 (by simp))
  have HT2 := Lib.hid (HT1.out.trans ht2)
  clear ht2 c0 c1 c2 c3 c4
  go_wp2_with fail
  refine (ename_any kind _ (HV.out.touch HT2.out)).mono ?_
  rintro e w3 ⟨rfl, rfl⟩
  rw [HK.out]
  go_wp2_with fail
  refine (rename_any kind _).mono ?_
  rintro e w3 ⟨rfl, ht3⟩
  rw [HK.out]
  have HB10 := Lib.hid (HB9.out.touch ht3 (by simp))
  have HT3 := Lib.hid (HT2.out.trans ht3)
  clear ht3
  go_wp2_with fail
  refine (eread_any s (by omega) _ (HV.out.touch HT3.out)).mono ?_
  rintro e w4 ⟨rfl, ht4⟩
  have HT4 := Lib.hid (HT3.out.trans ht4)
  have HB11 := Lib.hid (HB10.out.touch ht4 (by simp))
  clear ht4
  rcases HC.out with hse | ⟨hne, hrd⟩
  · subst hse
    rw [rdE_empty]
    simp only [rdEV]
    clear HC HS
    have hem : ByteArray.empty.toList = [] := by rw [ByteArray.toList_eq]; rfl
    go_wp2_with fail
    refine (awake_any _ (HV.out.touch (HT4.out.alloc _))).mono ?_
    rintro e w5 ⟨rfl, ht5⟩
    have HT5 := Lib.hid ((HT4.out.alloc _).trans ht5)
    clear ht5
    go_wp2
    go_ret
    exact ⟨rfl, HT5.out⟩
  · rw [hrd]
    simp only [rdEV]
    have hem := emF hne
    have hnl := nlF hne
    have hb7 := HB11.out.alloc (.cells #[.int .i64 at', .int .i64 kind, .int .i64 pid, .int .i64 a, .int .i64 b] 23)
    have c0 := hb7.cell (i := 0) rfl
    have c1 := hb7.cell (i := 1) rfl
    have c2 := hb7.cell (i := 2) rfl
    have c3 := hb7.cell (i := 3) rfl
    have c4 := hb7.cell (i := 4) rfl
    clear HC HS hne hrd hb7
    go_wp2_with fail
    refine (awake_any _ (HV.out.touch (HT4.out.alloc _))).mono ?_
    rintro e w5 ⟨rfl, ht5⟩
    have HT5 := Lib.hid ((HT4.out.alloc _).trans ht5)
    clear ht5
    go_wp2
    go_ret
    exact ⟨rfl, HT5.out⟩
set_option maxHeartbeats 8000000 in
set_option maxRecDepth 100000 in
theorem reads_any (s : ByteArray) (hs : s.size ≤ maxLen) (w : World) (hv : Vs w) : Calls Tryd.prog 4 #[.string s] w (TrueP w) := by
  have HV := Lib.hid hv
  clear hv
  unfold maxLen at hs
  by_cases hbig : 300 < s.size
  · go_enter Tryd.func4, Tryd.ntmps4
    go_wp2_with fail
    refine (awake_any _ HV.out).mono ?_
    rintro e w5 ⟨rfl, ht5⟩
    have HT5 := Lib.hid ht5
    clear ht5
    go_wp2
    go_ret
    exact ⟨rfl, HT5.out⟩
  · have hsz : s.size ≤ 300 := by omega
    clear hbig
    cases hr : rdE s with
    | none =>
      have HR := Lib.hid hr
      clear hr
      go_enter Tryd.func4, Tryd.ntmps4
      go_wp2_with fail
      refine (eread_any s (by omega) _ HV.out).mono ?_
      rintro e w1 ⟨rfl, ht1⟩
      rw [HR.out]
      simp only [rdEV]
      have HT1 := Lib.hid (ht1.alloc (.cells #[.int .i64 0, .int .i64 0, .int .i64 0, .int .i64 0, .int .i64 0] 23))
      have hb1 : Blk (w1.alloc (.cells #[.int .i64 0, .int .i64 0, .int .i64 0, .int .i64 0, .int .i64 0] 23)) w1.heap.size #[.int .i64 0, .int .i64 0, .int .i64 0, .int .i64 0, .int .i64 0] 23 := Blk.new rfl
      have HB1 := Lib.hid hb1
      clear ht1 hb1
      go_wp2_with fail
      refine (reread_any s (by omega) _ (HV.out.touch HT1.out)).mono ?_
      rintro e w2 ⟨rfl, ht2⟩
      rw [HR.out]
      simp only [rdEV]
      have HT2 := Lib.hid ((HT1.out.trans ht2).alloc (.cells #[.int .i64 0, .int .i64 0, .int .i64 0, .int .i64 0, .int .i64 0] 23))
      have hb1 := (HB1.out.touch ht2 (by simp)).alloc (.cells #[.int .i64 0, .int .i64 0, .int .i64 0, .int .i64 0, .int .i64 0] 23)
      have c0 := hb1.cell (i := 0) rfl
      have c1 := hb1.cell (i := 1) rfl
      have c2 := hb1.cell (i := 2) rfl
      have c3 := hb1.cell (i := 3) rfl
      have c4 := hb1.cell (i := 4) rfl
      clear ht2 hb1
      go_wp2_with fail
      refine (awake_any _ (HV.out.touch HT2.out)).mono ?_
      rintro e w5 ⟨rfl, ht5⟩
      have HT5 := Lib.hid (HT2.out.trans ht5)
      clear ht5
      go_wp2
      go_ret
      exact ⟨rfl, HT5.out⟩
    | some x =>
      obtain ⟨at', kind, pid, a, b⟩ := x
      obtain ⟨ht, h1, h2, hi0, hi1, hia, hib⟩ := rdE_some hr
      rw [← textE_in h1 h2] at ht
      have HX := Lib.hid ht
      have HI0 := Lib.hid hi0
      have HI1 := Lib.hid hi1
      have HA := Lib.hid hia
      have HB := Lib.hid hib
      have HR := Lib.hid hr
      clear hr ht hi0 hi1 hia hib
      go_enter Tryd.func4, Tryd.ntmps4
      go_wp2_with fail
      refine (eread_any s (by omega) _ HV.out).mono ?_
      rintro e w1 ⟨rfl, ht1⟩
      rw [HR.out]
      simp only [rdEV]
      have HT1 := Lib.hid (ht1.alloc (.cells #[.int .i64 at', .int .i64 kind, .int .i64 pid, .int .i64 a, .int .i64 b] 23))
      have hb1 : Blk (w1.alloc (.cells #[.int .i64 at', .int .i64 kind, .int .i64 pid, .int .i64 a, .int .i64 b] 23)) w1.heap.size #[.int .i64 at', .int .i64 kind, .int .i64 pid, .int .i64 a, .int .i64 b] 23 := Blk.new rfl
      have HB1 := Lib.hid hb1
      clear ht1 hb1
      go_wp2_with fail
      refine (reread_any s (by omega) _ (HV.out.touch HT1.out)).mono ?_
      rintro e w2 ⟨rfl, ht2⟩
      rw [HR.out]
      simp only [rdEV]
      have HT2 := Lib.hid ((HT1.out.trans ht2).alloc (.cells #[.int .i64 at', .int .i64 kind, .int .i64 pid, .int .i64 a, .int .i64 b] 23))
      have hb1 := (HB1.out.touch ht2 (by simp)).alloc (.cells #[.int .i64 at', .int .i64 kind, .int .i64 pid, .int .i64 a, .int .i64 b] 23)
      have c0 := hb1.cell (i := 0) rfl
      have c1 := hb1.cell (i := 1) rfl
      have c2 := hb1.cell (i := 2) rfl
      have c3 := hb1.cell (i := 3) rfl
      have c4 := hb1.cell (i := 4) rfl
      clear ht2 hb1
      go_wp2_with fail
      refine (etext_any at' kind pid a b HI0.out HI1.out HA.out HB.out _ (HV.out.touch HT2.out)).mono ?_
      rintro e w3 ⟨rfl, ht3⟩
      rw [HX.out]
      have HT3 := Lib.hid (HT2.out.trans ht3)
      clear ht3
      go_wp2_with fail
      refine (awake_any _ (HV.out.touch HT3.out)).mono ?_
      rintro e w5 ⟨rfl, ht5⟩
      have HT5 := Lib.hid (HT3.out.trans ht5)
      clear ht5
      go_wp2
      go_ret
      exact ⟨rfl, HT5.out⟩
end Go.Proofs.YtgdpjkhkgdcfjaaDoor
