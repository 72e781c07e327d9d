/-
  Events in words, of both packages.
-/
import Derived.Test.YtgdpjkhkgdcfjaaDoorEA
import Derived.Test.YtgdpjkhkgdcfjaaDoorR
import Derived.Deep.Cut
set_option linter.unusedVariables false
namespace Go.Proofs.YtgdpjkhkgdcfjaaDoor
open Go Go.RowKit

theorem ename_any (kind : Int) (w : World) (hv : Vs w) : Calls Tryd.prog 8 #[.int .i64 kind] w fun e w' => e = .returned (.string (evZ kind)) ∧ w = w' := by
  by_cases hin : 0 ≤ kind ∧ kind < 7
  · obtain ⟨h1, h2⟩ := hin
    obtain ⟨k, rfl⟩ : ∃ k : Nat, kind = (k : Int) := ⟨kind.toNat, by omega⟩
    have hc := hv.names k (by omega)
    have hz : evZ (k : Int) = evS k := by unfold evZ; rw [Int.toNat_natCast]
    rw [hz]
    obtain ⟨x, hx⟩ : ∃ x, evS k = x := ⟨_, rfl⟩
    rw [hx] at hc ⊢
    clear hx hz
    have h0 : decide ((k : Int) < 0) = false := dF (by omega)
    go_enter Tryd.func8, Tryd.ntmps8
    go_wp2
    go_ret
    exact ⟨rfl, rfl⟩
  · rw [evZ_out (by omega)]
    rcases (by omega : kind < 0 ∨ 7 ≤ kind) with h | h
    · clear hin
      go_enter Tryd.func8, Tryd.ntmps8
      go_wp2
      go_ret
      exact ⟨rfl, rfl⟩
    · clear hin
      have h0 : decide (kind < 0) = false := dF (by omega)
      go_enter Tryd.func8, Tryd.ntmps8
      go_wp2
      go_ret
      exact ⟨rfl, rfl⟩
def evArr : Array Value := ((evL.drop 1).map fun l => Value.string ⟨l.toArray⟩).toArray
theorem evArr_at {k : Nat} (hk : k < 6) : evArr[k]? = some (.string (evS (k + 1))) := by
  have : ∀ j : Fin 6, evArr[j.val]? = some (.string (evS (j.val + 1))) := by
    intro j
    have hj : j.val + 1 < evL.length := by have := j.isLt; have : evL.length = 7 := rfl; omega
    unfold evArr evS evB
    rw [List.getElem?_toArray, List.getElem?_map, List.getElem?_drop, Nat.add_comm 1, List.getElem?_eq_getElem hj, List.getD_eq_getElem?_getD, List.getElem?_eq_getElem hj]
    rfl
  exact this ⟨k, hk⟩
set_option maxRecDepth 100000 in
set_option maxHeartbeats 2000000 in
theorem rename_any (op : Int) (w : World) : Calls Tryd.prog 9 #[.int .i64 op] w (StrP (evZ op) w) := by
  go_enter Tryd.func9, Tryd.ntmps9
  go_upto_region 1 with (fail)
  apply wp_region_lit
  refine wpList_laid 39 _ 4 3 evArr (Array.replicate 6 (.string ByteArray.empty)) rfl rfl rfl rfl rfl rfl rfl rfl rfl (by decide) (Nat.le_of_ble_eq_true (by kernel_rfl)) (Nat.le_of_ble_eq_true (by kernel_rfl)) (by kernel_rfl) (fun _ => by kernel_rfl) (by kernel_rfl) (by kernel_rfl) (by kernel_rfl) ?_
  have hbl : Blk (w.alloc (.cells evArr 39)) w.heap.size evArr 39 := Blk.new rfl
  have HT := Lib.hid ((Touch.refl [] w).alloc (.cells evArr 39))
  obtain ⟨W, hW⟩ : ∃ W, w.alloc (.cells evArr 39) = W := ⟨_, rfl⟩
  rw [hW] at hbl HT ⊢
  have HB := Lib.hid hbl
  clear hW hbl
  by_cases hin : 1 ≤ op ∧ op < 7
  · obtain ⟨h1, h2⟩ := hin
    obtain ⟨k, rfl⟩ : ∃ k : Nat, op = ((k + 1 : Nat) : Int) := ⟨op.toNat - 1, by omega⟩
    have hk : k < 6 := by omega
    have hz : evZ ((k + 1 : Nat) : Int) = evS (k + 1) := by unfold evZ; rw [Int.toNat_natCast]
    have hc := HB.out.cell (evArr_at hk)
    have HZ := Lib.hid hz
    clear hz
    go_wp2
    go_ret
    exact ⟨by rw [HZ.out]; rfl, HT.out⟩
  · have ho : op < 1 ∨ 7 ≤ op := by omega
    have HZ := Lib.hid (evZ_out ho)
    clear hin
    rcases ho with ho | ho
    · go_wp2
      go_ret
      exact ⟨by rw [HZ.out]; rfl, HT.out⟩
    · have h0 : decide (op < 1) = false := dF (by omega)
      go_wp2
      go_ret
      exact ⟨by rw [HZ.out]; rfl, HT.out⟩
def tkE (at' kind pid a b : Int) : Nat → ByteArray
  | 0 => mk (Lib.itoa at') ++ mk [32] ++ evZ kind
  | 1 => mk (Lib.itoa at') ++ mk [32] ++ evZ kind ++ (mk [32] ++ mk (Lib.itoa pid))
  | 2 => mk (Lib.itoa at') ++ mk [32] ++ evZ kind ++ (mk [32] ++ mk (Lib.itoa pid)) ++ (mk [32] ++ mk (Lib.itoa a))
  | _ => mk (Lib.itoa at') ++ mk [32] ++ evZ kind ++ (mk [32] ++ mk (Lib.itoa pid)) ++ (mk [32] ++ mk (Lib.itoa a)) ++ (mk [32] ++ mk (Lib.itoa b))
theorem tkE_3 (at' kind pid a b : Int) : tkE at' kind pid a b 3 = txE at' kind pid a b := by
  apply bytes_eq
  show (mk (Lib.itoa at') ++ mk [32] ++ evZ kind ++ (mk [32] ++ mk (Lib.itoa pid)) ++ (mk [32] ++ mk (Lib.itoa a)) ++ (mk [32] ++ mk (Lib.itoa b))).data.toList = _
  unfold txE evZ
  simp [evS_list, mk_list, evS, mk]
theorem m32 : (mk [32]).size = 1 := rfl
theorem tkE_size {at' kind pid a b : Int} (h0 : InI at') (h1 : InI pid) (h2 : InI a) (h3 : InI b) (k : Nat) : (tkE at' kind pid a b k).size ≤ 120 := by
  have := evZ_size kind
  have := itoa_len h0
  have := itoa_len h1
  have := itoa_len h2
  have := itoa_len h3
  have := m32
  match k with
  | 0 => show (mk (Lib.itoa at') ++ mk [32] ++ evZ kind).size ≤ 120; simp only [app_size]; omega
  | 1 => show (mk (Lib.itoa at') ++ mk [32] ++ evZ kind ++ (mk [32] ++ mk (Lib.itoa pid))).size ≤ 120; simp only [app_size]; omega
  | 2 => show (mk (Lib.itoa at') ++ mk [32] ++ evZ kind ++ (mk [32] ++ mk (Lib.itoa pid)) ++ (mk [32] ++ mk (Lib.itoa a))).size ≤ 120; simp only [app_size]; omega
  | k + 3 => show (mk (Lib.itoa at') ++ mk [32] ++ evZ kind ++ (mk [32] ++ mk (Lib.itoa pid)) ++ (mk [32] ++ mk (Lib.itoa a)) ++ (mk [32] ++ mk (Lib.itoa b))).size ≤ 120; simp only [app_size]; omega
/-- The five cells of an event. -/
abbrev evC (at' kind pid a b : Int) : Array Value := #[.int .i64 at', .int .i64 kind, .int .i64 pid, .int .i64 a, .int .i64 b]
set_option maxHeartbeats 8000000 in
set_option maxRecDepth 100000 in
theorem etext_any (at' kind pid a b : Int) (h0 : InI at') (h1 : InI pid) (h2 : InI a) (h3 : InI b) (w : World) (hv : Vs w) : Calls Tryd.prog 6 #[.agg #[.int .i64 at', .int .i64 kind, .int .i64 pid, .int .i64 a, .int .i64 b]] w (StrP (textE at' kind pid a b) w) := by
  have HV := Lib.hid hv
  have HI0 := Lib.hid h0
  have HI1 := Lib.hid h1
  have HI2 := Lib.hid h2
  have HI3 := Lib.hid h3
  have z0 := itoa_len h0
  have z1 := itoa_len h1
  have z2 := itoa_len h2
  have z3 := itoa_len h3
  have zk := fun k => tkE_size (kind := kind) h0 h1 h2 h3 k
  have zk0 := zk 0
  have zk1 := zk 1
  have zk2 := zk 2
  have t0 := (Touch.refl [] w).alloc (.cells #[.int .i64 at', .int .i64 kind, .int .i64 pid, .int .i64 a, .int .i64 b] 23)
  have hbk : Blk (w.alloc (.cells #[.int .i64 at', .int .i64 kind, .int .i64 pid, .int .i64 a, .int .i64 b] 23)) w.heap.size #[.int .i64 at', .int .i64 kind, .int .i64 pid, .int .i64 a, .int .i64 b] 23 := Blk.new rfl
  have HT0 := Lib.hid t0
  have HB := Lib.hid hbk
  obtain ⟨nm, hnm⟩ : ∃ nm, evZ kind = nm := ⟨_, rfl⟩
  have znm := evZ_size kind
  rw [hnm] at znm
  have HNM := Lib.hid hnm
  clear hv h0 h1 h2 h3 zk t0 hbk hnm
  by_cases hin : 1 ≤ kind ∧ kind < 7
  · have HX : Hid (textE at' kind pid a b = tkE at' kind pid a b 3) := Lib.hid (by rw [tkE_3, textE_in hin.1 hin.2])
    have he := emF (s := nm) (by rw [← HNM.out]; exact evZ_ne hin.1 hin.2)
    have hl := nlF (s := nm) (by rw [← HNM.out]; exact evZ_ne hin.1 hin.2)
    clear hin
    go_enter Tryd.func6, Tryd.ntmps6
    go_wp2_with fail
    refine (ename_any kind _ (HV.out.touch HT0.out)).mono ?_
    rintro e w1 ⟨rfl, rfl⟩
    rw [HNM.out]
    go_wp2_with fail
    refine (itoa_any at' HI0.out _ (HV.out.touch HT0.out)).mono ?_
    rintro e w1 ⟨rfl, ht1⟩
    have hb := HB.out.touch ht1 (by simp)
    have c2 := hb.cell (i := 2) rfl
    have c3 := hb.cell (i := 3) rfl
    have c4 := hb.cell (i := 4) rfl
    have HT1 := Lib.hid (HT0.out.trans ht1)
    have ix0 : ∀ w : World, (Instr.index 37 (.agg #[.int .i64 pid, .int .i64 a, .int .i64 b]) (.int .i64 0)).run Tryd.prog w = .ok (.int .i64 pid) w := fun _ => by kernel_rfl
    have ix1 : ∀ w : World, (Instr.index 37 (.agg #[.int .i64 pid, .int .i64 a, .int .i64 b]) (.int .i64 1)).run Tryd.prog w = .ok (.int .i64 a) w := fun _ => by kernel_rfl
    have ix2 : ∀ w : World, (Instr.index 37 (.agg #[.int .i64 pid, .int .i64 a, .int .i64 b]) (.int .i64 2)).run Tryd.prog w = .ok (.int .i64 b) w := fun _ => by kernel_rfl
    clear ht1 hb
    go_wp2
    go_loopw [4, 25] (fun tv kv wr => ∃ k : Nat, k ≤ 3 ∧ kv = .int .i64 (k : Int) ∧ tv = .string (tkE at' kind pid a b k) ∧ Touch [] w wr) (fun _ kv _ => 4 - (intOf kv).toNat)
    case atStart => exact ⟨0, by omega, rfl, by rw [← HNM.out]; rfl, HT1.out⟩
    case round =>
      obtain ⟨k, hk, rfl, rfl, ht⟩ := hrel
      have HTr := Lib.hid ht
      have hvr := HV.out.touch ht
      clear ht
      rcases (by omega : k = 0 ∨ k = 1 ∨ k = 2 ∨ k = 3) with rfl | rfl | rfl | rfl
      · go_wp2_with fail
        refine (itoa_any pid HI1.out _ hvr).mono ?_
        rintro e w4 ⟨rfl, ht4⟩
        have HT4 := Lib.hid (HTr.out.trans ht4)
        clear ht4
        go_wp2
        go_roundw
        case rel => exact ⟨1, by omega, by go_num, rfl, HT4.out⟩
        case measure => simp [intOf] <;> omega
      · go_wp2_with fail
        refine (itoa_any a HI2.out _ hvr).mono ?_
        rintro e w4 ⟨rfl, ht4⟩
        have HT4 := Lib.hid (HTr.out.trans ht4)
        clear ht4
        go_wp2
        go_roundw
        case rel => exact ⟨2, by omega, by go_num, rfl, HT4.out⟩
        case measure => simp [intOf] <;> omega
      · go_wp2_with fail
        refine (itoa_any b HI3.out _ hvr).mono ?_
        rintro e w4 ⟨rfl, ht4⟩
        have HT4 := Lib.hid (HTr.out.trans ht4)
        clear ht4
        go_wp2
        go_roundw
        case rel => exact ⟨3, by omega, by go_num, rfl, HT4.out⟩
        case measure => simp [intOf] <;> omega
      · go_wp2
        go_ret
        exact ⟨by rw [HX.out]; rfl, HTr.out⟩
  · have HX : Hid (textE at' kind pid a b = ByteArray.empty) := Lib.hid (textE_out (by omega))
    have hnm : nm = ByteArray.empty := by rw [← HNM.out]; exact evZ_out (by omega)
    clear hin
    subst hnm
    go_enter Tryd.func6, Tryd.ntmps6
    go_wp2_with fail
    refine (ename_any kind _ (HV.out.touch HT0.out)).mono ?_
    rintro e w1 ⟨rfl, rfl⟩
    rw [HNM.out]
    go_wp2
    go_ret
    exact ⟨by rw [HX.out]; rfl, HT0.out⟩
end Go.Proofs.YtgdpjkhkgdcfjaaDoor
