/-
  Instructions in words, of both packages.
-/
import Derived.Test.YtigbmhppknlinaaDoorIC
import Derived.Test.YtigbmhppknlinaaDoorNC
set_option linter.unusedVariables false
namespace Go.Proofs.YtigbmhppknlinaaDoor
open Go Go.RowKit

theorem itoa_len {x : Int} (h : InI x) : (mk (Lib.itoa x)).size ≤ 20 := by
  have hl : (mk (Lib.itoa x)).size = (Lib.itoa x).length := by
    show (mk (Lib.itoa x)).data.size = _
    rw [← Array.length_toList, mk_list]
  rw [hl]
  rcases numL_shape (numL_itoa h) with ⟨d, e, _, _, _, h5, _⟩ | ⟨_, _, _, _, h5, _⟩
  · rw [e]; simp; omega
  · omega
theorem nmZ_size_fin : ∀ k : Fin 39, (nmS k.val).size ≤ 10 := by decide +kernel
theorem nmZ_size (op : Int) : (nmZ op).size ≤ 10 := by
  by_cases h : op < 1 ∨ 39 ≤ op
  · rw [nmZ_out h]; decide
  · exact nmZ_size_fin ⟨op.toNat, by omega⟩
theorem touch_grow (w : World) (q : Nat) (os : Array Obj) : Touch [] w (Sort.grow (w.drewN q) os) :=
  ⟨rfl, rfl, rfl, by show w.heap.size ≤ ((w.drewN q).heap ++ os).size; rw [Array.size_append]; exact Nat.le_add_right _ _, fun i hi _ => by
    show ((w.drewN q).heap ++ os)[i]? = _
    rw [Array.getElem?_append_left (by show i < w.heap.size; omega)]
    rfl⟩
theorem itoa_any (n : Int) (hn : InI n) (w : World) (hv : Vs w) : Calls Tryd.prog 24 #[.int .i64 n] w (StrP (mk (Lib.itoa n)) w) := by
  refine (Tryd.strconv_Itoa n hn.1 hn.2 w hv.pow).mono ?_
  rintro e w' ⟨rfl, k, os, rfl⟩
  exact ⟨rfl, touch_grow w k os⟩
def tk (op a b : Int) : Nat → ByteArray
  | 0 => nmZ op
  | 1 => nmZ op ++ (mk [32] ++ mk (Lib.itoa a))
  | _ => nmZ op ++ (mk [32] ++ mk (Lib.itoa a)) ++ (mk [32] ++ mk (Lib.itoa b))
theorem app_size (a b : ByteArray) : (a ++ b).size = a.size + b.size := by simp
theorem tk_size (op : Int) {a b : Int} (ha : InI a) (hb : InI b) (k : Nat) : (tk op a b k).size ≤ 60 := by
  have h1 := nmZ_size op
  have h2 := itoa_len ha
  have h3 := itoa_len hb
  have h4 : (mk [32]).size = 1 := rfl
  match k with
  | 0 => show (nmZ op).size ≤ 60; omega
  | 1 => show (nmZ op ++ (mk [32] ++ mk (Lib.itoa a))).size ≤ 60; rw [app_size, app_size]; omega
  | k + 2 => show (nmZ op ++ (mk [32] ++ mk (Lib.itoa a)) ++ (mk [32] ++ mk (Lib.itoa b))).size ≤ 60; rw [app_size, app_size, app_size, app_size]; omega
def textZ (op a b : Int) : ByteArray := tk op a b (opZ op).toNat
set_option maxHeartbeats 4000000 in
theorem slice_both (n : Nat) (hn : n ≤ 2) (b : Nat) (W : World) : (Instr.sliceAt 40 (.pointer (some ⟨b, 0, none⟩)) none (some (.int .i64 (n : Int))) none).run Tryd.prog W = .ok (.slice (some ⟨b, 0, none⟩) n 2) W := by
  have h0 : (Instr.sliceAt 40 (.pointer (some ⟨b, 0, none⟩)) none (some (.int .i64 ((0 : Nat) : Int))) none).run Tryd.prog W = .ok (.slice (some ⟨b, 0, none⟩) 0 2) W := by kernel_rfl
  have h1 : (Instr.sliceAt 40 (.pointer (some ⟨b, 0, none⟩)) none (some (.int .i64 ((1 : Nat) : Int))) none).run Tryd.prog W = .ok (.slice (some ⟨b, 0, none⟩) 1 2) W := by kernel_rfl
  have h2 : (Instr.sliceAt 40 (.pointer (some ⟨b, 0, none⟩)) none (some (.int .i64 ((2 : Nat) : Int))) none).run Tryd.prog W = .ok (.slice (some ⟨b, 0, none⟩) 2 2) W := by kernel_rfl
  have : n = 0 ∨ n = 1 ∨ n = 2 := by omega
  rcases this with rfl | rfl | rfl
  · exact h0
  · exact h1
  · exact h2
set_option maxHeartbeats 4000000 in
set_option maxRecDepth 100000 in
theorem text_any (op a b : Int) (ha : InI a) (hb : InI b) (w : World) (hv : Vs w) : Calls Tryd.prog 19 #[.agg #[.int .i64 op, .int .i64 a, .int .i64 b]] w (StrP (textZ op a b) w) := by
  have hop := opT_02 op.toNat
  obtain ⟨n, hn⟩ : ∃ n : Nat, opZ op = (n : Int) := ⟨(opZ op).toNat, by unfold opZ; omega⟩
  have hn2 : n ≤ 2 := by unfold opZ at hn; omega
  have HT : Hid (textZ op a b = tk op a b n) := Lib.hid (by unfold textZ; rw [hn, Int.toNat_natCast])
  have HN := Lib.hid hn
  have HV := Lib.hid hv
  have HA := Lib.hid ha
  have HB := Lib.hid hb
  have z0 := tk_size op ha hb 0
  have z1 := tk_size op ha hb 1
  have za := itoa_len ha
  have zb := itoa_len hb
  clear hn hop hv ha hb
  go_enter Tryd.func19, Tryd.ntmps19
  go_wp2_with fail
  refine (name_any _ _ (HV.out.touch ((Touch.refl _ _).alloc _))).mono ?_
  rintro e w' ⟨rfl, rfl⟩
  go_wp2_with fail
  refine (operands_any _ _ (HV.out.touch (((Touch.refl _ _).alloc _).alloc _))).mono ?_
  rintro e w' ⟨rfl, rfl⟩
  rw [HN.out]
  have hsl := slice_both n hn2 (w.heap.size + 1)
  go_wp2
  clear hsl
  have HW : Hid (∀ wd : World, True) := Lib.hid (fun _ => trivial)
  go_loopw [3, 20] (fun tv kv wr => ∃ k : Nat, k ≤ n ∧ kv = .int .i64 (k : Int) ∧ tv = .string (tk op a b k) ∧ Touch [] ((w.alloc (.cells #[.int .i64 op, .int .i64 a, .int .i64 b] 29)).alloc (.cells #[.int .i64 a, .int .i64 b] 40)) wr) (fun _ kv _ => n + 1 - (intOf kv).toNat)
  case atStart => exact ⟨0, by omega, rfl, rfl, Touch.refl _ _⟩
  case round =>
    obtain ⟨k, hk, rfl, rfl, ht⟩ := hrel
    have hbk : Blk ((w.alloc (.cells #[.int .i64 op, .int .i64 a, .int .i64 b] 29)).alloc (.cells #[.int .i64 a, .int .i64 b] 40)) (w.heap.size + 1) #[.int .i64 a, .int .i64 b] 40 := Blk.new (by simp)
    have hbk2 := hbk.touch ht (by simp)
    have hv2 := HV.out.touch (((Touch.refl [] w).alloc _).alloc _ |>.trans ht)
    have HT1 := Lib.hid (((Touch.refl [] w).alloc _).alloc _ |>.trans ht)
    have HTr := Lib.hid ht
    by_cases hlt : k < n
    · rcases (by omega : k = 0 ∨ k = 1) with rfl | rfl
      · have hc : wr.cell? ⟨w.heap.size + 1, 0, none⟩ = some (.int .i64 a) := hbk2.cell rfl
        clear ht hbk hbk2
        go_wp2_with fail
        refine (itoa_any a HA.out _ hv2).mono ?_
        rintro e w' ⟨rfl, ht2⟩
        have HT2 := Lib.hid (HTr.out.trans ht2)
        clear ht2
        go_wp2
        go_roundw
        case rel => exact ⟨1, by omega, by go_num, rfl, HT2.out⟩
        case measure => simp [intOf] <;> omega
      · have hc : wr.cell? ⟨w.heap.size + 1, 1, none⟩ = some (.int .i64 b) := hbk2.cell rfl
        clear ht hbk hbk2
        go_wp2_with fail
        refine (itoa_any b HB.out _ hv2).mono ?_
        rintro e w' ⟨rfl, ht2⟩
        have HT2 := Lib.hid (HTr.out.trans ht2)
        clear ht2
        go_wp2
        go_roundw
        case rel => exact ⟨2, by omega, by go_num, rfl, HT2.out⟩
        case measure => simp [intOf] <;> omega
    · obtain rfl : k = n := by omega
      clear ht hbk hbk2
      go_wp2
      go_ret
      exact ⟨by rw [HT.out]; rfl, HT1.out⟩
theorem app_assoc (a b c : ByteArray) : a ++ b ++ c = a ++ (b ++ c) := by
  apply bytes_eq
  simp
set_option maxHeartbeats 8000000 in
set_option maxRecDepth 100000 in
theorem rtext_any (op a b : Int) (ha : InI a) (hb : InI b) (w : World) (hv : Vs w) : Calls Tryd.prog 20 #[.agg #[.int .i64 op, .int .i64 a, .int .i64 b]] w (StrP (textZ op a b) w) := by
  have hop := opT_02 op.toNat
  obtain ⟨n, hn⟩ : ∃ n : Nat, opZ op = (n : Int) := ⟨(opZ op).toNat, by unfold opZ; omega⟩
  have hn2 : n ≤ 2 := by unfold opZ at hn; omega
  have HT : Hid (textZ op a b = tk op a b n) := Lib.hid (by unfold textZ; rw [hn, Int.toNat_natCast])
  have HN := Lib.hid hn
  have HV := Lib.hid hv
  have HA := Lib.hid ha
  have HB := Lib.hid hb
  have z0 := nmZ_size op
  have za := itoa_len ha
  have zb := itoa_len hb
  have t0 := (Touch.refl [] w).alloc (.cells #[.int .i64 op, .int .i64 a, .int .i64 b] 29)
  have hbk : Blk (w.alloc (.cells #[.int .i64 op, .int .i64 a, .int .i64 b] 29)) w.heap.size #[.int .i64 op, .int .i64 a, .int .i64 b] 29 := Blk.new rfl
  have HK := Lib.hid hbk
  have HT0 := Lib.hid t0
  clear hn hop hv ha hb hbk t0
  rcases (by omega : n = 0 ∨ n = 1 ∨ n = 2) with rfl | rfl | rfl
  all_goals
    go_enter Tryd.func20, Tryd.ntmps20
    go_wp2_with fail
    refine (rname_any _ _).mono ?_
    rintro e w' ⟨rfl, ht2⟩
    have hk2 := HK.out.touch ht2 (by simp)
    have c0 := hk2.cell (i := 0) rfl
    have c1 := hk2.cell (i := 1) rfl
    have c2 := hk2.cell (i := 2) rfl
    have HT2 := Lib.hid (HT0.out.trans ht2)
    have HK2 := Lib.hid hk2
    clear ht2 hk2
    go_wp2_with fail
    refine (roperands_any _ _).mono ?_
    rintro e w2 ⟨rfl, rfl⟩
    rw [HN.out]
  · go_wp2_with fail
    refine (roperands_any _ _).mono ?_
    rintro e w2 ⟨rfl, rfl⟩
    rw [HN.out]
    go_wp2
    go_ret
    exact ⟨by rw [HT.out]; rfl, HT2.out⟩
  · go_wp2_with fail
    refine (itoa_any a HA.out _ (HV.out.touch HT2.out)).mono ?_
    rintro e w2 ⟨rfl, ht3⟩
    have c0 := (HK2.out.touch ht3 (by simp)).cell (i := 0) rfl
    have HT3 := Lib.hid (HT2.out.trans ht3)
    clear ht3
    go_wp2_with fail
    refine (roperands_any _ _).mono ?_
    rintro e w3 ⟨rfl, rfl⟩
    rw [HN.out]
    go_wp2
    go_ret
    exact ⟨by rw [HT.out]; show Ending.returned (.string (nmZ op ++ mk [32] ++ mk (Lib.itoa a))) = _; rw [app_assoc]; rfl, HT3.out⟩
  · go_wp2_with fail
    refine (itoa_any a HA.out _ (HV.out.touch HT2.out)).mono ?_
    rintro e w2 ⟨rfl, ht3⟩
    have c0 := (HK2.out.touch ht3 (by simp)).cell (i := 0) rfl
    have c2 := (HK2.out.touch ht3 (by simp)).cell (i := 2) rfl
    have HT3 := Lib.hid (HT2.out.trans ht3)
    clear ht3
    go_wp2_with fail
    refine (roperands_any _ _).mono ?_
    rintro e w3 ⟨rfl, rfl⟩
    rw [HN.out]
    go_wp2_with fail
    refine (itoa_any b HB.out _ (HV.out.touch HT3.out)).mono ?_
    rintro e w3 ⟨rfl, ht4⟩
    have HT4 := Lib.hid (HT3.out.trans ht4)
    clear ht4
    go_wp2
    go_ret
    exact ⟨by rw [HT.out]; show Ending.returned (.string (nmZ op ++ mk [32] ++ mk (Lib.itoa a) ++ mk [32] ++ mk (Lib.itoa b))) = _; rw [app_assoc _ (mk [32]) (mk (Lib.itoa b)), app_assoc (nmZ op)]; rfl, HT4.out⟩
end Go.Proofs.YtigbmhppknlinaaDoor
