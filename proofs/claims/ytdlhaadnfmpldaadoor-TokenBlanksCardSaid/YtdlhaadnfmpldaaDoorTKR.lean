/-
  The law's awake.
-/
import Derived.Test.YtdlhaadnfmpldaaDoorTKQ
import Derived.Lib.SlBytesConst
set_option linter.unusedVariables false
namespace Go.Proofs.YtdlhaadnfmpldaaDoor
open Go Go.RowKit

theorem cell_alloc_any (w : World) (c : Array Value) (t : TypeId) (m : Nat × Nat) (j : Nat) : (w.alloc (.cells c t m)).cell? ⟨w.heap.size, j, none⟩ = c[j]? := by
  unfold World.cell?
  rw [show (w.alloc (.cells c t m)).heap[w.heap.size]? = some (.cells c t m) from heap_alloc_new w _]
  rfl
theorem bt_new (w : World) (L : List UInt8) (c : Array Value) (n : Nat) (hc : c = (L.map bv).toArray) (hn : n = L.length) (t : TypeId) (m : Nat × Nat) : Bt (w.alloc (.cells c t m)) (.slice (some ⟨w.heap.size, 0, none⟩) n n) L := by
  subst hc hn
  refine ⟨_, L.length, rfl, Nat.le_refl _, .inr ⟨w.heap.size, 0, rfl, by simp, fun j hj => ?_⟩⟩
  rw [cell_alloc_any, Nat.zero_add, List.getElem?_toArray, List.getElem?_map, List.getD_eq_getElem?_getD, List.getElem?_eq_getElem hj]
  rfl
def lit1 : List UInt8 := [97, 58, 61, 49, 32, 123, 120, 125, 32, 60, 62]
def lit2 : List UInt8 := [97, 32, 63]
def lit3 : List UInt8 := [97, 98, 99, 100, 101, 102, 103, 104, 105, 106, 107, 108, 109]
def lit4 : List UInt8 := [57, 50, 50, 51, 51, 55, 50, 48, 51, 54, 56, 53, 52, 55, 55, 53, 56, 48, 56]
def want1 : List Tok := [⟨1, 0, 0, [97]⟩, ⟨4, 1, 0, [58, 61]⟩, ⟨2, 3, 1, []⟩, ⟨4, 9, 0, [60, 62]⟩, ⟨5, 11, 0, []⟩]
theorem all_ok (w : World) (v : Value) (L : List UInt8) (T : List Tok) (hv0 : Vs w) (hb : Bt w v L) (hL : L.length ≤ 100000) (h : allT L = .ok T) : Calls Tryd.prog 7 #[v] w fun e w' => (∃ v, e = .returned (.tuple #[v, .agg #[.int .i64 0, .int .i64 0]]) ∧ Tks w' w.heap.size v T) ∧ Touch [] w w' :=
  (all_any w v L hv0 hb hL).mono fun e w' hq => by
    obtain ⟨h1, h2⟩ := hq
    rw [h] at h2
    exact ⟨h2, h1⟩
theorem all_no (w : World) (v : Value) (L : List UInt8) (c a : Int) (hv0 : Vs w) (hb : Bt w v L) (hL : L.length ≤ 100000) (h : allT L = .bad c a) : Calls Tryd.prog 7 #[v] w fun e w' => e = .returned (.tuple #[.slice none 0 0, .agg #[.int .i64 c, .int .i64 a]]) ∧ Touch [] w w' :=
  (all_any w v L hv0 hb hL).mono fun e w' hq => by
    obtain ⟨h1, h2⟩ := hq
    rw [h] at h2
    exact ⟨h2, h1⟩
def TrueP (w : World) (e : Ending) (w' : World) : Prop := e = .returned (.bool true) ∧ Touch [] w w'
set_option maxHeartbeats 16000000 in
set_option maxRecDepth 100000 in
theorem awake_any (w : World) (hv : Vs w) : Calls Tryd.prog 5 #[] w (TrueP w) := by
  have HV := Lib.hid hv
  have kc := fun (w : World) (C : Array Value) (n c : Nat) => Lib.run_convert_bytes_const (P := Tryd.prog) w 23 5 C n c Tryd.underlying23 Tryd.underlying5
  obtain ⟨x4, h4⟩ := aw4
  have H4 := Lib.hid h4
  clear h4
  have HTA := Lib.hid (Touch.refl [] w)
  go_enter Tryd.func5, Tryd.ntmps5
  go_wp2_with fail
  refine (all_ok _ _ lit1 want1 (HV.out.touch (HTA.out.alloc _)) (bt_new w lit1 _ 11 rfl rfl _ _) (by decide) aw1).mono ?_
  rintro e w1 ⟨⟨v1, rfl, htk⟩, ht⟩
  obtain ⟨a1, c1, rfl⟩ := htk.form
  have HK1 := Lib.hid htk
  clear htk
  have hb1 : Blk (w1.alloc (.cells #[.int .i64 0, .int .i64 0] 29)) w1.heap.size #[.int .i64 0, .int .i64 0] 29 := Blk.new rfl
  have HTB := Lib.hid (((HTA.out.alloc _).trans ht).alloc (.cells #[.int .i64 0, .int .i64 0] 29))
  have HTS := Lib.hid (((Touch.refl [] w).alloc _).trans ht |>.alloc (.cells #[.int .i64 0, .int .i64 0] 29))
  clear HTA
  have HTA := Lib.hid HTB.out
  clear HTB
  have HKn := Lib.hid (HK1.out.touch ((Touch.refl [] _).alloc (.cells #[.int .i64 0, .int .i64 0] 29)) (fun _ _ => by simp))
  clear HK1
  have HK1 := Lib.hid HKn.out
  clear HKn
  obtain ⟨g1, hg1⟩ : ∃ z, w1.heap.size = z := ⟨_, rfl⟩
  obtain ⟨W1, hW1⟩ : ∃ x, (w1.alloc (.cells #[.int .i64 0, .int .i64 0] 29)) = x := ⟨_, rfl⟩
  rw [hg1, hW1] at hb1
  rw [hW1] at HTA HTS HK1
  have HG1 := Lib.hid hb1
  have HWW := Lib.hid hW1
  have HGG := Lib.hid hg1
  clear hb1 hW1 hg1 ht HTS
  go_upto_region 2 with fail
  rw [HGG.out]
  rw [HWW.out]
  clear HGG HWW
  go_wp2_with fail
  refine (all_no _ _ lit2 11 2 (HV.out.touch (HTA.out.alloc _)) (bt_new W1 lit2 _ 3 rfl rfl _ _) (by decide) aw2).mono ?_
  rintro e w2 ⟨rfl, ht⟩
  have hb2 : Blk (w2.alloc (.cells #[.int .i64 11, .int .i64 2] 29)) w2.heap.size #[.int .i64 11, .int .i64 2] 29 := Blk.new rfl
  have HTB := Lib.hid (((HTA.out.alloc _).trans ht).alloc (.cells #[.int .i64 11, .int .i64 2] 29))
  have HTS := Lib.hid (((Touch.refl [] W1).alloc _).trans ht |>.alloc (.cells #[.int .i64 11, .int .i64 2] 29))
  clear HTA
  have HTA := Lib.hid HTB.out
  clear HTB
  have HGn := Lib.hid (HG1.out.touch HTS.out (by simp))
  clear HG1
  have HG1 := Lib.hid HGn.out
  clear HGn
  have HKn := Lib.hid (HK1.out.touch HTS.out (fun _ _ => by simp))
  clear HK1
  have HK1 := Lib.hid HKn.out
  clear HKn
  obtain ⟨g2, hg2⟩ : ∃ z, w2.heap.size = z := ⟨_, rfl⟩
  obtain ⟨W2, hW2⟩ : ∃ x, (w2.alloc (.cells #[.int .i64 11, .int .i64 2] 29)) = x := ⟨_, rfl⟩
  rw [hg2, hW2] at hb2
  rw [hW2] at HTA HTS HK1
  rw [hW2] at HG1
  have HG2 := Lib.hid hb2
  have HWW := Lib.hid hW2
  have HGG := Lib.hid hg2
  clear hb2 hW2 hg2 ht HTS
  go_upto_region 3 with fail
  rw [HGG.out]
  rw [HWW.out]
  clear HGG HWW
  go_wp2_with fail
  refine (all_no _ _ lit3 12 0 (HV.out.touch (HTA.out.alloc _)) (bt_new W2 lit3 _ 13 rfl rfl _ _) (by decide) aw3).mono ?_
  rintro e w3 ⟨rfl, ht⟩
  have hb3 : Blk (w3.alloc (.cells #[.int .i64 12, .int .i64 0] 29)) w3.heap.size #[.int .i64 12, .int .i64 0] 29 := Blk.new rfl
  have HTB := Lib.hid (((HTA.out.alloc _).trans ht).alloc (.cells #[.int .i64 12, .int .i64 0] 29))
  have HTS := Lib.hid (((Touch.refl [] W2).alloc _).trans ht |>.alloc (.cells #[.int .i64 12, .int .i64 0] 29))
  clear HTA
  have HTA := Lib.hid HTB.out
  clear HTB
  have HGn := Lib.hid (HG1.out.touch HTS.out (by simp))
  clear HG1
  have HG1 := Lib.hid HGn.out
  clear HGn
  have HGn := Lib.hid (HG2.out.touch HTS.out (by simp))
  clear HG2
  have HG2 := Lib.hid HGn.out
  clear HGn
  have HKn := Lib.hid (HK1.out.touch HTS.out (fun _ _ => by simp))
  clear HK1
  have HK1 := Lib.hid HKn.out
  clear HKn
  obtain ⟨g3, hg3⟩ : ∃ z, w3.heap.size = z := ⟨_, rfl⟩
  obtain ⟨W3, hW3⟩ : ∃ x, (w3.alloc (.cells #[.int .i64 12, .int .i64 0] 29)) = x := ⟨_, rfl⟩
  rw [hg3, hW3] at hb3
  rw [hW3] at HTA HTS HK1
  rw [hW3] at HG1
  rw [hW3] at HG2
  have HG3 := Lib.hid hb3
  have HWW := Lib.hid hW3
  have HGG := Lib.hid hg3
  clear hb3 hW3 hg3 ht HTS
  go_upto_region 4 with fail
  rw [HGG.out]
  rw [HWW.out]
  clear HGG HWW
  go_wp2_with fail
  refine (all_no _ _ lit4 13 x4 (HV.out.touch (HTA.out.alloc _)) (bt_new W3 lit4 _ 19 rfl rfl _ _) (by decide) H4.out).mono ?_
  rintro e w4 ⟨rfl, ht⟩
  have hb4 : Blk (w4.alloc (.cells #[.int .i64 13, .int .i64 x4] 29)) w4.heap.size #[.int .i64 13, .int .i64 x4] 29 := Blk.new rfl
  have HTB := Lib.hid (((HTA.out.alloc _).trans ht).alloc (.cells #[.int .i64 13, .int .i64 x4] 29))
  have HTS := Lib.hid (((Touch.refl [] W3).alloc _).trans ht |>.alloc (.cells #[.int .i64 13, .int .i64 x4] 29))
  clear HTA
  have HTA := Lib.hid HTB.out
  clear HTB
  have HGn := Lib.hid (HG1.out.touch HTS.out (by simp))
  clear HG1
  have HG1 := Lib.hid HGn.out
  clear HGn
  have HGn := Lib.hid (HG2.out.touch HTS.out (by simp))
  clear HG2
  have HG2 := Lib.hid HGn.out
  clear HGn
  have HGn := Lib.hid (HG3.out.touch HTS.out (by simp))
  clear HG3
  have HG3 := Lib.hid HGn.out
  clear HGn
  have HKn := Lib.hid (HK1.out.touch HTS.out (fun _ _ => by simp))
  clear HK1
  have HK1 := Lib.hid HKn.out
  clear HKn
  obtain ⟨g4, hg4⟩ : ∃ z, w4.heap.size = z := ⟨_, rfl⟩
  obtain ⟨W4, hW4⟩ : ∃ x, (w4.alloc (.cells #[.int .i64 13, .int .i64 x4] 29)) = x := ⟨_, rfl⟩
  rw [hg4, hW4] at hb4
  rw [hW4] at HTA HTS HK1
  rw [hW4] at HG1
  rw [hW4] at HG2
  rw [hW4] at HG3
  have HG4 := Lib.hid hb4
  have HWW := Lib.hid hW4
  have HGG := Lib.hid hg4
  clear hb4 hW4 hg4 ht HTS
  go_upto_region 5 with fail
  rw [HGG.out]
  rw [HWW.out]
  clear HGG HWW
  go_upto_region 6 with fail
  have HWT : Hid (Tks (W4.alloc (.cells #[.int .i64 1, .int .i64 0, .int .i64 0, .string ⟨#[97]⟩, .int .i64 4, .int .i64 1, .int .i64 0, .string ⟨#[58, 61]⟩, .int .i64 2, .int .i64 3, .int .i64 1, .string ⟨#[]⟩, .int .i64 4, .int .i64 9, .int .i64 0, .string ⟨#[60, 62]⟩, .int .i64 5, .int .i64 11, .int .i64 0, .string ⟨#[]⟩] 38)) 0 (.slice (some ⟨W4.heap.size, 0, none⟩) 5 5) want1) := Lib.hid (.inr ⟨_, 5, #[.int .i64 1, .int .i64 0, .int .i64 0, .string ⟨#[97]⟩, .int .i64 4, .int .i64 1, .int .i64 0, .string ⟨#[58, 61]⟩, .int .i64 2, .int .i64 3, .int .i64 1, .string ⟨#[]⟩, .int .i64 4, .int .i64 9, .int .i64 0, .string ⟨#[60, 62]⟩, .int .i64 5, .int .i64 11, .int .i64 0, .string ⟨#[]⟩], rfl, Nat.zero_le _, Blk.new rfl, Nat.le_refl _, by unfold maxLen; omega, by simp, fun i hi j hj => by
    have hi : i < 5 := hi
    rcases (by omega : i = 0 ∨ i = 1 ∨ i = 2 ∨ i = 3 ∨ i = 4) with rfl | rfl | rfl | rfl | rfl <;> rcases (by omega : j = 0 ∨ j = 1 ∨ j = 2 ∨ j = 3) with rfl | rfl | rfl | rfl <;> rfl⟩)
  have HTF := Lib.hid ((Touch.refl [] W4).alloc (.cells #[.int .i64 1, .int .i64 0, .int .i64 0, .string ⟨#[97]⟩, .int .i64 4, .int .i64 1, .int .i64 0, .string ⟨#[58, 61]⟩, .int .i64 2, .int .i64 3, .int .i64 1, .string ⟨#[]⟩, .int .i64 4, .int .i64 9, .int .i64 0, .string ⟨#[60, 62]⟩, .int .i64 5, .int .i64 11, .int .i64 0, .string ⟨#[]⟩] 38))
  obtain ⟨WF, hWF⟩ : ∃ x, (W4.alloc (.cells #[.int .i64 1, .int .i64 0, .int .i64 0, .string ⟨#[97]⟩, .int .i64 4, .int .i64 1, .int .i64 0, .string ⟨#[58, 61]⟩, .int .i64 2, .int .i64 3, .int .i64 1, .string ⟨#[]⟩, .int .i64 4, .int .i64 9, .int .i64 0, .string ⟨#[60, 62]⟩, .int .i64 5, .int .i64 11, .int .i64 0, .string ⟨#[]⟩] 38)) = x := ⟨_, rfl⟩
  rw [hWF] at HWT HTF
  rw [hWF]
  have HK5 := Lib.hid (HK1.out.touch HTF.out (fun _ _ => by simp))
  have HTF0 := Lib.hid (HTA.out.trans HTF.out)
  have HD1 := Lib.hid (HG1.out.touch HTF.out (by simp))
  have HD2 := Lib.hid (HG2.out.touch HTF.out (by simp))
  have HD3 := Lib.hid (HG3.out.touch HTF.out (by simp))
  have HD4 := Lib.hid (HG4.out.touch HTF.out (by simp))
  have z10 := HD1.out.cell (i := 0) rfl
  clear hWF kc hv HK1 HG1 HG2 HG3 HG4 HTA HTF
  go_wp2_with fail
  refine (tokens_any _ _ _ _ want1 want1 _ HK5.out HWT.out (by decide) (by decide)).mono ?_
  rintro e w5 ⟨rfl, ht5⟩
  rw [show decide (want1 = want1) = true from dT rfl]
  have z20 := (HD2.out.touch ht5 (by simp)).cell (i := 0) rfl
  have z21 := (HD2.out.touch ht5 (by simp)).cell (i := 1) rfl
  have z30 := (HD3.out.touch ht5 (by simp)).cell (i := 0) rfl
  have z31 := (HD3.out.touch ht5 (by simp)).cell (i := 1) rfl
  have z40 := (HD4.out.touch ht5 (by simp)).cell (i := 0) rfl
  have HT5 := Lib.hid (HTF0.out.trans ht5)
  clear ht5
  go_wp2_with fail
  refine (word_any ⟨#[111, 100]⟩ _ (HV.out.touch HT5.out)).mono ?_
  rintro e w6 ⟨rfl, ht6⟩
  rw [show isWord (⟨#[111, 100]⟩ : ByteArray).data.toList = true from by decide +kernel]
  have HT6 := Lib.hid (HT5.out.trans ht6)
  clear ht6
  go_wp2_with fail
  refine (word_any ⟨#[80]⟩ _ (HV.out.touch HT6.out)).mono ?_
  rintro e w7 ⟨rfl, ht7⟩
  rw [show isWord (⟨#[80]⟩ : ByteArray).data.toList = true from by decide +kernel]
  have HT7 := Lib.hid (HT6.out.trans ht7)
  clear ht7
  go_wp2_with fail
  refine (word_any ⟨#[97]⟩ _ (HV.out.touch HT7.out)).mono ?_
  rintro e w8 ⟨rfl, ht8⟩
  rw [show isWord (⟨#[97]⟩ : ByteArray).data.toList = false from by decide +kernel]
  have HT8 := Lib.hid (HT7.out.trans ht8)
  clear ht8
  go_wp2_with fail
  go_ret
  exact ⟨rfl, HT8.out⟩
end Go.Proofs.YtdlhaadnfmpldaaDoor
