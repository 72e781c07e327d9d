/-
  Jobs as texts: Text, and the reference's.
-/
import Derived.Test.YtnhbnggkaomfcaaDoorSD
import Derived.Deep.Cut
set_option linter.unusedVariables false
namespace Go.Proofs.YtnhbnggkaomfcaaDoor
open Go Go.RowKit

def WrP (b : Nat) (l : List UInt8) (w0 w : World) (e : Ending) (w' : World) : Prop := e = .returned (.tuple #[]) ∧ BfP w0.heap.size b l w0 w e w'
set_option maxHeartbeats 8000000 in
set_option maxRecDepth 100000 in
theorem write_any (b : Nat) (l : List UInt8) (word : ByteArray) (v : Value) (xs : List Int) (w0 w : World) (hv : Vs w0) (h : Bf w w0.heap.size b l) (hb : Below w0.heap.size w0 w)
    (hS : ∀ w', Below w0.heap.size w0 w' → Kb b w w' → Sl w' v xs) (hi : ∀ x ∈ xs, InI x) (hl : l.length ≤ 1000000) (hw : word.size ≤ 1000000) (hx : xs.length ≤ 1000000) :
    Calls Tryd.prog 13 #[.pointer (some ⟨b, 0, none⟩), .string word, v] w (WrP b (l ++ (word.data.toList ++ (numsT xs ++ [10]))) w0 w) := by
  have HV := Lib.hid hv
  have HS := Lib.hid hS
  have HI := Lib.hid hi
  have HB := Lib.hid h
  have HBE := Lib.hid hb
  obtain ⟨a, c, rfl, _⟩ := hS w hb (Kb.refl b w)
  obtain ⟨n, hn⟩ : ∃ n, xs.length = n := ⟨_, rfl⟩
  have HN := Lib.hid hn
  have hws : word.data.toList.length = word.size := by simp
  have HWS := Lib.hid hws
  rw [hn] at hx ⊢
  clear hv hS hi h hb hn hws
  go_enter Tryd.func13, Tryd.ntmps13
  go_wp2_with fail
  refine (wstr_any b l word w0 w HB.out HBE.out (by omega) (by omega)).mono ?_
  rintro e w1 ⟨rfl, h1, h2, h3⟩
  have HB1 := Lib.hid h1
  have HBE1 := Lib.hid h2
  have HK1 := Lib.hid h3
  clear h1 h2 h3
  go_wp2_with fail
  go_loopw [13] (fun iv wr => ∃ k : Nat, k ≤ n ∧ iv = .int .i64 (k : Int) ∧ Bf wr w0.heap.size b (l ++ word.data.toList ++ numsT (xs.take k)) ∧ Below w0.heap.size w0 wr ∧ Kb b w wr) (fun iv _ => n + 1 - (intOf iv).toNat)
  case atStart => exact ⟨0, by omega, rfl, by rw [List.take_zero]; exact (show Bf w1 w0.heap.size b (l ++ word.data.toList ++ []) by rw [List.append_nil]; exact HB1.out), HBE1.out, HK1.out⟩
  case round =>
    obtain ⟨k, hk, rfl, h1, h2, h3⟩ := hrel
    clear HB1 HBE1 HK1
    have HB1 := Lib.hid h1
    have HBE1 := Lib.hid h2
    have HK1 := Lib.hid h3
    clear h1 h2 h3
    have hlen : (l ++ word.data.toList ++ numsT (xs.take k)).length ≤ 30000000 := by
      have h4 := numsT_len (xs := xs.take k) (fun x hx => HI.out x (List.mem_of_mem_take hx))
      have h5 := HN.out
      have h6 := HWS.out
      rw [List.length_take] at h4
      simp only [List.length_append]
      omega
    by_cases hlt : k < n
    · obtain ⟨a', c', he, hs⟩ := HS.out wr HBE1.out HK1.out
      cases he
      obtain ⟨g, off, rfl, hg, hx0⟩ := (show ∃ g off, a = some ⟨g, off, none⟩ ∧ g < wr.heap.size ∧ wr.cell? ⟨g, off + k, none⟩ = some (.int .i64 (xs[k]?.getD 0)) from by
        rcases hs with h0 | ⟨g, off, rfl, hg, hr⟩
        · rw [h0] at HN; have := HN.out; simp at this; omega
        · exact ⟨g, off, rfl, hg, by have := hr k (by rw [HN.out]; exact hlt); rw [this]; simp [List.getElem?_eq_getElem (show k < xs.length by rw [HN.out]; exact hlt)]⟩)
      obtain ⟨x, hxe⟩ : ∃ x, xs[k]?.getD 0 = x := ⟨_, rfl⟩
      rw [hxe] at hx0
      have hxk : xs[k]'(by rw [HN.out]; exact hlt) = x := by rw [← hxe, List.getElem?_eq_getElem (show k < xs.length by rw [HN.out]; exact hlt)]; rfl
      have HXI : Hid (InI x) := Lib.hid (by rw [← hxk]; exact HI.out _ (List.getElem_mem _))
      have HTK : Hid (numsT (xs.take (k + 1)) = numsT (xs.take k) ++ 32 :: Lib.itoa x) := Lib.hid (by rw [numsT_take (show k < xs.length by rw [HN.out]; exact hlt), hxk])
      clear hs hxe hxk
      go_wp2_with fail
      refine (wbyte_any b _ 32 w0 wr HB1.out HBE1.out (by omega)).mono ?_
      rintro e w2 ⟨rfl, h1, h2, h3⟩
      have HB2 := Lib.hid h1
      have HBE2 := Lib.hid h2
      have HK2 := Lib.hid (HK1.out.trans h3)
      clear h1 h2 h3
      go_wp2_with fail
      refine (itoa_any x HXI.out w2 (HV.out.touch (Touch.of_below HBE2.out))).mono ?_
      rintro e w3 ⟨rfl, ht⟩
      have HB3 := Lib.hid (HB2.out.touch ht)
      have HBE3 := Lib.hid (HBE2.out.trans (ht.below (Nat.le_refl _) (by simp) |>.mono HBE2.out.size))
      have HK3 := Lib.hid (HK2.out.trans (Kb.touch ht))
      clear ht
      go_wp2_with fail
      refine (wstr_any b _ (mk (Lib.itoa x)) w0 w3 HB3.out HBE3.out (by simp only [List.length_append, List.length_cons, List.length_nil] at hlen ⊢; omega) (by have := itoa_len HXI.out; omega)).mono ?_
      rintro e w4 ⟨rfl, h1, h2, h3⟩
      rw [mk_list] at h1
      have HB4 : Hid (Bf w4 w0.heap.size b (l ++ word.data.toList ++ numsT (xs.take (k + 1)))) := Lib.hid (by rw [HTK.out]; simpa using h1)
      have HBE4 := Lib.hid h2
      have HK4 := Lib.hid (HK3.out.trans h3)
      clear h1 h2 h3
      go_wp2_with fail
      go_roundw
      case rel => exact ⟨k + 1, by omega, by go_num, HB4.out, HBE4.out, HK4.out⟩
      case measure => simp [intOf]; omega
    · obtain rfl : n = k := by omega
      go_wp2_with fail
      refine (wbyte_any b _ 10 w0 wr HB1.out HBE1.out (by omega)).mono ?_
      rintro e w2 ⟨rfl, h1, h2, h3⟩
      have HB2 : Hid (Bf w2 w0.heap.size b (l ++ (word.data.toList ++ (numsT xs ++ [10])))) := Lib.hid (by rw [← HN.out, List.take_length] at h1; simpa using h1)
      have HBE2 := Lib.hid h2
      have HK2 := Lib.hid (HK1.out.trans h3)
      clear h1 h2 h3
      go_wp2_with fail
      go_end0
      exact ⟨rfl, HB2.out, HBE2.out, HK2.out⟩
end Go.Proofs.YtnhbnggkaomfcaaDoor
