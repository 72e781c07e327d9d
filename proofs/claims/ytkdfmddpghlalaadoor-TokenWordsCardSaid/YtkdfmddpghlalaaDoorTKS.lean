/-
  The laws TokenAll and TokenWords.
-/
import Derived.Test.YtkdfmddpghlalaaDoorTKR
set_option linter.unusedVariables false
namespace Go.Proofs.YtkdfmddpghlalaaDoor
open Go Go.RowKit

/-- What both of All answer: a list of tokens and a fault, in one form. -/
def AnsP (w : World) (T : List Tok) (c a : Int) (e : Ending) (w' : World) : Prop := ∃ v, e = .returned (.tuple #[v, .agg #[.int .i64 c, .int .i64 a]]) ∧ Tks w' w.heap.size v T ∧ Touch [] w w'
def ansT : TokR → List Tok
  | .ok T => T
  | .bad _ _ => []
def ansC : TokR → Int
  | .ok _ => 0
  | .bad c _ => c
def ansA : TokR → Int
  | .ok _ => 0
  | .bad _ a => a
theorem AllP.ans {w : World} {L : List UInt8} {e : Ending} {w' : World} (h : AllP w L e w') : AnsP w (ansT (allT L)) (ansC (allT L)) (ansA (allT L)) e w' := by
  obtain ⟨ht, h⟩ := h
  cases he : allT L with
  | ok T =>
    rw [he] at h
    obtain ⟨v, rfl, hT⟩ := h
    exact ⟨v, rfl, hT, ht⟩
  | bad c a =>
    rw [he] at h
    subst h
    exact ⟨_, rfl, Av.nil _ _ _ _ _, ht⟩
theorem scanF_len : ∀ (f : Nat) (l : List UInt8) (p : Nat) (acc : List Tok), (ansT (scanF f l p acc)).length ≤ acc.length + l.length + 1
  | 0, l, p, acc => by show acc.length ≤ _; omega
  | f + 1, [], p, acc => by show (acc ++ _).length ≤ _; simp
  | f + 1, c :: r, p, acc => by
    unfold scanF
    cases hs : stepT p c r with
    | bad x => show 0 ≤ _; omega
    | go k ts =>
      have h := scanF_len f (r.drop k) (p + 1 + k) (acc ++ ts)
      have h1 := (step_last hs).2
      show (ansT (scanF f (r.drop k) (p + 1 + k) (acc ++ ts))).length ≤ _
      rw [List.length_append, List.length_drop] at h
      rw [List.length_cons]
      omega
theorem allT_len (L : List UInt8) : (ansT (allT L)).length ≤ 5000 := by
  unfold allT
  by_cases h : 4096 < L.length
  · rw [if_pos h]; show 0 ≤ _; omega
  · rw [if_neg h]
    have := scanF_len (L.length + 1) L 0 []
    show (ansT (scan L 0 [])).length ≤ _
    unfold scan
    simp at this
    omega
set_option maxHeartbeats 16000000 in
set_option maxRecDepth 100000 in
theorem all_law (v : Value) (L : List UInt8) (w : World) (hb : Bt w v L) (hL : L.length ≤ maxLen) (hv0 : Vs w) : Calls Tryd.prog 3 #[v] w (TrueP w) := by
  obtain ⟨a, cp, rfl, _⟩ := hb.form
  have HB := Lib.hid hb
  have HV := Lib.hid hv0
  obtain ⟨n, hn⟩ : ∃ n, L.length = n := ⟨_, rfl⟩
  have HN := Lib.hid hn
  rw [hn] at HB ⊢
  clear hb hv0 hn hL
  by_cases hbig : 6000 < n
  · have d60 : decide ((6000 : Int) < (n : Int)) = true := dT (by omega)
    clear hbig
    go_enter Tryd.func3, Tryd.ntmps3
    go_wp2_with fail
    refine (awake_any w HV.out).mono ?_
    rintro e w2 ⟨rfl, ht⟩
    have HT := Lib.hid ht
    clear ht
    go_wp2_with fail
    go_ret
    exact ⟨rfl, HT.out⟩
  · have d60 : decide ((6000 : Int) < (n : Int)) = false := dF (by omega)
    have HLL : Hid (L.length ≤ 100000) := Lib.hid (by rw [HN.out]; omega)
    have HTL := Lib.hid (allT_len L)
    obtain ⟨T, hT⟩ : ∃ z, ansT (allT L) = z := ⟨_, rfl⟩
    obtain ⟨C, hC⟩ : ∃ z, ansC (allT L) = z := ⟨_, rfl⟩
    obtain ⟨A, hA⟩ : ∃ z, ansA (allT L) = z := ⟨_, rfl⟩
    rw [hT] at HTL
    have HEQ : Hid (ansT (allT L) = T ∧ ansC (allT L) = C ∧ ansA (allT L) = A) := Lib.hid ⟨hT, hC, hA⟩
    clear hbig hT hC hA
    go_enter Tryd.func3, Tryd.ntmps3
    go_wp2_with fail
    refine (all_any w _ L HV.out HB.out HLL.out).mono ?_
    intro e w1 h1
    obtain ⟨v1, rfl, hk1, ht1⟩ := h1.ans
    rw [HEQ.out.1] at hk1
    rw [HEQ.out.2.1, HEQ.out.2.2]
    obtain ⟨a1, c1, rfl⟩ := hk1.form
    have hb1 : Blk (w1.alloc (.cells #[.int .i64 C, .int .i64 A] 27)) w1.heap.size #[.int .i64 C, .int .i64 A] 27 := Blk.new rfl
    have HT1 := Lib.hid (ht1.alloc (.cells #[.int .i64 C, .int .i64 A] 27))
    have HK1 := Lib.hid (hk1.touch ((Touch.refl [] w1).alloc (.cells #[.int .i64 C, .int .i64 A] 27)) (fun _ _ => by simp))
    obtain ⟨g1, hg1⟩ : ∃ z, w1.heap.size = z := ⟨_, rfl⟩
    obtain ⟨W1, hW1⟩ : ∃ x, (w1.alloc (.cells #[.int .i64 C, .int .i64 A] 27)) = x := ⟨_, rfl⟩
    rw [hg1, hW1] at hb1
    rw [hW1] at HT1 HK1
    have HG1 := Lib.hid hb1
    have HWW := Lib.hid hW1
    have HGG := Lib.hid hg1
    clear hb1 hW1 hg1 h1 hk1 ht1
    go_upto_region 4 with fail
    rw [HGG.out]
    rw [HWW.out]
    clear HGG HWW
    go_wp2_with fail
    refine (rall_any W1 _ L (HB.out.touch HT1.out (by simp)) HLL.out).mono ?_
    intro e w2 h2
    obtain ⟨v2, rfl, hk2, ht2⟩ := h2.ans
    rw [HEQ.out.1] at hk2
    rw [HEQ.out.2.1, HEQ.out.2.2]
    obtain ⟨a2, c2, rfl⟩ := hk2.form
    have hb2 : Blk (w2.alloc (.cells #[.int .i64 C, .int .i64 A] 27)) w2.heap.size #[.int .i64 C, .int .i64 A] 27 := Blk.new rfl
    have HTS := Lib.hid (ht2.alloc (.cells #[.int .i64 C, .int .i64 A] 27))
    have HT2 := Lib.hid (HT1.out.trans HTS.out)
    have HKn := Lib.hid (HK1.out.touch HTS.out (fun _ _ => by simp))
    have HGn := Lib.hid (HG1.out.touch HTS.out (by simp))
    have HK2 := Lib.hid (hk2.touch ((Touch.refl [] w2).alloc (.cells #[.int .i64 C, .int .i64 A] 27)) (fun _ _ => by simp))
    clear HK1 HG1
    obtain ⟨g2, hg2⟩ : ∃ z, w2.heap.size = z := ⟨_, rfl⟩
    obtain ⟨W2, hW2⟩ : ∃ x, (w2.alloc (.cells #[.int .i64 C, .int .i64 A] 27)) = x := ⟨_, rfl⟩
    rw [hg2, hW2] at hb2
    rw [hW2] at HT2 HKn HGn HK2
    have HG2 := Lib.hid hb2
    have HWW := Lib.hid hW2
    have HGG := Lib.hid hg2
    clear hb2 hW2 hg2 h2 hk2 ht2 HTS
    go_upto_region 5 with fail
    rw [HGG.out]
    rw [HWW.out]
    have z10 := HGn.out.cell (i := 0) rfl
    have z11 := HGn.out.cell (i := 1) rfl
    have z20 := HG2.out.cell (i := 0) rfl
    have z21 := HG2.out.cell (i := 1) rfl
    clear HGG HWW
    go_wp2_with fail
    refine (tokens_any _ _ _ _ T T _ HKn.out HK2.out (by have := HTL.out; omega) (by have := HTL.out; omega)).mono ?_
    rintro e w5 ⟨rfl, ht5⟩
    rw [show decide (T = T) = true from dT rfl]
    have HT5 := Lib.hid (HT2.out.trans ht5)
    clear ht5
    go_wp2_with fail
    refine (awake_any _ (HV.out.touch HT5.out)).mono ?_
    rintro e w6 ⟨rfl, ht6⟩
    have HT6 := Lib.hid (HT5.out.trans ht6)
    clear ht6
    go_wp2_with fail
    go_ret
    exact ⟨rfl, HT6.out⟩
set_option maxHeartbeats 4000000 in
theorem words_law (s : ByteArray) (hs : s.size ≤ maxLen) (w : World) (hv0 : Vs w) : Calls Tryd.prog 4 #[.string s] w (TrueP w) := by
  have HV := Lib.hid hv0
  clear hv0 hs
  by_cases hbig : 300 < s.size
  · have d3 : decide ((300 : Int) < (s.size : Int)) = true := dT (by omega)
    have d3n : decide (300 < s.size) = true := dT hbig
    clear hbig
    go_enter Tryd.func4, Tryd.ntmps4
    go_wp2_with fail
    refine (awake_any w HV.out).mono ?_
    rintro e w2 ⟨rfl, ht⟩
    have HT := Lib.hid ht
    clear ht
    go_wp2_with fail
    go_ret
    exact ⟨rfl, HT.out⟩
  · have d3 : decide ((300 : Int) < (s.size : Int)) = false := dF (by omega)
    have d3n : decide (300 < s.size) = false := dF hbig
    clear hbig
    go_enter Tryd.func4, Tryd.ntmps4
    go_wp2_with fail
    refine (word_any s w HV.out).mono ?_
    rintro e w2 ⟨rfl, ht⟩
    have HT := Lib.hid ht
    clear ht
    go_wp2_with fail
    refine (rword_any s w2).mono ?_
    rintro e w3 ⟨rfl, ht⟩
    have HT3 := Lib.hid (HT.out.trans ht)
    clear ht
    obtain ⟨B, hB⟩ : ∃ b, isWord s.data.toList = b := ⟨_, rfl⟩
    rw [hB]
    clear hB
    have hbb : (B == B) = true := by simp
    go_wp2_with fail
    refine (awake_any _ (HV.out.touch HT3.out)).mono ?_
    rintro e w6 ⟨rfl, ht6⟩
    have HT6 := Lib.hid (HT3.out.trans ht6)
    clear ht6
    go_wp2_with fail
    go_ret
    exact ⟨rfl, HT6.out⟩
end Go.Proofs.YtkdfmddpghlalaaDoor
