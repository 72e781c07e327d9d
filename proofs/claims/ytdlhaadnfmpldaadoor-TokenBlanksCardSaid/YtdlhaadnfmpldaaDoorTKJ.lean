/-
  What is read at a place.
-/
import Derived.Test.YtdlhaadnfmpldaaDoorTKI
set_option linter.unusedVariables false
namespace Go.Proofs.YtdlhaadnfmpldaaDoor
open Go Go.RowKit

/-- The rune at a place, by its first byte. -/
def Run1 (c : UInt8) (x : Int) : Prop := (c.toNat < 128 ∧ x = (c.toNat : Int)) ∨ (128 ≤ c.toNat ∧ 128 ≤ x)
theorem run1_at (s : ByteArray) (p : Nat) (hp : p < s.size) {c : UInt8} {r : List UInt8} (hd : s.data.toList.drop p = c :: r) : Run1 c ((Utf8.decode s p).1 : Int) := by
  have hc : s[p]'hp = c := by
    rw [← byte_at s p hp, List.getD_eq_getElem?_getD]
    have : (s.data.toList.drop p)[0]? = some c := by rw [hd]; rfl
    rw [List.getElem?_drop] at this
    rw [show p = p + 0 from rfl, this]
    rfl
  by_cases ha : (s[p]'hp).toNat < 128
  · rw [decode_ascii s p hp ha, hc]
    rw [hc] at ha
    exact .inl ⟨ha, rfl⟩
  · have := (decode_high s p hp (by omega)).1
    rw [hc] at ha
    exact .inr ⟨by omega, by omega⟩
theorem Run1.eq {c : UInt8} {x : Int} (h : Run1 c x) {n : Nat} (hn : n < 128) : x = (n : Int) ↔ c.toNat = n := by
  rcases h with ⟨h1, h2⟩ | ⟨h1, h2⟩ <;> omega
theorem Run1.blk {c : UInt8} {x : Int} (h : Run1 c x) : isBlk c = decide (x = 32 ∨ x = 9 ∨ x = 10 ∨ x = 13) := by
  unfold isBlk
  rw [decide_eq_decide]
  rcases h with ⟨h1, h2⟩ | ⟨h1, h2⟩ <;> omega
theorem Run1.let' {c : UInt8} {x : Int} (h : Run1 c x) : isLet c = decide (97 ≤ x ∧ x ≤ 122) := by
  unfold isLet
  rw [decide_eq_decide]
  rcases h with ⟨h1, h2⟩ | ⟨h1, h2⟩ <;> omega
theorem Run1.dig {c : UInt8} {x : Int} (h : Run1 c x) : isDig c = decide (48 ≤ x ∧ x ≤ 57) := by
  unfold isDig
  rw [decide_eq_decide]
  rcases h with ⟨h1, h2⟩ | ⟨h1, h2⟩ <;> omega
theorem byte_eq {c : UInt8} {n : Nat} (h : n < 256) : c.toNat = n ↔ c = UInt8.ofNat n := by
  constructor
  · intro e
    apply UInt8.toNat_inj.1
    rw [e, UInt8.toNat_ofNat']
    omega
  · rintro rfl
    rw [UInt8.toNat_ofNat']
    omega
theorem step_blk {p : Nat} {c : UInt8} {r : List UInt8} (h : isBlk c = true) : stepT p c r = .go 0 [] := by unfold stepT; rw [if_pos h]
theorem step_rem {p : Nat} {c : UInt8} {r : List UInt8} (h : isBlk c = false) (h1 : c = 123) : stepT p c r = (match ahead 125 r with | none => .bad 11 | some n => .go (n + 1) []) := by unfold stepT; rw [if_neg (by rw [h]; decide), if_pos h1]; cases ahead 125 r <;> rfl
theorem step_pv {p : Nat} {c : UInt8} {r : List UInt8} (h : isBlk c = false) (h1 : ¬ c = 123) (h2 : c = 80 ∨ c = 86) : stepT p c r = .go 0 [⟨3, p, 0, [c]⟩] := by unfold stepT; rw [if_neg (by rw [h]; decide), if_neg h1, if_pos h2]
theorem step_let {p : Nat} {c : UInt8} {r : List UInt8} (h : isBlk c = false) (h1 : ¬ c = 123) (h2 : ¬ (c = 80 ∨ c = 86)) (h3 : isLet c = true) : stepT p c r = nameT p c r := by unfold stepT; rw [if_neg (by rw [h]; decide), if_neg h1, if_neg h2, if_pos h3]; rfl
theorem step_dig {p : Nat} {c : UInt8} {r : List UInt8} (h : isBlk c = false) (h1 : ¬ c = 123) (h2 : ¬ (c = 80 ∨ c = 86)) (h3 : isLet c = false) (h4 : isDig c = true) : stepT p c r = numT p c r := by unfold stepT; rw [if_neg (by rw [h]; decide), if_neg h1, if_neg h2, if_neg (by rw [h3]; decide), if_pos h4]; rfl
theorem step_sgn {p : Nat} {c : UInt8} {r : List UInt8} (h : isBlk c = false) (h1 : ¬ c = 123) (h2 : ¬ (c = 80 ∨ c = 86)) (h3 : isLet c = false) (h4 : isDig c = false) : stepT p c r = sgnT p (c :: r) := by unfold stepT; rw [if_neg (by rw [h]; decide), if_neg h1, if_neg h2, if_neg (by rw [h3]; decide), if_neg (by rw [h4]; decide)]; rfl
/-- A step's answer as the pair of its values. -/
theorem StepP.tup {w0 : Fr} {rb mb : Nat} {s : ByteArray} {l : List Tok} {p : Nat} {x : StepR} {e : Ending} {w' : World} (h : StepP w0 rb mb s l p x e w') : ∃ a c : Int, e = .returned (.tuple #[.int .i64 a, .int .i64 c]) ∧ StepP w0 rb mb s l p x (.returned (.tuple #[.int .i64 a, .int .i64 c])) w' := by
  unfold StepP at h
  cases x with
  | go k ts => obtain ⟨rfl, h2⟩ := h; exact ⟨_, _, rfl, rfl, h2⟩
  | bad c => obtain ⟨rfl, h2⟩ := h; exact ⟨_, _, rfl, rfl, h2⟩
set_option maxHeartbeats 8000000 in
set_option maxRecDepth 100000 in
theorem read_any (w0 : Fr) (w : World) (rb mb : Nat) (s : ByteArray) (tv : Value) (l : List Tok) (p : Nat) (c : UInt8) (r : List UInt8) (x : Int) (h : Rdr w0 w rb mb s tv l) (hv0 : Vs w0.w) (hs : s.size ≤ 5000) (hp : p < s.size) (hl : l.length ≤ 5000) (hd : s.data.toList.drop p = c :: r) (hx : Run1 c x) :
    Calls Tryd.prog 15 #[.pointer (some ⟨rb, 0, none⟩), .int .i64 (p : Int), .int .i32 x] w (StepP w0 rb mb s l p (stepT p c r)) := by
  have HR := Lib.hid h
  have HV := Lib.hid hv0
  have HD := Lib.hid hd
  have hblk := hx.blk
  have hlet := hx.let'
  have hdig := hx.dig
  have h123 : x = 123 ↔ c = 123 := (hx.eq (n := 123) (by omega)).trans (byte_eq (by omega))
  have h80 : x = 80 ↔ c = 80 := (hx.eq (n := 80) (by omega)).trans (byte_eq (by omega))
  have h86 : x = 86 ↔ c = 86 := (hx.eq (n := 86) (by omega)).trans (byte_eq (by omega))
  have HL := Lib.hid (letter_any x w)
  have HG := Lib.hid (digit_any x w)
  clear h hv0 hd hx
  by_cases e32 : x = 32
  · have HX := Lib.hid (step_blk (p := p) (r := r) (show isBlk c = true from by rw [hblk, decide_eq_true_iff]; omega))
    clear hblk hlet hdig h123 h80 h86 HL HG
    subst e32
    go_enter Tryd.func15, Tryd.ntmps15
    go_wp2_with fail
    go_ret2
    rw [HX.out]
    exact ⟨ret2_eq (by omega), _, by rw [List.append_nil]; exact HR.out⟩
  by_cases e9 : x = 9
  · have HX := Lib.hid (step_blk (p := p) (r := r) (show isBlk c = true from by rw [hblk, decide_eq_true_iff]; omega))
    clear hblk hlet hdig h123 h80 h86 HL HG
    subst e9
    go_enter Tryd.func15, Tryd.ntmps15
    go_wp2_with fail
    go_ret2
    rw [HX.out]
    exact ⟨ret2_eq (by omega), _, by rw [List.append_nil]; exact HR.out⟩
  by_cases e10 : x = 10
  · have HX := Lib.hid (step_blk (p := p) (r := r) (show isBlk c = true from by rw [hblk, decide_eq_true_iff]; omega))
    clear hblk hlet hdig h123 h80 h86 HL HG
    subst e10
    go_enter Tryd.func15, Tryd.ntmps15
    go_wp2_with fail
    go_ret2
    rw [HX.out]
    exact ⟨ret2_eq (by omega), _, by rw [List.append_nil]; exact HR.out⟩
  by_cases e13 : x = 13
  · have HX := Lib.hid (step_blk (p := p) (r := r) (show isBlk c = true from by rw [hblk, decide_eq_true_iff]; omega))
    clear hblk hlet hdig h123 h80 h86 HL HG
    subst e13
    go_enter Tryd.func15, Tryd.ntmps15
    go_wp2_with fail
    go_ret2
    rw [HX.out]
    exact ⟨ret2_eq (by omega), _, by rw [List.append_nil]; exact HR.out⟩
  have hB : isBlk c = false := by rw [hblk, decide_eq_false_iff_not]; omega
  by_cases e123 : x = 123
  · have hc := h123.1 e123
    have HX := Lib.hid (step_rem (p := p) (r := r) hB hc)
    have hc2 := HD.out
    rw [hc] at hc2
    have HD2 := Lib.hid hc2
    clear hblk hlet hdig h123 h80 h86 HL HG hB hc hc2 e32 e9 e10 e13
    subst e123
    go_enter Tryd.func15, Tryd.ntmps15
    go_wp2_with fail
    refine (remark_any w0 w rb mb s tv l p r HR.out hs hp HD2.out).mono ?_
    intro e w2 hst
    obtain ⟨a, b, rfl, hst⟩ := hst.tup
    have HST := Lib.hid hst
    clear hst
    go_wp2_with fail
    go_ret2
    rw [HX.out]
    exact HST.out
  have hN : ¬ c = 123 := fun e => e123 (h123.2 e)
  by_cases e8 : x = 80 ∨ x = 86
  · have hc : c = 80 ∨ c = 86 := e8.imp h80.1 h86.1
    have HX := Lib.hid (step_pv (p := p) (r := r) hB hN hc)
    have c0 := HR.out.obj.cell (i := 0) rfl
    have hE : (s.extract p (p + 1)).data.toList = [c] := by
      rw [ByteArray.data_extract, Array.toList_extract]
      show (s.data.toList.drop p).take (p + 1 - p) = _
      rw [HD.out, show p + 1 - p = 1 from by omega]
      rfl
    have hE1 : (s.extract p (p + 1)).size = 1 := by rw [← len_list, hE]; rfl
    have HE := Lib.hid hE
    clear hblk hlet hdig h123 h80 h86 HL HG hB hc hE e32 e9 e10 e13
    rcases e8 with e | e <;> subst e
    · go_enter Tryd.func15, Tryd.ntmps15
      go_wp2_with fail
      refine (put_q w0 w rb mb s tv l 3 p 0 (s.extract p (p + 1)) HR.out hl (by omega) (by omega)).mono ?_
      rintro e w2 ⟨rfl, tv', hR3⟩
      rw [HE.out] at hR3
      have HR3 := Lib.hid hR3
      clear hR3
      go_wp2_with fail
      go_ret2
      rw [HX.out]
      exact ⟨ret2_eq (by omega), tv', HR3.out⟩
    · go_enter Tryd.func15, Tryd.ntmps15
      go_wp2_with fail
      refine (put_q w0 w rb mb s tv l 3 p 0 (s.extract p (p + 1)) HR.out hl (by omega) (by omega)).mono ?_
      rintro e w2 ⟨rfl, tv', hR3⟩
      rw [HE.out] at hR3
      have HR3 := Lib.hid hR3
      clear hR3
      go_wp2_with fail
      go_ret2
      rw [HX.out]
      exact ⟨ret2_eq (by omega), tv', HR3.out⟩
  have hP : ¬ (c = 80 ∨ c = 86) := fun e => e8 (e.imp h80.2 h86.2)
  have e80 : ¬ x = 80 := fun e => e8 (.inl e)
  have e86 : ¬ x = 86 := fun e => e8 (.inr e)
  have b32 : (x == 32) = false := by simpa using e32
  have b9 : (x == 9) = false := by simpa using e9
  have b10 : (x == 10) = false := by simpa using e10
  have b13 : (x == 13) = false := by simpa using e13
  have b123 : (x == 123) = false := by simpa using e123
  have b80 : (x == 80) = false := by simpa using e80
  have b86 : (x == 86) = false := by simpa using e86
  clear e8 e32 e9 e10 e13 e123 e80 e86
  cases hL : isLet c with
  | true =>
    have HX := Lib.hid (step_let (p := p) (r := r) hB hN hP hL)
    rw [← hlet, hL] at HL
    clear hblk hlet hdig h123 h80 h86 HG hB
    have HLL := Lib.hid hL
    clear hL
    go_enter Tryd.func15, Tryd.ntmps15
    go_wp2_with fail
    refine HL.out.mono ?_
    rintro e w3 ⟨rfl, rfl⟩
    go_wp2_with fail
    refine (name_any w0 w rb mb s tv l p c r HR.out hs hp hl HD.out HLL.out).mono ?_
    intro e w2 hst
    obtain ⟨a, b, rfl, hst⟩ := hst.tup
    have HST := Lib.hid hst
    clear hst
    go_wp2_with fail
    go_ret2
    rw [HX.out]
    exact HST.out
  | false =>
    rw [← hlet, hL] at HL
    cases hG : isDig c with
    | true =>
      have HX := Lib.hid (step_dig (p := p) (r := r) hB hN hP hL hG)
      rw [← hdig, hG] at HG
      clear hblk hlet hdig h123 h80 h86 hB
      have HGG := Lib.hid hG
      clear hL hG
      go_enter Tryd.func15, Tryd.ntmps15
      go_wp2_with fail
      refine HL.out.mono ?_
      rintro e w3 ⟨rfl, rfl⟩
      go_wp2_with fail
      refine HG.out.mono ?_
      rintro e w3 ⟨rfl, rfl⟩
      go_wp2_with fail
      refine (number_any w0 w rb mb s tv l p c r HR.out HV.out hs hp hl HD.out HGG.out).mono ?_
      intro e w2 hst
      obtain ⟨a, b, rfl, hst⟩ := hst.tup
      have HST := Lib.hid hst
      clear hst
      go_wp2_with fail
      go_ret2
      rw [HX.out]
      exact HST.out
    | false =>
      have HX := Lib.hid (step_sgn (p := p) (r := r) hB hN hP hL hG)
      rw [← hdig, hG] at HG
      clear hblk hlet hdig h123 h80 h86 hB hL hG
      go_enter Tryd.func15, Tryd.ntmps15
      go_wp2_with fail
      refine HL.out.mono ?_
      rintro e w3 ⟨rfl, rfl⟩
      go_wp2_with fail
      refine HG.out.mono ?_
      rintro e w3 ⟨rfl, rfl⟩
      go_wp2_with fail
      refine (sign_any w0 w rb mb s tv l p c r HR.out HV.out hs hp hl HD.out).mono ?_
      intro e w2 hst
      obtain ⟨a, b, rfl, hst⟩ := hst.tup
      have HST := Lib.hid hst
      clear hst
      go_wp2_with fail
      go_ret2
      rw [HX.out]
      exact HST.out
end Go.Proofs.YtdlhaadnfmpldaaDoor
