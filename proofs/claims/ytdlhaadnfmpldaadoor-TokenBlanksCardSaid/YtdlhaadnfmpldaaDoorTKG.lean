/-
  What is read at a place: a remark, a name, a number, a sign.
-/
import Derived.Test.YtdlhaadnfmpldaaDoorTKF
set_option linter.unusedVariables false
namespace Go.Proofs.YtdlhaadnfmpldaaDoor
open Go Go.RowKit

def StepP (w0 : Fr) (rb mb : Nat) (s : ByteArray) (l : List Tok) (p : Nat) (x : StepR) (e : Ending) (w' : World) : Prop :=
  match x with
  | .go k ts => e = .returned (.tuple #[.int .i64 ((p : Int) + 1 + (k : Int)), .int .i64 0]) ∧ ∃ tv', Rdr w0 w' rb mb s tv' (l ++ ts)
  | .bad c => e = .returned (.tuple #[.int .i64 0, .int .i64 c]) ∧ ∃ tv', Rdr w0 w' rb mb s tv' l
theorem ix_ahead : ∀ (l : List UInt8) (c : UInt8), Lib.indexByte l c = (match ahead c l with | none => -1 | some n => (n : Int))
  | [], c => rfl
  | b :: l, c => by
    unfold ahead
    by_cases hb : b = c
    · subst hb
      rw [Lib.indexByte, if_pos (by simp), if_pos rfl]
      rfl
    · rw [Lib.indexByte, if_neg (by simpa using hb), if_neg hb, ix_ahead l c]
      cases ahead c l with
      | none => rfl
      | some n =>
        show (if ((n : Int)) = -1 then (-1 : Int) else (n : Int) + 1) = ((n + 1 : Nat) : Int)
        rw [if_neg (by omega)]
        omega
theorem rest_list (s : ByteArray) (p : Nat) (hp : p ≤ s.size) : (s.extract p s.size).data.toList = s.data.toList.drop p := by
  rw [ByteArray.data_extract, Array.toList_extract]
  show (s.data.toList.drop p).take (s.size - p) = _
  rw [List.take_of_length_le]
  simp
theorem len_list (s : ByteArray) : s.data.toList.length = s.size := by simp
theorem ret2_eq {a b c : Int} (h : a = b) : Ending.returned (.tuple #[.int .i64 a, .int .i64 c]) = Ending.returned (.tuple #[.int .i64 b, .int .i64 c]) := by rw [h]
theorem put_q (w0 : Fr) (w : World) (rb mb : Nat) (s : ByteArray) (tv : Value) (l : List Tok) (kind pos num : Int) (TX : ByteArray) (h : Rdr w0 w rb mb s tv l) (hl : l.length ≤ 5000) (hp : 0 ≤ pos ∧ pos ≤ 5000) (ht : TX.size ≤ 5000) :
    Calls Tryd.prog 29 #[.pointer (some ⟨rb, 0, none⟩), .agg #[.int .i64 kind, .int .i64 pos, .int .i64 num, .string TX]] w (PutP w0 w rb mb s l ⟨kind, pos, num, TX.data.toList⟩ (pos + (TX.size : Int))) := by
  have := put_any w0 w rb mb s tv l kind pos num TX.data.toList h hl hp (by rw [len_list]; exact ht)
  rw [len_list] at this
  exact this
set_option maxHeartbeats 4000000 in
set_option maxRecDepth 100000 in
theorem remark_any (w0 : Fr) (w : World) (rb mb : Nat) (s : ByteArray) (tv : Value) (l : List Tok) (p : Nat) (r : List UInt8) (h : Rdr w0 w rb mb s tv l) (hs : s.size ≤ 5000) (hp : p < s.size) (hd : s.data.toList.drop p = 123 :: r) :
    Calls Tryd.prog 28 #[.pointer (some ⟨rb, 0, none⟩), .int .i64 (p : Int)] w (StepP w0 rb mb s l p (match ahead 125 r with | none => .bad 11 | some n => .go (n + 1) [])) := by
  have HR := Lib.hid h
  have c0 := h.obj.cell (i := 0) rfl
  have hix : Lib.indexByte (s.extract p s.size).data.toList 125 = (match ahead 125 r with | none => -1 | some n => ((n + 1 : Nat) : Int)) := by
    rw [rest_list s p (by omega), hd, ix_ahead]
    rw [show ahead 125 (123 :: r) = (ahead 125 r).map (· + 1) from by rw [ahead, if_neg (by decide)]]
    cases ahead 125 r <;> rfl
  have hlr : r.length + 1 = s.size - p := by
    have := congrArg List.length hd
    rw [List.length_drop, len_list, List.length_cons] at this
    omega
  have HIX := Lib.hid hix
  clear h hix hd
  cases hq : ahead 125 r with
  | none =>
    rw [hq] at HIX
    go_enter Tryd.func28, Tryd.ntmps28
    go_wp2_with fail
    refine (Tryd.strings_IndexByte (s.extract p s.size) 125 _).mono ?_
    rintro e w2 ⟨rfl, rfl⟩
    rw [show (125 : Int).toNat.toUInt8 = 125 from rfl, HIX.out]
    go_wp2_with fail
    go_ret2
    exact ⟨rfl, _, HR.out⟩
  | some n =>
    have hn := ahead_lt hq
    rw [hq] at HIX
    go_enter Tryd.func28, Tryd.ntmps28
    go_wp2_with fail
    refine (Tryd.strings_IndexByte (s.extract p s.size) 125 _).mono ?_
    rintro e w2 ⟨rfl, rfl⟩
    rw [show (125 : Int).toNat.toUInt8 = 125 from rfl, HIX.out]
    go_wp2_with fail
    go_ret2
    exact ⟨ret2_eq (by push_cast; omega), _, by rw [List.append_nil]; exact HR.out⟩
theorem rest_size {s : ByteArray} {p : Nat} {c : UInt8} {r : List UInt8} (hd : s.data.toList.drop p = c :: r) (hp : p < s.size) : r.length + 1 + p = s.size := by
  have := congrArg List.length hd
  rw [List.length_drop, len_list, List.length_cons] at this
  omega
theorem size_rest (s : ByteArray) (p : Nat) : (s.extract p s.size).size = s.size - p := by simp
/-- What was gone through, as a list. -/
theorem run_list (P : UInt8 → Bool) (R : ByteArray) {c : UInt8} {r : List UInt8} (hR : R.data.toList = c :: r) (hc : P c = true) :
    (R.extract 0 (R.data.toList.takeWhile P).length).data.toList = c :: r.takeWhile P := by
  rw [ByteArray.data_extract, Array.toList_extract]
  show (R.data.toList.drop 0).take _ = _
  rw [List.drop_zero, hR, List.takeWhile_cons, if_pos hc]
  show List.take ((r.takeWhile P).length + 1) (c :: r) = _
  rw [List.take_succ_cons]
  congr 1
  exact (List.prefix_iff_eq_take.1 (List.takeWhile_prefix P)).symm
def nameT (p : Nat) (c : UInt8) (r : List UInt8) : StepR :=
  if isWord (c :: r.takeWhile letDig) = true then .go (r.takeWhile letDig).length [⟨3, p, 0, c :: r.takeWhile letDig⟩]
  else if 12 < (c :: r.takeWhile letDig).length then .bad 12 else .go (r.takeWhile letDig).length [⟨1, p, 0, c :: r.takeWhile letDig⟩]
set_option maxHeartbeats 4000000 in
set_option maxRecDepth 100000 in
theorem name_any (w0 : Fr) (w : World) (rb mb : Nat) (s : ByteArray) (tv : Value) (l : List Tok) (p : Nat) (c : UInt8) (r : List UInt8) (h : Rdr w0 w rb mb s tv l) (hs : s.size ≤ 5000) (hp : p < s.size) (hl : l.length ≤ 5000) (hd : s.data.toList.drop p = c :: r) (hc : isLet c = true) :
    Calls Tryd.prog 31 #[.pointer (some ⟨rb, 0, none⟩), .int .i64 (p : Int)] w (StepP w0 rb mb s l p (nameT p c r)) := by
  have HR := Lib.hid h
  have c0 := h.obj.cell (i := 0) rfl
  have hsr := size_rest s p
  have hRL := rest_list s p (by omega)
  rw [hd] at hRL
  have hTL := run_list letDig (s.extract p s.size) hRL (by unfold letDig; rw [hc]; rfl)
  obtain ⟨T, hT⟩ : ∃ z, (s.extract p s.size).extract 0 ((s.extract p s.size).data.toList.takeWhile letDig).length = z := ⟨_, rfl⟩
  rw [hT] at hTL
  have htw := takeWhile_le letDig r
  have hrs := rest_size hd hp
  have hTs : T.size = (r.takeWhile letDig).length + 1 := by rw [← len_list, hTL]; rfl
  have hTl : T.data.toList.length = T.size := len_list T
  obtain ⟨k, hk⟩ : ∃ k, (r.takeWhile letDig).length = k := ⟨_, rfl⟩
  have hX1 : isWord T.data.toList = true → nameT p c r = .go k [⟨3, p, 0, T.data.toList⟩] := fun hw => by
    unfold nameT; rw [← hTL, if_pos hw, hk]
  have hX2 : isWord T.data.toList = false → 12 < T.size → nameT p c r = .bad 12 := fun hw hlong => by
    unfold nameT; rw [← hTL, if_neg (by rw [hw]; decide), hTl, if_pos hlong]
  have hX3 : isWord T.data.toList = false → ¬ 12 < T.size → nameT p c r = .go k [⟨1, p, 0, T.data.toList⟩] := fun hw hlong => by
    unfold nameT; rw [← hTL, if_neg (by rw [hw]; decide), hTl, if_neg hlong, hk]
  have HX1 := Lib.hid hX1
  have HX2 := Lib.hid hX2
  have HX3 := Lib.hid hX3
  rw [hk] at hTs htw
  clear hX1 hX2 hX3
  have HT := Lib.hid hT
  have HTL := Lib.hid hTL
  have HC : Hid (Calls Tryd.prog 42 #[.string (s.extract p s.size), .func (.func 43) #[] #[]] w (RunP letDig (s.extract p s.size) w)) := Lib.hid (run_letdig (s.extract p s.size) w (by omega))
  clear h hsr hRL hT hTL hTl hd hk
  go_enter Tryd.func31, Tryd.ntmps31
  go_wp2_with fail
  refine HC.out.mono ?_
  rintro e w2 ⟨rfl, ht⟩
  rw [HT.out]
  have HR2 := Lib.hid (HR.out.touch ht)
  obtain ⟨nm, hm⟩ := HR2.out.mp
  have hlk := wd_look hm T
  have c1 := HR2.out.obj.cell (i := 1) rfl
  clear hm ht c0
  by_cases hw : isWord T.data.toList = true
  · rw [hw] at hlk
    go_wp2_with fail
    refine (put_q w0 w2 rb mb s tv l 3 p 0 T HR2.out hl (by omega) (by omega)).mono ?_
    rintro e w3 ⟨rfl, tv', hR3⟩
    have HR3 := Lib.hid hR3
    clear hR3
    go_wp2_with fail
    go_ret2
    rw [HX1.out hw]
    exact ⟨ret2_eq (by omega), tv', HR3.out⟩
  · have hw : isWord T.data.toList = false := by simpa using hw
    rw [hw] at hlk
    by_cases hlong : 12 < T.size
    · go_wp2_with fail
      go_ret2
      rw [HX2.out hw hlong]
      exact ⟨rfl, _, HR2.out⟩
    · go_wp2_with fail
      refine (put_q w0 w2 rb mb s tv l 1 p 0 T HR2.out hl (by omega) (by omega)).mono ?_
      rintro e w3 ⟨rfl, tv', hR3⟩
      have HR3 := Lib.hid hR3
      clear hR3
      go_wp2_with fail
      go_ret2
      rw [HX3.out hw hlong]
      exact ⟨ret2_eq (by omega), tv', HR3.out⟩
end Go.Proofs.YtdlhaadnfmpldaaDoor
