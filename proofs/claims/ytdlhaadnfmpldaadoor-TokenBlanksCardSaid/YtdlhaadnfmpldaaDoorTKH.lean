/-
  What is read at a place: a number.
-/
import Derived.Test.YtdlhaadnfmpldaaDoorTKG
import Derived.Lib.AtoiAllCases
set_option linter.unusedVariables false
namespace Go.Proofs.YtdlhaadnfmpldaaDoor
open Go Go.RowKit

/-! ### Numerals -/
def valF (acc : Nat) (l : List UInt8) : Nat := l.foldl (fun n c => 10 * n + (c.toNat - 48)) acc
theorem valF_ge : ∀ (l : List UInt8) (acc : Nat), acc ≤ valF acc l
  | [], acc => Nat.le_refl _
  | c :: r, acc => Nat.le_trans (by omega) (valF_ge r (10 * acc + (c.toNat - 48)))
theorem parse_dig : ∀ (l : List UInt8) (acc : Nat), (∀ c ∈ l, isDig c = true) → acc < 18446744073709551616 →
    Lib.parseUint10 acc l = if valF acc l < 18446744073709551616 then .ok (valF acc l) else .range
  | [], acc, _, ha => by
    rw [Lib.parseUint10]
    rw [if_pos (by exact ha)]
    rfl
  | c :: r, acc, hd, ha => by
    have hc : isDig c = true := hd c (by simp)
    unfold isDig at hc
    rw [decide_eq_true_iff] at hc
    have hv : valF acc (c :: r) = valF (10 * acc + (c.toNat - 48)) r := rfl
    have hge := valF_ge r (10 * acc + (c.toNat - 48))
    rw [hv, Lib.parseUint10, if_pos hc]
    by_cases h1 : 1844674407370955162 ≤ acc
    · rw [if_pos h1, if_neg (by omega)]
    · rw [if_neg h1]
      by_cases h2 : 18446744073709551616 ≤ acc * 10 + (c.toNat - 48)
      · rw [if_pos h2, if_neg (by omega)]
      · rw [if_neg h2, parse_dig r (acc * 10 + (c.toNat - 48)) (fun x hx => hd x (by simp [hx])) (by omega), Nat.mul_comm acc 10]
theorem atoi_dig {c : UInt8} {r : List UInt8} (hd : ∀ x ∈ c :: r, isDig x = true) :
    Lib.atoiAll (c :: r) = if valD (c :: r) ≤ 9223372036854775807 then .ok ((valD (c :: r) : Nat) : Int) else .range := by
  have hc : isDig c = true := hd c (by simp)
  unfold isDig at hc
  rw [decide_eq_true_iff] at hc
  have hv : valD (c :: r) = valF 0 (c :: r) := rfl
  rw [Lib.atoiAll_plain c r (by omega) (by omega), Lib.parseMag, if_neg (by simp), parse_dig _ 0 hd (by omega), hv]
  by_cases h : valF 0 (c :: r) < 18446744073709551616
  · rw [if_pos h]
    by_cases h2 : valF 0 (c :: r) ≤ 9223372036854775807
    · rw [if_pos h2, Lib.signless, if_neg (by omega)]
    · rw [if_neg h2, Lib.signless, if_pos (by omega)]
  · rw [if_neg h, if_neg (by omega)]
    rfl
theorem take_dig (p : UInt8 → Bool) (l : List UInt8) : ∀ x ∈ l.takeWhile p, p x = true := fun x hx => by
  have := List.all_takeWhile (p := p) (l := l)
  rw [List.all_eq_true] at this
  exact this x hx
theorem touch_bytes (w : World) (e : TypeId) (t : ByteArray) : Touch [] w (Lib.bytesWorld w e t) :=
  Touch.of_below (Lib.bytesWorld_below w e t)
theorem atoi_ok (p : ByteArray) (hp : p.size ≤ 1000000) (v : Int) (h : Lib.atoiAll p.data.toList = .ok v) (w : World) : Calls Tryd.prog 44 #[.string p] w fun e w' => e = .returned (.tuple #[.int .i64 v, .nilIface]) ∧ Touch [] w w' := by
  refine (Tryd.strconv_Atoi_ok p (by omega) v h w).mono ?_
  rintro e w' ⟨rfl, rfl | ⟨t, rfl⟩⟩
  · exact ⟨rfl, Touch.refl _ _⟩
  · exact ⟨rfl, touch_bytes _ _ _⟩
def AtoiBad (w : World) (e : Ending) (w' : World) : Prop := ∃ v N t, e = .returned (.tuple #[.int .i64 v, .iface t (.pointer (some N))]) ∧ Touch [] w w'
theorem atoi_bad (p : ByteArray) (hp : p.size ≤ 1000000) (h : Lib.atoiAll p.data.toList = .range) (w : World) (hv : Vs w) : Calls Tryd.prog 44 #[.string p] w (AtoiBad w) := by
  obtain ⟨t2, p2, h2⟩ := hv.rng
  refine (Tryd.strconv_Atoi_range_var p (by omega) h t2 p2 w h2).mono ?_
  rintro e w' ⟨N, rfl, _, _, hb⟩
  exact ⟨_, _, _, rfl, Touch.of_below hb⟩
def numT (p : Nat) (c : UInt8) (r : List UInt8) : StepR :=
  if valD (c :: r.takeWhile isDig) ≤ 9223372036854775807 then .go (r.takeWhile isDig).length [⟨2, p, (valD (c :: r.takeWhile isDig) : Nat), []⟩] else .bad 13
set_option maxHeartbeats 8000000 in
set_option maxRecDepth 100000 in
theorem number_any (w0 : Fr) (w : World) (rb mb : Nat) (s : ByteArray) (tv : Value) (l : List Tok) (p : Nat) (c : UInt8) (r : List UInt8) (h : Rdr w0 w rb mb s tv l) (hv0 : Vs w0.w) (hs : s.size ≤ 5000) (hp : p < s.size) (hl : l.length ≤ 5000) (hd : s.data.toList.drop p = c :: r) (hc : isDig c = true) :
    Calls Tryd.prog 33 #[.pointer (some ⟨rb, 0, none⟩), .int .i64 (p : Int)] w (StepP w0 rb mb s l p (numT p c r)) := by
  have HR := Lib.hid h
  have HV := Lib.hid hv0
  have c0 := h.obj.cell (i := 0) rfl
  have hsr := size_rest s p
  have hRL := rest_list s p (by omega)
  rw [hd] at hRL
  have hTL := run_list isDig (s.extract p s.size) hRL hc
  obtain ⟨T, hT⟩ : ∃ z, (s.extract p s.size).extract 0 ((s.extract p s.size).data.toList.takeWhile isDig).length = z := ⟨_, rfl⟩
  rw [hT] at hTL
  have htw := takeWhile_le isDig r
  have hrs := rest_size hd hp
  have hTs : T.size = (r.takeWhile isDig).length + 1 := by rw [← len_list, hTL]; rfl
  have hat := atoi_dig (c := c) (r := r.takeWhile isDig) (fun x hx => by
    rcases List.mem_cons.1 hx with rfl | hx
    · exact hc
    · exact take_dig isDig r x hx)
  rw [← hTL] at hat
  obtain ⟨k, hk⟩ : ∃ k, (r.takeWhile isDig).length = k := ⟨_, rfl⟩
  obtain ⟨V, hV⟩ : ∃ k, valD T.data.toList = k := ⟨_, rfl⟩
  have hX1 : V ≤ 9223372036854775807 → numT p c r = .go k [⟨2, p, (V : Nat), []⟩] := fun hw => by
    unfold numT; rw [← hTL, hV, if_pos hw, hk]
  have hX2 : ¬ V ≤ 9223372036854775807 → numT p c r = .bad 13 := fun hw => by
    unfold numT; rw [← hTL, hV, if_neg hw]
  have HX1 := Lib.hid hX1
  have HX2 := Lib.hid hX2
  rw [hk] at hTs htw
  rw [hV] at hat
  have HT := Lib.hid hT
  have HAT := Lib.hid hat
  have HC : Hid (Calls Tryd.prog 42 #[.string (s.extract p s.size), .func (.func 32) #[] #[]] w (RunP isDig (s.extract p s.size) w)) := Lib.hid (run_dig (s.extract p s.size) w (by omega))
  clear h hv0 hsr hRL hT hTL hd hk hX1 hX2 hat hV
  go_enter Tryd.func33, Tryd.ntmps33
  go_wp2_with fail
  refine HC.out.mono ?_
  rintro e w2 ⟨rfl, ht⟩
  rw [HT.out]
  have HR2 := Lib.hid (HR.out.touch ht)
  clear ht c0
  by_cases hw : V ≤ 9223372036854775807
  · have HA := HAT
    rw [if_pos hw] at HA
    go_wp2_with fail
    refine (atoi_ok T (by omega) _ HA.out w2).mono ?_
    rintro e w3 ⟨rfl, ht⟩
    have HR3 := Lib.hid (HR2.out.touch ht)
    obtain ⟨ta, tc, htv, _⟩ := Av.form HR3.out.tk
    subst htv
    have nt : Blk (w3.alloc (.cells #[.int .i64 2, .int .i64 (p : Int), .int .i64 (V : Int), .string ⟨#[]⟩] 38)) w3.heap.size #[.int .i64 2, .int .i64 (p : Int), .int .i64 (V : Int), .string ⟨#[]⟩] 38 := Blk.new rfl
    have tX : Touch [] w3 (w3.alloc (.cells #[.int .i64 2, .int .i64 (p : Int), .int .i64 (V : Int), .string ⟨#[]⟩] 38)) := (Touch.refl [] w3).alloc _
    have HRX := Lib.hid (HR3.out.touch tX)
    obtain ⟨v', w', hr, hk, htt, hn⟩ := HRX.out.tk.app HRX.out.t.size ⟨2, p, (V : Nat), []⟩ (by omega) ⟨w3.heap.size, 0, none⟩ (fun j hj => by
      rcases (by omega : j = 0 ∨ j = 1 ∨ j = 2 ∨ j = 3) with rfl | rfl | rfl | rfl
      · exact nt.cell (i := 0) rfl
      · exact nt.cell (i := 1) rfl
      · exact nt.cell (i := 2) rfl
      · exact nt.cell (i := 3) rfl)
    obtain ⟨ta', tc', htv', _⟩ := Av.form hk
    subst htv'
    have hlen : (l ++ [(⟨2, p, (V : Nat), []⟩ : Tok)]).length = l.length + 1 := by simp
    rw [hlen] at hr hk hn
    have HRN := Lib.hid (HRX.out.turn hk htt hn)
    have ob' := HRX.out.obj.touch htt (fun hh => (HRX.out.nt rb (Option.mem_toList.1 hh)).1 rfl)
    have c2 := (HR3.out.obj).cell (i := 2) rfl
    have c2f := ob'.free 2
    have c2c := ob'.cell (i := 2) rfl
    clear ht nt tX hk htt hn ob'
    go_wp2_with (at_builtin; refine Lib.wpList_append_run _ rfl _ _ _ _ rfl _ _ rfl rfl _ _ (hr _) ?_)
    go_ret2
    rw [HX1.out hw]
    exact ⟨ret2_eq (by omega), _, HRN.out⟩
  · have HA := HAT
    rw [if_neg hw] at HA
    go_wp2_with fail
    refine (atoi_bad T (by omega) HA.out w2 (HV.out.touch HR2.out.t)).mono ?_
    rintro e w3 ⟨v, N, t, rfl, ht⟩
    have HR3 := Lib.hid (HR2.out.touch ht)
    clear ht
    go_wp2_with fail
    go_ret2
    rw [HX2.out hw]
    exact ⟨rfl, _, HR3.out⟩
end Go.Proofs.YtdlhaadnfmpldaaDoor
