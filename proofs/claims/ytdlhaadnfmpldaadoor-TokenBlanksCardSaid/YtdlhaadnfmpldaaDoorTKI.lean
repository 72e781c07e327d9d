/-
  What is read at a place: a sign.
-/
import Derived.Test.YtdlhaadnfmpldaaDoorTKH
set_option linter.unusedVariables false
namespace Go.Proofs.YtdlhaadnfmpldaaDoor
open Go Go.RowKit

def pairB : ByteArray := ⟨#[58, 61, 32, 60, 62, 32, 60, 61, 32, 62, 61, 32, 47, 47]⟩
theorem pair_fields : Lib.fields pairB.data.toList = pairL := by decide +kernel
theorem pair_ascii : ∀ (j : Nat) b, pairB.data.toList[j]? = some b → b.toNat < 128 := fun j b h => by
  have : ∀ b ∈ pairB.data.toList, b.toNat < 128 := by decide +kernel
  exact this b (List.mem_of_getElem? h)
def oneB : ByteArray := ⟨#[59, 44, 40, 41, 91, 93, 43, 45, 42, 47, 37, 61, 60, 62, 46]⟩
theorem one_list : oneB.data.toList = oneL := rfl
theorem ahead_none : ∀ {l : List UInt8} {c : UInt8}, ahead c l = none ↔ c ∉ l
  | [], c => by simp [ahead]
  | b :: l, c => by
    unfold ahead
    by_cases h : b = c
    · subst h; simp
    · have := ahead_none (l := l) (c := c)
      rw [if_neg h]
      simp only [Option.map_eq_none_iff, this, List.mem_cons, not_or]
      exact ⟨fun hh => ⟨fun e => h e.symm, hh⟩, fun hh => hh.2⟩
theorem ix_one (c : UInt8) : (c ∉ oneL ∧ Lib.indexByte oneL c = -1) ∨ (c ∈ oneL ∧ ∃ n : Nat, Lib.indexByte oneL c = (n : Int) ∧ n < 15) := by
  rw [ix_ahead]
  cases h : ahead c oneL with
  | none => exact .inl ⟨ahead_none.1 h, rfl⟩
  | some n =>
    refine .inr ⟨?_, n, rfl, ahead_lt h⟩
    by_cases hh : c ∈ oneL
    · exact hh
    · rw [ahead_none.2 hh] at h; cases h
theorem pre_take {L q : List UInt8} (hq : q.length = 2) : Lib.hasPrefix L q = decide (L.take 2 = q) := by
  rw [← Lib.hasPrefix_of_take, hq, Bool.eq_iff_iff]
  simp only [Bool.and_eq_true, decide_eq_true_eq, beq_iff_eq]
  constructor
  · exact fun h => h.2
  · intro h
    refine ⟨?_, h⟩
    have := congrArg List.length h
    rw [List.length_take, hq] at this
    omega
theorem pairL_two : ∀ q ∈ pairL, q.length = 2 := by decide
theorem pairL_len : pairL.length = 5 := by decide
theorem pair_get {i : Nat} (h : i < 5) : pairL.getD i [] ∈ pairL := by
  rw [List.getD_eq_getElem?_getD, List.getElem?_eq_getElem (by rw [pairL_len]; exact h)]
  exact List.getElem_mem _
theorem pair_mem {q : List UInt8} (h : q ∈ pairL) : ∃ i, i < 5 ∧ pairL.getD i [] = q := by
  obtain ⟨i, hi, e⟩ := List.getElem_of_mem h
  refine ⟨i, by rw [pairL_len] at hi; exact hi, ?_⟩
  rw [List.getD_eq_getElem?_getD, List.getElem?_eq_getElem hi]
  exact e
def sgnT (p : Nat) (L : List UInt8) : StepR := match sgnL L with
  | 0 => .bad 11
  | n + 1 => .go n [⟨4, p, 0, L.take (n + 1)⟩]
theorem sgn_pair {p : Nat} {L : List UInt8} {i : Nat} (hi : i < 5) (h : L.take 2 = pairL.getD i []) : sgnT p L = .go 1 [⟨4, p, 0, pairL.getD i []⟩] := by
  have : sgnL L = 2 := by unfold sgnL; rw [if_pos (by rw [h]; exact pair_get hi)]
  unfold sgnT
  rw [this, ← h]
theorem sgn_one {p : Nat} {c : UInt8} {r : List UInt8} (hn : ∀ i, i < 5 → (c :: r).take 2 ≠ pairL.getD i []) :
    sgnT p (c :: r) = if c ∈ oneL then .go 0 [⟨4, p, 0, [c]⟩] else .bad 11 := by
  have : sgnL (c :: r) = if c ∈ oneL then 1 else 0 := by
    unfold sgnL
    rw [if_neg (fun h => by obtain ⟨i, hi, e⟩ := pair_mem h; exact hn i hi e.symm)]
  unfold sgnT
  rw [this]
  by_cases h : c ∈ oneL
  · rw [if_pos h, if_pos h]
    rfl
  · rw [if_neg h, if_neg h]
set_option maxHeartbeats 8000000 in
set_option maxRecDepth 100000 in
theorem sign_any (w0 : Fr) (w : World) (rb mb : Nat) (s : ByteArray) (tv : Value) (l : List Tok) (p : Nat) (c : UInt8) (r : List UInt8) (h : Rdr w0 w rb mb s tv l) (hv0 : Vs w0.w) (hs : s.size ≤ 5000) (hp : p < s.size) (hl : l.length ≤ 5000) (hd : s.data.toList.drop p = c :: r) :
    Calls Tryd.prog 34 #[.pointer (some ⟨rb, 0, none⟩), .int .i64 (p : Int)] w (StepP w0 rb mb s l p (sgnT p (c :: r))) := by
  have HR := Lib.hid h
  have c0 := h.obj.cell (i := 0) rfl
  have hRL := rest_list s p (by omega)
  rw [hd] at hRL
  have hrs := rest_size hd hp
  obtain ⟨R, hR⟩ : ∃ z, s.extract p s.size = z := ⟨_, rfl⟩
  have hRs : R.size = s.size - p := by rw [← hR]; exact size_rest s p
  have HRR := Lib.hid hR
  rw [hR] at hRL
  have HRL := Lib.hid hRL
  have HFL := Lib.hid (Tryd.strings_Fields pairB w (by decide) pair_ascii (hv0.touch h.t).spc)
  clear h hv0 hRL hd hR
  go_enter Tryd.func34, Tryd.ntmps34
  go_wp2_with fail
  rw [HRR.out]
  refine HFL.out.mono ?_
  rintro e w3 ⟨rfl, rfl⟩
  rw [pair_fields]
  have hb : Blk (w.alloc (.cells (pairL.map fun l => Value.string ⟨l.toArray⟩).toArray 9)) w.heap.size (pairL.map fun l => Value.string ⟨l.toArray⟩).toArray 9 := Blk.new rfl
  have hrt := HR.out.touch ((Touch.refl [] w).alloc (.cells (pairL.map fun l => Value.string ⟨l.toArray⟩).toArray 9))
  obtain ⟨G, hG⟩ : ∃ z, w.heap.size = z := ⟨_, rfl⟩
  obtain ⟨W, hW⟩ : ∃ x, (w.alloc (.cells (pairL.map fun l => Value.string ⟨l.toArray⟩).toArray 9)) = x := ⟨_, rfl⟩
  rw [hG] at hb
  rw [hW] at hb hrt
  rw [hG, hW, pairL_len]
  have HB := Lib.hid hb
  have HRT := Lib.hid hrt
  clear hb hrt hG hW HFL c0
  go_wp2_with fail
  go_loopw [17] (fun iv wr => ∃ i : Nat, i ≤ 5 ∧ iv = .int .i64 (i : Int) ∧ (∀ j, j < i → (c :: r).take 2 ≠ pairL.getD j []) ∧ W = wr) (fun iv _ => 6 - (intOf iv).toNat)
  case atStart => exact ⟨0, by omega, rfl, fun j hj => by omega, rfl⟩
  case round =>
    obtain ⟨i, hi0, rfl, hnone, rfl⟩ := hrel
    have HN := Lib.hid hnone
    clear hnone
    by_cases hin : i < 5
    · have hlt : (i : Int) < 5 := by omega
      have x0 : W.cell? ⟨G, i, none⟩ = some (.string ⟨(pairL.getD i []).toArray⟩) := by
        refine HB.out.cell ?_
        rw [List.getElem?_toArray, List.getElem?_map, List.getD_eq_getElem?_getD, List.getElem?_eq_getElem (show i < pairL.length from by rw [pairL_len]; omega)]
        rfl
      have hp2 : (pairL.getD i []).length = 2 := pairL_two _ (pair_get hin)
      obtain ⟨q, hq⟩ : ∃ z : ByteArray, ⟨(pairL.getD i []).toArray⟩ = z := ⟨_, rfl⟩
      have hql : q.data.toList = pairL.getD i [] := by rw [← hq]
      have hqs : q.size = 2 := by rw [← len_list, hql, hp2]
      have HQL := Lib.hid hql
      rw [hq] at x0
      have HP := Lib.hid (Tryd.strings_HasPrefix R q W)
      rw [HRL.out, hql, pre_take hp2] at HP
      by_cases hpre : (c :: r).take 2 = pairL.getD i []
      · rw [decide_eq_true hpre] at HP
        have HX := Lib.hid (sgn_pair (p := p) hin hpre)
        have hsz2 : p + 2 ≤ s.size := by
          have := congrArg List.length hpre
          rw [hp2, List.length_take, List.length_cons] at this
          omega
        clear hq hql hp2 hpre
        go_wp2_with fail
        refine HP.out.mono ?_
        rintro e w4 ⟨rfl, rfl⟩
        go_wp2_with fail
        refine (put_q w0 w4 rb mb s tv l 4 p 0 q HRT.out hl (by omega) (by omega)).mono ?_
        rintro e w5 ⟨rfl, tv', hR3⟩
        have HR3 := Lib.hid hR3
        clear hR3
        go_wp2_with fail
        go_ret2
        rw [HX.out]
        exact ⟨ret2_eq (by omega), tv', by rw [← HQL.out]; exact HR3.out⟩
      · rw [decide_eq_false hpre] at HP
        have HPN := Lib.hid hpre
        clear hq hql hp2 hpre
        go_wp2_with fail
        refine HP.out.mono ?_
        rintro e w4 ⟨rfl, rfl⟩
        go_wp2_with fail
        go_roundw
        case rel =>
          refine ⟨i + 1, by omega, by go_num, fun j hj => ?_, trivial⟩
          by_cases e : j = i
          · subst e; exact HPN.out
          · exact HN.out j (by omega)
        case measure => simp [intOf]; omega
    · obtain rfl : i = 5 := by omega
      have HX := Lib.hid (sgn_one (p := p) HN.out)
      have hix : ∀ v, Lib.indexByte oneL c = v → Calls Tryd.prog 41 #[.string oneB, .int .u8 (c.toNat : Int)] W fun e w' => e = .returned (.int .i64 v) ∧ w' = W := fun v hv => by
        have := Tryd.strings_IndexByte oneB (c.toNat : Int) W
        rwa [one_list, show ((c.toNat : Int)).toNat.toUInt8 = c from by simp, hv] at this
      have h0 : ∀ h : 0 < R.size, R[0]'h = c := fun h => by rw [← byte_at R 0 h, HRL.out]; rfl
      have hE : (R.extract 0 1).data.toList = [c] := by
        rw [ByteArray.data_extract, Array.toList_extract]
        show (R.data.toList.drop 0).take 1 = _
        rw [HRL.out]
        rfl
      have hE1 : (R.extract 0 1).size = 1 := by rw [← len_list, hE]; rfl
      have HE := Lib.hid hE
      have HH0 := Lib.hid h0
      have HIX := Lib.hid hix
      clear hix hE h0
      go_wp2_with fail
      rw [HH0.out]
      rcases ix_one c with ⟨hno, hv⟩ | ⟨hyes, n, hv, hn⟩
      · have HX2 := HX.out
        rw [if_neg hno] at HX2
        have HX3 := Lib.hid HX2
        clear HX2
        refine (HIX.out _ hv).mono ?_
        rintro e w4 ⟨rfl, rfl⟩
        clear hv
        go_wp2_with fail
        go_ret2
        rw [HX3.out]
        exact ⟨rfl, _, HRT.out⟩
      · have HX2 := HX.out
        rw [if_pos hyes] at HX2
        have HX3 := Lib.hid HX2
        clear HX2
        refine (HIX.out _ hv).mono ?_
        rintro e w4 ⟨rfl, rfl⟩
        clear hv
        have hn0 : ¬ ((n : Int) < 0) := by omega
        go_wp2_with fail
        refine (put_q w0 w4 rb mb s tv l 4 p 0 (R.extract 0 1) HRT.out hl (by omega) (by omega)).mono ?_
        rintro e w5 ⟨rfl, tv', hR3⟩
        rw [HE.out] at hR3
        have HR3 := Lib.hid hR3
        clear hR3
        go_wp2_with fail
        go_ret2
        rw [HX3.out]
        exact ⟨ret2_eq (by omega), tv', HR3.out⟩
end Go.Proofs.YtdlhaadnfmpldaaDoor
