/-
  The reference: signs.
-/
import Derived.Test.YtdlhaadnfmpldaaDoorTKN
import Derived.Deep.Cut
set_option linter.unusedVariables false
namespace Go.Proofs.YtdlhaadnfmpldaaDoor
open Go Go.RowKit

theorem ix_str (s : ByteArray) (w : World) (k : Nat) (h : k < s.size) : (Instr.index 9 (.string s) (.int .i64 (k : Int))).run Tryd.prog w = .ok (.int .u8 ((s.data.toList.getD k 0).toNat : Int)) w := by
  rw [byte_at s k h]
  simp [Instr.index, h, go_sem]
theorem one_get {k : Nat} (h : k < 15) : oneL.getD k 0 ∈ oneL := by
  rw [List.getD_eq_getElem?_getD, List.getElem?_eq_getElem (show k < oneL.length from h)]
  exact List.getElem_mem _
theorem one_mem {c : UInt8} (h : c ∈ oneL) : ∃ i, i < 15 ∧ oneL.getD i 0 = c := by
  obtain ⟨i, hi, e⟩ := List.getElem_of_mem h
  refine ⟨i, hi, ?_⟩
  rw [List.getD_eq_getElem?_getD, List.getElem?_eq_getElem hi]
  exact e
theorem sgn_one1 {c : UInt8} {r : List UInt8} (hp : ¬ (c :: r).take 2 ∈ pairL) (h : c ∈ oneL) : sgnL (c :: r) = 1 := by unfold sgnL; rw [if_neg hp]; exact if_pos h
theorem sgn_one0 {c : UInt8} {r : List UInt8} (hp : ¬ (c :: r).take 2 ∈ pairL) (h : ¬ c ∈ oneL) : sgnL (c :: r) = 0 := by unfold sgnL; rw [if_neg hp]; exact if_neg h
theorem sgn_two {L : List UInt8} (hp : L.take 2 ∈ pairL) : sgnL L = 2 := by unfold sgnL; rw [if_pos hp]
def SgnQ (n : Nat) (w : World) (e : Ending) (w' : World) : Prop := e = .returned (.int .i64 (n : Int)) ∧ Touch [] w w'
theorem str_lit (D : List UInt8) (l : List UInt8) : ((⟨D.toArray⟩ : ByteArray).toList == l) = decide (D = l) := by
  rw [ByteArray.toList_eq]
  show (D == l) = _
  rw [Bool.eq_iff_iff]
  simp
set_option maxHeartbeats 4000000 in
theorem rsign_any (w : World) (v : Value) (c : UInt8) (r : List UInt8) (hb : Bt w v (c :: r)) (hl : (c :: r).length ≤ 5000) : Calls Tryd.prog 20 #[v] w (SgnQ (sgnL (c :: r)) w) := by
  obtain ⟨a, cp, rfl, hcp⟩ := hb.form
  have HB := Lib.hid hb
  obtain ⟨n, hn⟩ : ∃ n, (c :: r).length = n := ⟨_, rfl⟩
  have HN := Lib.hid hn
  rw [hn] at HB hl hcp ⊢
  clear hb hn
  by_cases h1 : n ≤ 1
  · have HP : Hid (¬ (c :: r).take 2 ∈ pairL) := Lib.hid (fun h => by
      have h2 := pairL_two _ h
      have h3 := HN.out
      rw [List.length_take] at h2
      omega)
    have hgt : decide (1 < (n : Int)) = false := dF (by omega)
    have hgt2 : decide (1 < n) = false := dF (by omega)
    clear h1
    go_enter Tryd.func20, Tryd.ntmps20
    go_wp2
    rw [show (⟨#[59, 44, 40, 41, 91, 93, 43, 45, 42, 47, 37, 61, 60, 62, 46]⟩ : ByteArray) = oneB from rfl]
    obtain ⟨OB, hOB⟩ : ∃ z, oneB = z := ⟨_, rfl⟩
    have hosz : OB.size = 15 := by rw [← hOB]; rfl
    have HOB := Lib.hid hOB
    have HOS := Lib.hid hosz
    rw [hOB]
    clear hOB
    go_loopw [5] (fun iv wr => ∃ k : Nat, iv = .int .i64 (k : Int) ∧ k ≤ 15 ∧ (∀ j, j < k → oneL.getD j 0 ≠ c) ∧ Touch [] w wr) (fun iv wr => 15 - (intOf iv).toNat)
    case atStart => exact ⟨0, rfl, by omega, fun j hj => by omega, Touch.refl _ _⟩
    case round =>
      obtain ⟨k, rfl, hk, hno, ht⟩ := hrel
      have HNO := Lib.hid hno
      have HT := Lib.hid ht
      clear hno ht hosz
      by_cases hlt : k < 15
      · have hosz : OB.size = 15 := HOS.out
        have hn0 : 0 < n := by have := HN.out; simp at this; omega
        have dlt : decide ((k : Int) < (15 : Int)) = true := dT (by omega)
        obtain ⟨g, off, rfl, hg, hc0⟩ := HB.out.ix (i := 0) (by simp)
        have hc := hc0 [] wr HT.out (by simp)
        have hix : ∀ wz : World, _ := fun wz => ix_str OB wz k (by omega)
        rw [show OB.data.toList = oneL from by rw [← HOB.out]; rfl] at hix
        obtain ⟨X, hX⟩ : ∃ X, oneL.getD k 0 = X := ⟨_, rfl⟩
        rw [hX] at hix
        have HX := Lib.hid hX
        have hc : wr.cell? ⟨g, off, none⟩ = some (.int .u8 (c.toNat : Int)) := hc
        obtain ⟨xn, hxn⟩ : ∃ n : Nat, X.toNat = n := ⟨_, rfl⟩
        obtain ⟨cn, hcn⟩ : ∃ n : Nat, c.toNat = n := ⟨_, rfl⟩
        rw [hxn] at hix
        rw [hcn] at hc
        have HXN := Lib.hid hxn
        have HCN := Lib.hid hcn
        clear hX hxn hcn hc0 hg
        by_cases he : xn = cn
        · have hbe : ((xn : Int) == (cn : Int)) = true := by simp [he]
          have hbe2 : (xn == cn) = true := by simp [he]
          have HXC : Hid (X = c) := Lib.hid (UInt8.toNat_inj.1 (by rw [HXN.out, HCN.out, he]))
          have HSG : Hid (sgnL (c :: r) = 1) := Lib.hid (sgn_one1 HP.out (by rw [← HXC.out, ← HX.out]; exact one_get hlt))
          clear he
          go_wp2
          go_quiet (fail)
          go_wp2
          go_ret
          exact ⟨by rw [HSG.out]; rfl, HT.out.drewN _⟩
        · have hbe : ((xn : Int) == (cn : Int)) = false := by simp; omega
          have hbe2 : (xn == cn) = false := by simp; omega
          have HXC : Hid (X ≠ c) := Lib.hid (fun e => he (by rw [← HXN.out, ← HCN.out, e]))
          clear he
          go_wp2
          go_quiet (fail)
          go_wp2
          go_roundw
          case rel => exact ⟨k + 1, by go_num, by omega, fun j hj => by
            rcases Nat.lt_or_ge j k with h | h
            · exact HNO.out j h
            · obtain rfl : j = k := by omega
              rw [HX.out]
              exact HXC.out, HT.out.drewN _⟩
          case measure => simp [intOf]; omega
      · obtain rfl : k = 15 := by omega
        have hosz : OB.size = 15 := HOS.out
        have HSG : Hid (sgnL (c :: r) = 0) := Lib.hid (sgn_one0 HP.out (fun hm => by
          obtain ⟨i, hi, e⟩ := one_mem hm
          exact HNO.out i hi e))
        go_wp2
        go_ret
        exact ⟨by rw [HSG.out]; rfl, HT.out⟩
  · have hgt : decide (1 < (n : Int)) = true := dT (by omega)
    have hgt2 : decide (1 < n) = true := dT (by omega)
    have hstr := (HB.out.first (k := 2) (by rw [HN.out]; omega)).str
    obtain ⟨T, hT⟩ : ∃ z : ByteArray, ⟨((c :: r).take 2).toArray⟩ = z := ⟨_, rfl⟩
    rw [hT] at hstr
    have HTT := Lib.hid hT
    have hlit : ∀ l, (T.toList == l) = decide ((c :: r).take 2 = l) := fun l => by rw [← HTT.out]; exact str_lit _ _
    have HLIT := Lib.hid hlit
    have h2c : (2 : Int) ≤ cp := by omega
    have h2n : (2 : Int) ≤ n := by omega
    clear hT hlit h1
    by_cases p0 : (c :: r).take 2 = [58, 61]
    · have b0 : (T.toList == [58, 61]) = true := by rw [HLIT.out]; exact dT p0
      have HSG : Hid (sgnL (c :: r) = 2) := Lib.hid (sgn_two (by rw [p0]; decide))
      clear p0
      go_enter Tryd.func20, Tryd.ntmps20
      go_wp2
      go_ret
      exact ⟨by rw [HSG.out]; rfl, Touch.refl _ _⟩
    have b0 : (T.toList == [58, 61]) = false := by rw [HLIT.out]; exact dF p0
    by_cases p1 : (c :: r).take 2 = [60, 62]
    · have b1 : (T.toList == [60, 62]) = true := by rw [HLIT.out]; exact dT p1
      have HSG : Hid (sgnL (c :: r) = 2) := Lib.hid (sgn_two (by rw [p1]; decide))
      clear p1
      go_enter Tryd.func20, Tryd.ntmps20
      go_wp2
      go_ret
      exact ⟨by rw [HSG.out]; rfl, Touch.refl _ _⟩
    have b1 : (T.toList == [60, 62]) = false := by rw [HLIT.out]; exact dF p1
    by_cases p2 : (c :: r).take 2 = [60, 61]
    · have b2 : (T.toList == [60, 61]) = true := by rw [HLIT.out]; exact dT p2
      have HSG : Hid (sgnL (c :: r) = 2) := Lib.hid (sgn_two (by rw [p2]; decide))
      clear p2
      go_enter Tryd.func20, Tryd.ntmps20
      go_wp2
      go_ret
      exact ⟨by rw [HSG.out]; rfl, Touch.refl _ _⟩
    have b2 : (T.toList == [60, 61]) = false := by rw [HLIT.out]; exact dF p2
    by_cases p3 : (c :: r).take 2 = [62, 61]
    · have b3 : (T.toList == [62, 61]) = true := by rw [HLIT.out]; exact dT p3
      have HSG : Hid (sgnL (c :: r) = 2) := Lib.hid (sgn_two (by rw [p3]; decide))
      clear p3
      go_enter Tryd.func20, Tryd.ntmps20
      go_wp2
      go_ret
      exact ⟨by rw [HSG.out]; rfl, Touch.refl _ _⟩
    have b3 : (T.toList == [62, 61]) = false := by rw [HLIT.out]; exact dF p3
    by_cases p4 : (c :: r).take 2 = [47, 47]
    · have b4 : (T.toList == [47, 47]) = true := by rw [HLIT.out]; exact dT p4
      have HSG : Hid (sgnL (c :: r) = 2) := Lib.hid (sgn_two (by rw [p4]; decide))
      clear p4
      go_enter Tryd.func20, Tryd.ntmps20
      go_wp2
      go_ret
      exact ⟨by rw [HSG.out]; rfl, Touch.refl _ _⟩
    have b4 : (T.toList == [47, 47]) = false := by rw [HLIT.out]; exact dF p4
    have HP : Hid (¬ (c :: r).take 2 ∈ pairL) := Lib.hid (fun h => by
      simp only [pairL, List.mem_cons, List.not_mem_nil, or_false] at h
      rcases h with h | h | h | h | h
      · exact p0 h
      · exact p1 h
      · exact p2 h
      · exact p3 h
      · exact p4 h)
    clear p0 p1 p2 p3 p4
    go_enter Tryd.func20, Tryd.ntmps20
    go_wp2
    rw [show (⟨#[59, 44, 40, 41, 91, 93, 43, 45, 42, 47, 37, 61, 60, 62, 46]⟩ : ByteArray) = oneB from rfl]
    obtain ⟨OB, hOB⟩ : ∃ z, oneB = z := ⟨_, rfl⟩
    have hosz : OB.size = 15 := by rw [← hOB]; rfl
    have HOB := Lib.hid hOB
    have HOS := Lib.hid hosz
    rw [hOB]
    clear hOB
    go_loopw [5] (fun iv wr => ∃ k : Nat, iv = .int .i64 (k : Int) ∧ k ≤ 15 ∧ (∀ j, j < k → oneL.getD j 0 ≠ c) ∧ Touch [] w wr) (fun iv wr => 15 - (intOf iv).toNat)
    case atStart => exact ⟨0, rfl, by omega, fun j hj => by omega, Touch.refl _ _⟩
    case round =>
      obtain ⟨k, rfl, hk, hno, ht⟩ := hrel
      have HNO := Lib.hid hno
      have HT := Lib.hid ht
      clear hno ht hosz
      by_cases hlt : k < 15
      · have hosz : OB.size = 15 := HOS.out
        have hn0 : 0 < n := by have := HN.out; simp at this; omega
        have dlt : decide ((k : Int) < (15 : Int)) = true := dT (by omega)
        obtain ⟨g, off, rfl, hg, hc0⟩ := HB.out.ix (i := 0) (by simp)
        have hc := hc0 [] wr HT.out (by simp)
        have hix : ∀ wz : World, _ := fun wz => ix_str OB wz k (by omega)
        rw [show OB.data.toList = oneL from by rw [← HOB.out]; rfl] at hix
        obtain ⟨X, hX⟩ : ∃ X, oneL.getD k 0 = X := ⟨_, rfl⟩
        rw [hX] at hix
        have HX := Lib.hid hX
        have hc : wr.cell? ⟨g, off, none⟩ = some (.int .u8 (c.toNat : Int)) := hc
        obtain ⟨xn, hxn⟩ : ∃ n : Nat, X.toNat = n := ⟨_, rfl⟩
        obtain ⟨cn, hcn⟩ : ∃ n : Nat, c.toNat = n := ⟨_, rfl⟩
        rw [hxn] at hix
        rw [hcn] at hc
        have HXN := Lib.hid hxn
        have HCN := Lib.hid hcn
        clear hX hxn hcn hc0 hg
        by_cases he : xn = cn
        · have hbe : ((xn : Int) == (cn : Int)) = true := by simp [he]
          have hbe2 : (xn == cn) = true := by simp [he]
          have HXC : Hid (X = c) := Lib.hid (UInt8.toNat_inj.1 (by rw [HXN.out, HCN.out, he]))
          have HSG : Hid (sgnL (c :: r) = 1) := Lib.hid (sgn_one1 HP.out (by rw [← HXC.out, ← HX.out]; exact one_get hlt))
          clear he
          go_wp2
          go_quiet (fail)
          go_wp2
          go_ret
          exact ⟨by rw [HSG.out]; rfl, HT.out.drewN _⟩
        · have hbe : ((xn : Int) == (cn : Int)) = false := by simp; omega
          have hbe2 : (xn == cn) = false := by simp; omega
          have HXC : Hid (X ≠ c) := Lib.hid (fun e => he (by rw [← HXN.out, ← HCN.out, e]))
          clear he
          go_wp2
          go_quiet (fail)
          go_wp2
          go_roundw
          case rel => exact ⟨k + 1, by go_num, by omega, fun j hj => by
            rcases Nat.lt_or_ge j k with h | h
            · exact HNO.out j h
            · obtain rfl : j = k := by omega
              rw [HX.out]
              exact HXC.out, HT.out.drewN _⟩
          case measure => simp [intOf]; omega
      · obtain rfl : k = 15 := by omega
        have hosz : OB.size = 15 := HOS.out
        have HSG : Hid (sgnL (c :: r) = 0) := Lib.hid (sgn_one0 HP.out (fun hm => by
          obtain ⟨i, hi, e⟩ := one_mem hm
          exact HNO.out i hi e))
        go_wp2
        go_ret
        exact ⟨by rw [HSG.out]; rfl, HT.out⟩
end Go.Proofs.YtdlhaadnfmpldaaDoor
