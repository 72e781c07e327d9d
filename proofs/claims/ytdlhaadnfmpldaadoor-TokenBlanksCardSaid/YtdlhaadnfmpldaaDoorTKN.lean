/-
  The reference: numbers, signs.
-/
import Derived.Test.YtdlhaadnfmpldaaDoorTKM
import Derived.Test.YtdlhaadnfmpldaaDoorTKI
set_option linter.unusedVariables false
namespace Go.Proofs.YtdlhaadnfmpldaaDoor
open Go Go.RowKit

theorem valF_app (acc : Nat) (l : List UInt8) (c : UInt8) : valF acc (l ++ [c]) = 10 * valF acc l + (c.toNat - 48) := by
  unfold valF
  rw [List.foldl_append]
  rfl
theorem valF_cat (acc : Nat) (l m : List UInt8) : valF acc (l ++ m) = valF (valF acc l) m := by
  unfold valF
  rw [List.foldl_append]
theorem val_take {D : List UInt8} {k : Nat} (h : k < D.length) : valD (D.take (k + 1)) = 10 * valD (D.take k) + ((D.getD k 0).toNat - 48) := by
  rw [List.take_add_one, List.getElem?_eq_getElem h, List.getD_eq_getElem?_getD, List.getElem?_eq_getElem h]
  exact valF_app 0 _ _
theorem val_le {D : List UInt8} (k : Nat) : valD (D.take k) ≤ valD D := by
  have e : valD D = valF (valD (D.take k)) (D.drop k) := by
    conv => lhs; rw [← List.take_append_drop k D]
    exact valF_cat 0 _ _
  rw [e]
  exact valF_ge _ _
def NumQ (D : List UInt8) (w : World) (e : Ending) (w' : World) : Prop := w = w' ∧ e = .returned (.tuple #[.int .i64 (if valD D ≤ 9223372036854775807 then (valD D : Int) else 0), .bool (decide (valD D ≤ 9223372036854775807))])
set_option maxHeartbeats 4000000 in
theorem rnumber_any (w : World) (v : Value) (D : List UInt8) (hb : Bt w v D) (hd : ∀ c ∈ D, isDig c = true) (hl : D.length ≤ 5000) : Calls Tryd.prog 19 #[v] w (NumQ D w) := by
  obtain ⟨a, cp, rfl, _⟩ := hb.form
  have HB := Lib.hid hb
  have HD := Lib.hid hd
  obtain ⟨n, hn⟩ : ∃ n, D.length = n := ⟨_, rfl⟩
  have HN := Lib.hid hn
  rw [hn] at HB hl ⊢
  clear hb hd hn
  go_enter Tryd.func19, Tryd.ntmps19
  go_wp2
  go_loop [4, 5] (fun nv iv => ∃ k : Nat, iv = .int .i64 (k : Int) ∧ k ≤ n ∧ nv = .int .i64 ((valD (D.take k) : Nat) : Int) ∧ valD (D.take k) ≤ 9223372036854775807) (fun _ iv => n - (intOf iv).toNat)
  case atStart => exact ⟨0, rfl, by omega, rfl, by show (0 : Nat) ≤ _; omega⟩
  case round =>
    obtain ⟨k, rfl, hk, rfl, hm⟩ := hrel
    by_cases hlt : k < n
    · have dlt : decide ((k : Int) < (n : Int)) = true := dT (by omega)
      obtain ⟨g, off, rfl, hg, hc0⟩ := HB.out.ix (i := k) (by rw [HN.out]; exact hlt)
      have hc := hc0 [] w (Touch.refl _ _) (by simp)
      have hx : 48 ≤ (D.getD k 0).toNat ∧ (D.getD k 0).toNat ≤ 57 := by
        have hm : D.getD k 0 ∈ D := by
          rw [List.getD_eq_getElem?_getD, List.getElem?_eq_getElem (by rw [HN.out]; exact hlt)]
          exact List.getElem_mem _
        have := HD.out _ hm
        unfold isDig at this
        rwa [decide_eq_true_iff] at this
      have hvt := val_take (D := D) (k := k) (by rw [HN.out]; exact hlt)
      obtain ⟨x, hx2⟩ : ∃ x : Nat, (D.getD k 0).toNat = x := ⟨_, rfl⟩
      rw [hx2] at hc hx hvt
      obtain ⟨V, hV⟩ : ∃ x : Nat, valD (D.take k) = x := ⟨_, rfl⟩
      rw [hV] at hm hvt ⊢
      have HV := Lib.hid hV
      have HVT := Lib.hid hvt
      obtain ⟨d, rfl⟩ : ∃ d, x = d + 48 := ⟨x - 48, by omega⟩
      have hw : IntKind.u8.wrap (((d + 48 : Nat) : Int) - 48) = (d : Int) := by
        rw [show ((d + 48 : Nat) : Int) - 48 = (d : Int) from by omega]
        exact IntWalk.u8_in _ (by omega)
      have hd9 : d ≤ 9 := by omega
      clear hg hc0 hx hx2 hV hvt
      by_cases hbig : (9223372036854775807 - d) / 10 < V
      · have hgt : decide ((9223372036854775807 - (d : Int)) / 10 < (V : Int)) = true := dT (by omega)
        have HBIG : Hid (¬ valD D ≤ 9223372036854775807) := Lib.hid (by
          have h1 := val_le (D := D) (k + 1)
          rw [HVT.out] at h1
          omega)
        clear hbig
        go_wp2
        go_ret2
        exact ⟨rfl, by rw [if_neg HBIG.out, dF HBIG.out]; rfl⟩
      · have hgt : decide ((9223372036854775807 - (d : Int)) / 10 < (V : Int)) = false := dF (by omega)
        have HS : Hid (valD (D.take (k + 1)) = 10 * V + d) := Lib.hid (by rw [HVT.out]; omega)
        have hin : 10 * V + d ≤ 9223372036854775807 := by omega
        clear hbig
        go_wp2
        go_round
        case rel => exact ⟨k + 1, by go_num, by omega, by rw [HS.out]; go_num, by rw [HS.out]; exact hin⟩
        case measure => simp [intOf]; omega
    · obtain rfl : k = n := by omega
      have HT : Hid (D.take k = D) := Lib.hid (List.take_of_length_le (by rw [HN.out]; omega))
      rw [HT.out] at hm ⊢
      have hle := Lib.hid hm
      clear hm
      go_wp2
      go_ret2
      exact ⟨rfl, by rw [if_pos hle.out, dT hle.out]; rfl⟩
end Go.Proofs.YtdlhaadnfmpldaaDoor
