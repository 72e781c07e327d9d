/-
  The reference's cursor: a list of numbers.
-/
import Derived.Test.YtoedkomckgidiaaCQ2
set_option linter.unusedVariables false
namespace Go.Proofs.Ytoedkomckgidiaa
open Go Go.RowKit

theorem cu_zero {D : List Nat} {w : World} {b : Nat} {st : Option Nat} (h : Cu D w b st) : go_ D 0 st = st := by
  cases st with
  | none => rfl
  | some o => exact if_pos h.1
def NsP (D : List Nat) (b : Nat) (st : Option Nat) (w : World) (e : Ending) (w' : World) : Prop :=
  ∃ v, e = .returned v ∧ Qu w' w.heap.size 3 v ((nums_ D (cn_ D 1 st) (ct_ D 1 st)).map (Value.int .i64)) ∧ Cu D w' b (go_ D (8 * ct_ D 1 st) (cn_ D 1 st)) ∧ Touch [b] w w'
set_option maxHeartbeats 16000000 in
set_option maxRecDepth 100000 in
theorem rnums_any (D : List Nat) (b : Nat) (st : Option Nat) (w : World) (h : Cu D w b st) (hD : D.length ≤ 1000000) (hDb : ∀ x ∈ D, x < 256) :
    Calls Try.prog 57 #[.pointer (some ⟨b, 0, none⟩)] w (NsP D b st w) := by
  have hbw := h.lt
  have hu : ct_ D 1 st < 65536 := by
    have := un_lt D 2 st (by omega) hDb
    unfold ct_; split
    · exact this
    · omega
  have HD := Lib.hid hD
  have HDB := Lib.hid hDb
  have HN := Lib.hid (rcount_any D b 1 st w h (by omega) hD hDb)
  obtain ⟨l, hl⟩ : ∃ l, ct_ D 1 st = l := ⟨_, rfl⟩
  obtain ⟨s1, hs1⟩ : ∃ s, cn_ D 1 st = s := ⟨_, rfl⟩
  have HGL : Hid (NsP D b st w = fun e w' => ∃ v, e = .returned v ∧ Qu w' w.heap.size 3 v ((nums_ D s1 l).map (Value.int .i64)) ∧ Cu D w' b (go_ D (8 * l) s1) ∧ Touch [b] w w') := Lib.hid (by unfold NsP; rw [hl, hs1])
  rw [HGL.out]
  rw [hl] at hu
  have HLL := Lib.hid hl
  have HSS := Lib.hid hs1
  clear hl hs1 h hD hDb HGL
  go_enter Try.func57, Try.ntmps57
  go_wp2_with fail
  refine HN.out.mono ?_
  rintro e w1 ⟨rfl, hc, ht⟩
  rw [HLL.out]
  rw [HSS.out] at hc
  have ta : Touch [] w1 (w1.alloc (.cells #[] 3)) := (Touch.refl [] w1).alloc _
  have HQ0 : Hid (Qu (w1.alloc (.cells #[] 3)) w.heap.size 3 (.slice (some ⟨w1.heap.size, 0, none⟩) 0 0) []) := Lib.hid (Qu.made (c := #[]) rfl ht.size rfl (Nat.zero_le _))
  have HC0 := Lib.hid (hc.grown ta (by simp))
  have HT0 := Lib.hid (ht.trans (ta.mono (by simp)))
  clear hc ht ta HN
  go_wp2_with fail
  go_loopw [4, 5] (fun lv iv wr => ∃ i : Nat, i ≤ l ∧ iv = .int .i64 (i : Int) ∧ Qu wr w.heap.size 3 lv ((nums_ D s1 i).map (Value.int .i64)) ∧ Cu D wr b (go_ D (8 * i) s1) ∧ Touch [b] w wr) (fun _ iv _ => l + 1 - (intOf iv).toNat)
  case atStart => exact ⟨0, by omega, rfl, HQ0.out, by rw [Nat.mul_zero, cu_zero HC0.out]; exact HC0.out, HT0.out⟩
  case round =>
    obtain ⟨i, hi, rfl, hA, hR, ht⟩ := hrel
    clear HQ0 HC0 HT0
    have HA := Lib.hid hA
    have HR := Lib.hid hR
    have HT := Lib.hid ht
    have hsr : w.heap.size ≤ wr.heap.size := ht.size
    obtain ⟨la, lc, hform, hlm⟩ := Qu.shape hA
    rw [List.length_map, nums_len] at hform hlm
    subst hform
    clear hA hR ht
    by_cases hlt : i < l
    · go_wp2_with fail
      refine (rnum_any D b 8 (go_ D (8 * i) s1) _ HR.out (by omega) (by omega) HD.out HDB.out).mono ?_
      rintro e w2 ⟨rfl, hR2, ht2⟩
      rw [go_go] at hR2
      have HAo := Lib.hid (Qu.touch HA.out ht2 (fun k hk => by have := (Qu.own HA.out k hk).1; simp; omega))
      have hs2r : w.heap.size ≤ w2.heap.size := Nat.le_trans hsr ht2.size
      obtain ⟨x, hx⟩ : ∃ x, sgn (un_ D 8 (go_ D (8 * i) s1)) = x := ⟨_, rfl⟩
      have hx2 : nvA D s1 i = x := hx
      rw [hx]
      obtain ⟨v3, w3, hr3, hA3, ht3⟩ := app_int w2 w.heap.size _ _ x HAo.out hs2r (by rw [nums_len]; omega)
      have HA3 : Hid (Qu w3 w.heap.size 3 v3 ((nums_ D s1 (i + 1)).map (Value.int .i64))) := Lib.hid (by rw [nums_succ, hx2]; exact hA3)
      have HR3 : Hid (Cu D w3 b (go_ D (8 * (i + 1)) s1)) := Lib.hid (by
        have := hR2.grown ht3 (fun k hk => by have := (Qu.own HA.out k (by simpa using hk)).1; omega)
        rw [show 8 * i + 8 = 8 * (i + 1) from by omega] at this
        exact this)
      have HT3 : Hid (Touch [b] w w3) := Lib.hid ((HT.out.trans ht2).transF ht3 (fun k hk hlt => by have := (Qu.own HA.out k (by simpa using hk)).1; omega))
      clear hR2 ht2 hA3 ht3 hx hx2 HAo
      go_wp2_with (at_builtin; refine Lib.wpList_append_run _ rfl _ _ _ _ rfl _ _ rfl rfl _ _ (hr3 _) ?_; clear hr3)
      go_roundw
      case rel => exact ⟨i + 1, by omega, by go_num, HA3.out, HR3.out, HT3.out⟩
      case measure => simp [intOf]; omega
    · obtain rfl : l = i := by omega
      go_wp2_with fail
      go_ret
      exact ⟨_, rfl, HA.out, HR.out, HT.out⟩
end Go.Proofs.Ytoedkomckgidiaa
