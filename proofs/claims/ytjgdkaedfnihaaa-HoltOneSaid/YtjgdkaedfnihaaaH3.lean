/-
  Is it a state? Units are put to what is there.
-/
import Derived.Test.YtjgdkaedfnihaaaH2
import Derived.Test.YtjgdkaedfnihaaaMQ
import Derived.Deep.RegionHeld3
set_option linter.unusedVariables false
namespace Go.Proofs.Ytjgdkaedfnihaaa
open Go.RowKit Go.BigFrame

theorem Sl.touchL {w w' : World} {v : Value} {xs : List Int} {S : List Nat} (h : Sl w v xs) (ht : Touch S w w') (hs : 0 < xs.length → ∀ k, v.ownBlock = some k → k ∉ S) : Sl w' v xs := by
  obtain ⟨a, cap, rfl, h | ⟨g, off, rfl, hlt, hr⟩⟩ := h
  · exact ⟨a, cap, rfl, .inl h⟩
  · by_cases h0 : 0 < xs.length
    · exact ⟨_, cap, rfl, .inr ⟨g, off, rfl, Nat.lt_of_lt_of_le hlt ht.size, hr.touch ht hlt (hs h0 g rfl)⟩⟩
    · exact ⟨_, cap, rfl, .inl (List.eq_nil_of_length_eq_zero (by omega))⟩
def AddP (base : Nat) (va : Value) (W : List Int) (w : World) (e : Ending) (w' : World) : Prop := e = .returned (.tuple #[]) ∧ Qu w' base 3 va (W.map (Value.int .i64)) ∧ Touch va.ownBlock.toList w w'
set_option maxHeartbeats 8000000 in
theorem add_any (base : Nat) (va vh : Value) (W h : List Int) (w : World) (hq : Qu w base 3 va (W.map (Value.int .i64))) (hh : Sl w vh h) (hne : 0 < h.length → ∀ k, vh.ownBlock = some k → va.ownBlock ≠ some k) (l1 : W.length ≤ 1000) (l2 : h.length = W.length)
    (m1 : ∀ k, k < W.length → 0 ≤ W.getD k 0 ∧ W.getD k 0 ≤ 1000000) (m2 : ∀ k, k < W.length → 0 ≤ h.getD k 0 ∧ h.getD k 0 ≤ 1000) :
    Calls Try.prog 25 #[va, vh] w (AddP base va (addW W h) w) := by
  obtain ⟨a, cap, rfl⟩ := hq.form
  obtain ⟨ah, ch, rfl⟩ := hh.form
  have HQ0 := Lib.hid hq
  have HS := Lib.hid hh
  have HNE := Lib.hid hne
  obtain ⟨L, hL⟩ : ∃ L, W.length = L := ⟨_, rfl⟩
  have HL := Lib.hid hL
  have HL2 := Lib.hid l2
  have M1 := Lib.hid m1
  have M2 := Lib.hid m2
  rw [l2] at HS HNE ⊢
  rw [hL] at HQ0 HS HNE M1 M2 l1 ⊢
  clear hq hh hne l2 m1 m2 hL
  go_enter Try.func25, Try.ntmps25
  go_wp2_with fail
  go_loopw [8] (fun i wr => ∃ j : Nat, j ≤ L ∧ i = .int .i64 j ∧ Qu wr base 3 (.slice a L cap) ((partW W h j).map (Value.int .i64)) ∧ Touch (Value.ownBlock (.slice a L cap)).toList w wr) (fun i _ => L + 1 - (intOf i).toNat)
  case atStart => exact ⟨0, by omega, rfl, by rw [partW_zero]; exact HQ0.out, Touch.refl _ _⟩
  case round =>
    obtain ⟨j, hj, rfl, hq, ht⟩ := hrel
    have HT := Lib.hid ht
    by_cases hjn : j < L
    · have hlt : (j : Int) < (L : Int) := by omega
      obtain ⟨g, off, c, he, hg, hgl, hfz, hc, hset⟩ := hq.setI j (by rw [partW_length, HL.out]; exact hjn)
      rw [partW_length, HL.out] at he
      cases he
      have hks := HS.out.touchL ht (fun h0 k hk hm => HNE.out (by omega) k hk (Option.mem_toList.1 hm))
      obtain ⟨gh, oh, rfl, xh⟩ := hks.ix (q := j) (by rw [HL2.out, HL.out]; exact hjn)
      have x2 := xh _ (Touch.refl _ _)
      rw [partW_get _ _ _ (by rw [HL.out]; exact hjn)] at hc
      obtain ⟨y1, y2⟩ := M1.out j hjn
      obtain ⟨z1, z2⟩ := M2.out j hjn
      have HS2 : Hid (Qu (wr.setCell ⟨g, off + j, none⟩ (.int .i64 (W.getD j 0 + h.getD j 0))) base 3 (.slice (some ⟨g, off, none⟩) L cap) ((partW W h (j + 1)).map (Value.int .i64))) := Lib.hid (by rw [← partW_set]; exact hset _)
      have HT2 : Hid (Touch (Value.ownBlock (.slice (some ⟨g, off, none⟩) L cap)).toList w (wr.setCell ⟨g, off + j, none⟩ (.int .i64 (W.getD j 0 + h.getD j 0)))) := Lib.hid (HT.out.setCell (by simp [Value.ownBlock]) _)
      obtain ⟨y, hy⟩ : ∃ x, W.getD j 0 = x := ⟨_, rfl⟩
      obtain ⟨z, hz⟩ : ∃ x, h.getD j 0 = x := ⟨_, rfl⟩
      rw [hy] at hc y1 y2 HS2 HT2
      rw [hz] at x2 z1 z2 HS2 HT2
      have hf2 := hfz (off + j)
      have v1 : IntKind.i64.wrap (y + z) = y + z := IntWalk.i64_in _ (by omega)
      clear xh ht hy hz hq hset hfz hks
      go_wp2
      go_roundw
      case rel => exact ⟨j + 1, by omega, by go_num, HS2.out, HT2.out⟩
      case measure => simp [intOf]; omega
    · have hlt : ¬ (j : Int) < (L : Int) := by omega
      obtain rfl : j = L := by omega
      have HQ : Hid (Qu wr base 3 (.slice a j cap) ((addW W h).map (Value.int .i64))) := Lib.hid (by rw [← partW_all, HL.out]; exact hq)
      clear hq ht
      go_wp2
      go_end0
      exact ⟨rfl, HQ.out, HT.out⟩
end Go.Proofs.Ytjgdkaedfnihaaa
