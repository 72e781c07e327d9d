/-
  The reference's stack: Pop.
-/
import Derived.Test.YtgljkjjanffncaaT22
set_option linter.unusedVariables false
namespace Go.Proofs.Ytgljkjjanffncaa
open Go.RowKit Go.BigFrame

theorem Qu.cut {w : World} {base : Nat} {v : Value} {xs : List Int} (h : QI w base v xs) (hx : xs.length ≠ 0) : ∃ g off c, v = .slice (some ⟨g, off, none⟩) xs.length c ∧ xs.length ≤ c ∧ w.cell? ⟨g, off + (xs.length - 1), none⟩ = some (.int .i64 (xs.getD (xs.length - 1) 0)) ∧ Sl w (.slice (some ⟨g, off, none⟩) (xs.length - 1) c) (xs.take (xs.length - 1)) := by
  have hsl := h.sl
  rcases h with ⟨_, h⟩ | ⟨g, off, c, cur, rfl, hb, hg, h1, h2, h3, h4⟩
  · simp at h; subst h; simp at hx
  · simp only [List.length_map] at h1 hsl
    obtain ⟨a', c', he, hr⟩ := hsl
    cases he
    rcases hr with hr | ⟨g', off', he, hlt, hr⟩
    · subst hr; simp at hx
    · cases he
      refine ⟨g, off, c, by simp, h1, hr _ (by omega), ⟨_, c, by simp, .inr ⟨g, off, rfl, hlt, fun j hj => ?_⟩⟩⟩
      rw [List.length_take] at hj
      rw [hr j (by omega)]
      simp only [List.getD]
      rw [List.getElem?_take_of_lt (by omega)]
section
variable (B : List Nat) (base t size : Nat) (F : Frm) (r : List Frm) (w : World)
set_option maxHeartbeats 16000000 in
theorem rpop_no (hn : r.length ≤ 900000) (hr : F.ops.length = 0) (h : Rs w B base t size (F :: r)) :
    Calls Try.prog 24 #[.pointer (some ⟨t, 0, none⟩)] w fun e w' => e = .returned (.tuple #[.int .i64 0, .int .i64 4]) ∧ Touch [] w w' := by
  obtain ⟨v, ps, h⟩ := h
  have HP := Lib.hid (roperands_q B base t size F r v ps w (by omega) h)
  rw [hr] at HP
  clear h hr
  go_enter Try.func24, Try.ntmps24
  go_wp2_with fail
  refine HP.out.mono ?_
  rintro e w1 ⟨rfl, ht⟩
  have HT := Lib.hid ht
  clear ht
  go_wp2
  go_ret2
  exact ⟨rfl, HT.out⟩
set_option maxHeartbeats 16000000 in
theorem rpop_yes (hn : r.length ≤ 900000) (hm : F.ops.length ≤ 1000000) (hr : F.ops.length ≠ 0) (hB : ∀ b ∈ B, b < w.heap.size) (h : Rs w B base t size (F :: r)) :
    Calls Try.prog 24 #[.pointer (some ⟨t, 0, none⟩)] w (RsP B base t size ({F with ops := F.ops.take (F.ops.length - 1)} :: r) (.tuple #[.int .i64 (F.ops.getD (F.ops.length - 1) 0), .int .i64 0]) w) := by
  obtain ⟨v, ps, h⟩ := h
  have HK := Lib.hid h
  have HBB := Lib.hid hB
  have HP := Lib.hid (roperands_q B base t size F r v ps w (by omega) h)
  obtain ⟨g, cap, rfl, hg, hc1, hc2, hc, hz⟩ := h.top
  have HC := Lib.hid (fun w' (ht : Touch [] w w') => rtop_q B base t size F r ps w' g cap (by omega) (h.still ht))
  obtain ⟨g2, off, ca, ho, hle, _, _⟩ := h.fr.2.2.2.cut hr
  have HO := Lib.hid (fun w' (ht : Touch [] w w') => by
    obtain ⟨g', cap', he, _, _, _, hc', hz'⟩ := (h.still ht).top
    cases he
    have := hc' 2 (by omega)
    rw [ho] at this
    exact (⟨this, hz' (r.length * 3 + 2)⟩ : _ ∧ _))
  have HV := Lib.hid (fun w' (ht : Touch [] w w') => by
    obtain ⟨_, _, _, he, _, q1, q2⟩ := (h.still ht).fr.2.2.2.cut hr
    rw [ho] at he
    cases he
    exact (⟨q1, q2⟩ : _ ∧ _))
  have hlt : (F.ops.take (F.ops.length - 1)).length ≤ 1000000 := by rw [List.length_take]; omega
  have HX := Lib.hid (by rw [List.length_take]; omega : (F.ops.take (F.ops.length - 1)).length = F.ops.length - 1)
  obtain ⟨xs, hxs⟩ : ∃ xs, F.ops.take (F.ops.length - 1) = xs := ⟨_, rfl⟩
  obtain ⟨z, hz'⟩ : ∃ z, F.ops.getD (F.ops.length - 1) 0 = z := ⟨_, rfl⟩
  rw [hxs] at HV HX hlt ⊢
  rw [hz'] at HV ⊢
  obtain ⟨n, hn'⟩ : ∃ n, r.length = n := ⟨_, rfl⟩
  have HN := Lib.hid hn'
  obtain ⟨m, hm'⟩ : ∃ m, F.ops.length = m := ⟨_, rfl⟩
  rw [hn'] at HC HO
  rw [hm'] at HO HP HV HX hr hle hm
  have HBS : Hid (base ≤ w.heap.size) := Lib.hid (by have := h.bt; have := h.obj.lt; omega)
  obtain ⟨p, rfl⟩ : ∃ p, m = p + 1 := ⟨m - 1, by omega⟩
  rw [Nat.add_sub_cancel] at HV HX
  have v1 : IntKind.i64.wrap (((p + 1 : Nat) : Int) - 1) = (p : Int) := by rw [show ((p + 1 : Nat) : Int) - 1 = (p : Int) from by omega]; exact IntWalk.i64_in _ (by omega)
  have v2 : IntKind.i64.wrap ((p : Int) + 1 - 1) = (p : Int) := by rw [show (p : Int) + 1 - 1 = (p : Int) from by omega]; exact IntWalk.i64_in _ (by omega)
  have e1 : ((p : Int) + 1 == 0) = false := beqF (by omega)
  have k1 : (p : Int) ≤ (ca : Int) := by omega
  clear h hn hr hc hz ho hn' hm' hB hc1 hc2 hxs hz'
  go_enter Try.func24, Try.ntmps24
  go_wp2_with fail
  refine HP.out.mono ?_
  rintro e w1 ⟨rfl, ht⟩
  have HT := Lib.hid ht
  clear ht
  go_wp2_with fail
  refine (HC.out _ HT.out).mono ?_
  rintro e w2 ⟨rfl, ht⟩
  have HT := Lib.hid (HT.out.trans ht)
  obtain ⟨y2, _⟩ := HO.out _ HT.out
  obtain ⟨y3, _⟩ := HV.out _ HT.out
  clear ht
  go_wp2_with fail
  refine (HC.out _ HT.out).mono ?_
  rintro e w3 ⟨rfl, ht⟩
  have HT := Lib.hid (HT.out.trans ht)
  clear ht y2 y3
  go_wp2_with fail
  refine (HC.out _ HT.out).mono ?_
  rintro e w4 ⟨rfl, ht⟩
  have HT := Lib.hid (HT.out.trans ht)
  obtain ⟨y2, _⟩ := HO.out _ HT.out
  clear ht
  go_wp2_with fail
  refine (rcopy_any _ xs w4 (HV.out _ HT.out).2 hlt).mono ?_
  rintro e w5 ⟨v3, rfl, hq, ht⟩
  have hs2 := HT.out.size
  have HQ := Lib.hid (hq.mono hs2)
  have HT := Lib.hid (HT.out.trans ht)
  obtain ⟨y3, z3⟩ := HO.out _ HT.out
  clear ht y2 hq
  obtain ⟨a4, c4, rfl⟩ := Qu.form HQ.out
  go_wp2
  go_ret2
  obtain ⟨hR, ht5, hbg, hgB⟩ := HK.out.setOps HBB.out HT.out (HQ.out.mono HBS.out) (fun b hb => (HQ.out.own b hb).1)
  rw [HN.out] at hR ht5
  exact ⟨rfl, ⟨_, _, hR⟩, ⟨[g], (HT.out.mono (by simp)).trans ht5, fun b hb => by simp at hb; subst hb; exact ⟨hbg, hgB⟩⟩⟩
end
end Go.Proofs.Ytgljkjjanffncaa
