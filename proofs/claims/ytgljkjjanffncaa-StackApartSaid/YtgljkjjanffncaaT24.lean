/-
  The reference's stack: SetLocal.
-/
import Derived.Test.YtgljkjjanffncaaT23
set_option linter.unusedVariables false
namespace Go.Proofs.Ytgljkjjanffncaa
open Go.RowKit Go.BigFrame

theorem QI.put {w : World} {base : Nat} {v : Value} {xs : List Int} (h : QI w base v xs) (p : Nat) (hp : p < xs.length) : ∃ g off c, v = .slice (some ⟨g, off, none⟩) xs.length c ∧ base ≤ g ∧ g < w.heap.size ∧ (∀ k, w.frozen? ⟨g, k, none⟩ = false) ∧ w.cell? ⟨g, off + p, none⟩ = some (.int .i64 (xs.getD p 0)) ∧
    ∀ x, QI (w.setCell ⟨g, off + p, none⟩ (.int .i64 x)) base v (xs.set p x) := by
  obtain ⟨g', off', c', e', hcell⟩ := Qu.get h p hp
  rcases h with ⟨_, h⟩ | ⟨g, off, c, cur, rfl, hb, hg, h1, h2, h3, h4⟩
  · simp at h; subst h; simp at hp
  · simp only [List.length_map] at h1 e' h4
    obtain ⟨⟨rfl, rfl⟩, rfl⟩ : (g = g' ∧ off = off') ∧ c = c' := by simpa using e'
    refine ⟨g, off, c, by simp, hb, hg.lt, fun k => hg.free k, hcell, fun x => .inr ⟨g, off, c, _, by simp, hb, hg.set _ _, by simpa using h1, h2, by simpa using h3, fun j hj => ?_⟩⟩
    have hj : j < xs.length := by simpa using hj
    rw [Array.getElem?_setIfInBounds]
    by_cases e : p = j
    · subst e
      have : off + p < cur.size := by omega
      simp [this, hp]
    · rw [if_neg (by omega), h4 j hj]
      simp [hj, List.getElem_set_ne e]
/-- The innermost frame's locals turned in their place. -/
theorem Rz.setLoc {w w1 : World} {B : List Nat} {base t size g off p : Nat} {v : Value} {ps : Nat → Nat → Value} {F : Frm} {r : List Frm} {n c : Nat} (h : Rz w B base t size v ps (F :: r)) (ht : Touch [] w w1) (hs : ps r.length 1 = .slice (some ⟨g, off, none⟩) n c) (hp : p < F.loc.length) (x : Int) :
    Rz (w1.setCell ⟨g, off + p, none⟩ (.int .i64 x)) B base t size v ps ({F with loc := F.loc.set p x} :: r) ∧ Touch [g] w1 (w1.setCell ⟨g, off + p, none⟩ (.int .i64 x)) ∧ base ≤ g ∧ g ∉ B := by
  have h1 := h.still ht
  obtain ⟨g', off', c', he, hb, hlt, _, _, hset⟩ := h1.fr.2.2.1.put p hp
  rw [hs] at he
  cases he
  have hown : (ps r.length 1).ownBlock = some g := by rw [hs]; rfl
  obtain ⟨q1, q2, q3, q4⟩ := h.ll r.length g (by simp) hown
  have t2 : Touch [g] w1 (w1.setCell ⟨g, off + p, none⟩ (.int .i64 x)) := (Touch.refl _ _).setCell (by simp) _
  refine ⟨⟨h1.obj.touch t2 (by simp; exact Ne.symm q1), h.bt, h.nt, h1.fs.touch t2 (fun b hb' => ?_), ⟨?_, ?_, ?_, ?_⟩, h.vo, h.ll, h.oo⟩, t2, hb, q2⟩
  · simp; intro e; exact q3 (by rw [hb', e])
  · refine Rf.touch t2 h1.fr.1 (fun i b hi hb' => ?_)
    obtain ⟨p1, p2⟩ := q4 i (by simp; omega)
    simp; intro e; subst e
    rcases hb' with hb' | hb'
    · exact p2 (by omega) hb'
    · exact p1 hb'
  · exact h1.fr.2.1
  · exact hset x
  · refine h1.fr.2.2.2.touch t2 (fun b hb' => ?_)
    obtain ⟨p1, p2⟩ := q4 r.length (by simp)
    simp; intro e; subst e; exact p1 hb'
section
variable (B : List Nat) (base t size : Nat) (F : Frm) (r : List Frm) (w : World)
set_option maxHeartbeats 8000000 in
theorem rset_m (i x : Int) (hn : r.length ≤ 900000) (hm : F.loc.length ≤ 1000000) (h : Rs w B base t size (F :: r)) :
    Calls Try.prog 28 #[.pointer (some ⟨t, 0, none⟩), .int .i64 i, .int .i64 x] w (RsP B base t size (setM i x (F :: r)).2 (.bool (setM i x (F :: r)).1) w) := by
  simp only [setM]
  have HS := Lib.hid h
  obtain ⟨v, ps, h⟩ := h
  have HK := Lib.hid h
  obtain ⟨g, cap, rfl, hg, hc1, hc2, _, _⟩ := h.top
  have HC := Lib.hid (fun w' (ht : Touch [] w w') => rtop_q B base t size F r ps w' g cap (by omega) (h.still ht))
  obtain ⟨a, ca, ho⟩ := Qu.form h.fr.2.2.1
  have HO := Lib.hid (fun w' (ht : Touch [] w w') => by
    obtain ⟨g', cap', he, _, _, _, hc', _⟩ := (h.still ht).top
    cases he
    have := hc' 1 (by omega)
    rw [ho] at this
    exact this)
  by_cases c : i < 0 ∨ (F.loc.length : Int) ≤ i
  · rw [if_pos c]
    obtain ⟨n, hn'⟩ : ∃ n, r.length = n := ⟨_, rfl⟩
    obtain ⟨m, hm'⟩ : ∃ m, F.loc.length = m := ⟨_, rfl⟩
    rw [hn'] at HC HO
    rw [hm'] at HO c
    clear h hm hm' hn hn' ho
    by_cases c0 : i < 0
    · have q : decide (i < 0) = true := dT c0
      clear c HC HO
      go_enter Try.func28, Try.ntmps28
      go_wp2
      go_ret
      exact ⟨rfl, HS.out, Mv.of (Touch.refl _ _)⟩
    · have q : decide (i < 0) = false := dF c0
      have q2 : decide ((m : Int) ≤ i) = true := dT (by omega)
      have q3 : (m : Int) ≤ i := by omega
      clear c
      go_enter Try.func28, Try.ntmps28
      go_wp2_with fail
      refine (HC.out _ (Touch.refl _ _)).mono ?_
      rintro e w1 ⟨rfl, ht⟩
      have HT := Lib.hid ht
      have y1 := HO.out _ ht
      clear ht
      go_wp2
      go_ret
      exact ⟨rfl, ⟨_, _, HK.out.still HT.out⟩, Mv.of HT.out⟩
  · rw [if_neg c]
    obtain ⟨p, rfl⟩ : ∃ p : Nat, i = p := ⟨i.toNat, by omega⟩
    rw [Int.toNat_natCast]
    have hp : p < F.loc.length := by omega
    have HV := Lib.hid (fun w' (ht : Touch [] w w') => (h.still ht).fr.2.2.1.put p hp)
    rw [ho] at HV
    obtain ⟨g2, off, c2, he, _⟩ := HV.out w (Touch.refl _ _)
    cases he
    have HSL := Lib.hid (fun w' (ht : Touch [] w w') => h.setLoc ht ho hp x)
    obtain ⟨n, hn'⟩ : ∃ n, r.length = n := ⟨_, rfl⟩
    obtain ⟨m, hm'⟩ : ∃ m, F.loc.length = m := ⟨_, rfl⟩
    rw [hn'] at HC HO
    rw [hm'] at HO HV hp hm
    have q : decide ((p : Int) < 0) = false := dF (by omega)
    have k2 : ¬ m ≤ p := by omega
    have k3 : decide (m ≤ p) = false := dF k2
    have k4 : decide ((m : Int) ≤ (p : Int)) = false := dF (by omega)
    clear h ho hn' hm' c
    go_enter Try.func28, Try.ntmps28
    go_wp2_with fail
    refine (HC.out _ (Touch.refl _ _)).mono ?_
    rintro e w1 ⟨rfl, ht⟩
    have HT := Lib.hid ht
    have y1 := HO.out _ ht
    clear ht
    go_wp2_with fail
    refine (HC.out _ HT.out).mono ?_
    rintro e w2 ⟨rfl, ht⟩
    have HT := Lib.hid (HT.out.trans ht)
    have y2 := HO.out _ HT.out
    obtain ⟨_, _, _, he, _, _, hz, hv, _⟩ := HV.out _ HT.out
    cases he
    have z2 := hz (off + p)
    clear ht y1 hz
    go_wp2
    go_ret
    obtain ⟨hR, ht5, hbg, hgB⟩ := HSL.out _ HT.out
    exact ⟨rfl, ⟨_, _, hR⟩, ⟨[g2], (HT.out.mono (by simp)).trans ht5, fun b hb => by simp at hb; subst hb; exact ⟨hbg, hgB⟩⟩⟩
end
end Go.Proofs.Ytgljkjjanffncaa
