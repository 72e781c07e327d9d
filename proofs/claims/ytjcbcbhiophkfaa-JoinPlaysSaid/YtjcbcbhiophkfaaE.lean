/-
  The process table: a process ends.
-/
import Derived.Test.YtjcbcbhiophkfaaD
import Derived.Deep.Cut
set_option linter.unusedVariables false
namespace Go.Proofs.Ytjcbcbhiophkfaa
open Go.RowKit Go.BigFrame

section
variable (b : Nat) (F : List Nat) (most : Int) (n : Nat) (ps : Nat → Nat → Int) (live : List Int) (w : World)
set_option maxHeartbeats 2000000 in
theorem end_no (p c : Int) (h : Pt w b F most n ps live) (hn : n ≤ 9000000) (hs : isL ps n p = false) : Calls Try.prog 34 #[.pointer (some ⟨b, 0, none⟩), .int .i64 p, .int .i64 c] w fun e w' => e = .returned (.bool false) ∧ w = w' := by
  obtain ⟨va, vl, h, rfl⟩ := h
  have HC := Lib.hid (isLive_any b va vl most n ps live w p h hn)
  rw [hs] at HC
  clear h hs
  go_enter Try.func34, Try.ntmps34
  go_wp2_with fail
  refine HC.out.mono ?_
  rintro e w1 ⟨rfl, rfl⟩
  go_wp2
  go_ret
  exact ⟨rfl, rfl⟩

/-- Who has ended, with which code. -/
def endP (ps : Nat → Nat → Int) (i : Nat) (c : Int) : Nat → Nat → Int := if c = 0 then setP (setP (setP (setP ps i 0 3) i 2 0) i 3 0) i 4 c else setP (setP (setP (setP (setP ps i 0 3) i 2 0) i 3 0) i 4 c) i 0 4
set_option maxHeartbeats 8000000 in
theorem end_yes (i k : Nat) (c : Int) (h : Pt w b F most n ps live) (hn : n ≤ 9000000) (hi : i < n) (hs : isL ps n ((i : Int) + 1) = true) (hk : k < live.length) (hl : live.length ≤ 100000) (hx : live.getD k 0 = (i : Int) + 1) (hno : ∀ j, j < k → live.getD j 0 ≠ (i : Int) + 1) :
    Calls Try.prog 34 #[.pointer (some ⟨b, 0, none⟩), .int .i64 ((i : Int) + 1), .int .i64 c] w (PtP b F most n (endP ps i c) (live.eraseIdx k) (.bool true) w) := by
  obtain ⟨va, vl, h, rfl⟩ := h
  have HC := Lib.hid (isLive_any b va vl most n ps live w ((i : Int) + 1) h hn)
  rw [hs] at HC
  obtain ⟨g, cap, hva, _, hg, _, _, hc, hf, _⟩ := h.all.at hi
  have HG := Lib.hid (get_in b va vl most n ps live w i g cap h hi hva hn)
  subst hva
  have x0 : w.cell? ⟨g, i * 5, none⟩ = some (.int .i64 (ps i 0)) := hc 0 (by omega)
  have x2 := hc 2 (by omega)
  have x3 : w.cell? ⟨g, i * 5 + 2 + 1, none⟩ = some (.int .i64 (ps i 3)) := hc 3 (by omega)
  have x4 := hc 4 (by omega)
  have y0 := hf (i * 5)
  have y2 := hf (i * 5 + 2)
  have y3 := hf (i * 5 + 2 + 1)
  have y4 := hf (i * 5 + 4)
  have a1 := h.all.set hi (j := 0) (by omega) 3
  have a2 := a1.set hi (j := 2) (by omega) 0
  have a3 := a2.set hi (j := 3) (by omega) 0
  have a4 := a3.set hi (j := 4) (by omega) c
  have a5 := a4.set hi (j := 0) (by omega) 4
  have HX := Lib.hid hx
  have HNo := Lib.hid hno
  have HK := Lib.hid hk
  have HLn := Lib.hid hl
  have HH := Lib.hid h
  obtain ⟨ll, hll⟩ : ∃ ll, live.length = ll := ⟨_, rfl⟩
  obtain ⟨lg, loff, lcap, hvl⟩ : ∃ lg loff lcap, vl = .slice (some ⟨lg, loff, none⟩) ll lcap := by
    rcases h.live with ⟨_, h0⟩ | ⟨lg, loff, lcap, _, hv, _⟩
    · have : live = [] := by simpa using h0
      rw [this] at hk; simp at hk
    · exact ⟨lg, loff, lcap, by rw [hv]; simp [hll]⟩
  subst hvl
  have HLL := Lib.hid hll
  have hkl : k < ll := by omega
  have hl2 : ll ≤ 100000 := by omega
  -- the world behind the stores
  obtain ⟨W4, hW4⟩ : ∃ W4, (((w.setCell ⟨g, i * 5, none⟩ (.int .i64 3)).setCell ⟨g, i * 5 + 2, none⟩ (.int .i64 0)).setCell ⟨g, i * 5 + 2 + 1, none⟩ (.int .i64 0)).setCell ⟨g, i * 5 + 4, none⟩ (.int .i64 c) = W4 := ⟨_, rfl⟩
  have t4 : Touch [g] w W4 := by rw [← hW4]; exact ((((Touch.refl _ _).setCell (by simp) _).setCell (by simp) _).setCell (by simp) _).setCell (by simp) _
  have A4 : Hid (Ar W4 0 69 5 (.slice (some ⟨g, 0, none⟩) n cap) n (setP (setP (setP (setP ps i 0 3) i 2 0) i 3 0) i 4 c)) := Lib.hid (by rw [← hW4]; exact a4)
  have T4 := Lib.hid t4
  have HW4 := Lib.hid hW4
  clear h hc hf hs a1 a2 a3 a4 hx hno hk hl t4 hW4 hll
  have HLn' : Hid (live.length ≤ 1000000) := Lib.hid (by have := HLn.out; omega)
  have HK' : Hid (k < live.length) := HK
  by_cases hc0 : c = 0
  · have e0 : (c != 0) = false := bneF hc0
    have HC0 := Lib.hid hc0
    clear hc0 a5
    go_enter Try.func34, Try.ntmps34
    go_wp2_with fail
    refine HC.out.mono ?_
    rintro e w1 ⟨rfl, rfl⟩
    go_wp2_with fail
    refine HG.out.mono ?_
    rintro e w1 ⟨rfl, rfl⟩
    go_upto_region 7 with fail
    rw [HW4.out]
    clear x0 x2 x3 x4 y0 y2 y3 y4
    have HV := Lib.hid (HH.out.put A4.out T4.out)
    have z3 := HV.out.obj.cell (i := 3) rfl
    go_wp2_with fail
    refine (index_any _ live _ k _ HV.out.live.sl HLn'.out HK'.out HX.out HNo.out).mono ?_
    rintro e w1 ⟨rfl, rfl⟩
    go_wp2_with fail
    refine (delete_any lg loff lcap 0 k ll live _ HV.out.live HLL.out hkl hl2).mono ?_
    rintro e W5 ⟨rfl, hq, ht⟩
    have hlb := HV.out.nl lg rfl
    have hb5 := HV.out.obj.touch ht (by simp; omega)
    have u3 := hb5.cell (i := 3) rfl
    have u4 := hb5.free 3
    have HB5 := Lib.hid hb5
    have HQ := Lib.hid hq
    have HT5 := Lib.hid ht
    clear hb5 hq ht z3
    go_wp2
    go_ret
    have hgb := HV.out.na g rfl
    have hgl : g ≠ lg := fun e => HV.out.nn g rfl (by simp [Value.ownBlock, e])
    have ht6 : Touch [b] W5 (W5.setCell ⟨b, 3, none⟩ (.slice (some ⟨lg, loff, none⟩) (live.eraseIdx k).length lcap)) := (Touch.refl _ _).setCell (by simp) _
    have hv6 : Pv (W5.setCell ⟨b, 3, none⟩ (.slice (some ⟨lg, loff, none⟩) (live.eraseIdx k).length lcap)) b (.slice (some ⟨g, 0, none⟩) n cap) (.slice (some ⟨lg, loff, none⟩) (live.eraseIdx k).length lcap) most n (endP ps i c) (live.eraseIdx k) := by
      rw [show endP ps i c = setP (setP (setP (setP ps i 0 3) i 2 0) i 3 0) i 4 c from if_pos HC0.out]
      exact ⟨HB5.out.set 3 _, (A4.out.touch HT5.out (fun k hk => by simp [Value.ownBlock] at hk; simp; omega)).touch ht6 (fun k hk => by simp [Value.ownBlock] at hk; simp; omega), HQ.out.touch ht6 (fun k hk => by simp [Value.ownBlock] at hk; simp; omega), HV.out.na, fun k hk => HV.out.nl k (by simpa [Value.ownBlock] using hk), fun k hk hk2 => HV.out.nn k hk (by simpa [Value.ownBlock] using hk2)⟩
    obtain ⟨F', h1, h2⟩ := HH.out.left hv6 (((T4.out.mono (by simp [fp, Value.ownBlock])).trans (HT5.out.mono (by simp [fp, Value.ownBlock]))).trans (ht6.mono (by simp [fp, Value.ownBlock]))) (fun k hk => .inl hk) (fun k hk => .inl (by simpa [Value.ownBlock] using hk))
    exact ⟨F', rfl, h1, h2⟩
  · have e0 : (c != 0) = true := bneT hc0
    have HC0 := Lib.hid hc0
    obtain ⟨W6, hW6⟩ : ∃ W6, W4.setCell ⟨g, i * 5, none⟩ (.int .i64 4) = W6 := ⟨_, rfl⟩
    have t6 : Touch [g] w W6 := by rw [← hW6]; exact T4.out.setCell (by simp) _
    have A6 : Hid (Ar W6 0 69 5 (.slice (some ⟨g, 0, none⟩) n cap) n (setP (setP (setP (setP (setP ps i 0 3) i 2 0) i 3 0) i 4 c) i 0 4)) := Lib.hid (by rw [← hW6, ← HW4.out]; exact a5)
    have T6 := Lib.hid t6
    have HW6 := Lib.hid hW6
    clear hc0 a5 t6 hW6
    go_enter Try.func34, Try.ntmps34
    go_wp2_with fail
    refine HC.out.mono ?_
    rintro e w1 ⟨rfl, rfl⟩
    go_wp2_with fail
    refine HG.out.mono ?_
    rintro e w1 ⟨rfl, rfl⟩
    go_upto_region 7 with fail
    rw [HW4.out, HW6.out]
    clear x0 x2 x3 x4 y0 y2 y3 y4
    have HV := Lib.hid (HH.out.put A6.out T6.out)
    have z3 := HV.out.obj.cell (i := 3) rfl
    go_wp2_with fail
    refine (index_any _ live _ k _ HV.out.live.sl HLn'.out HK'.out HX.out HNo.out).mono ?_
    rintro e w1 ⟨rfl, rfl⟩
    go_wp2_with fail
    refine (delete_any lg loff lcap 0 k ll live _ HV.out.live HLL.out hkl hl2).mono ?_
    rintro e W5 ⟨rfl, hq, ht⟩
    have hlb := HV.out.nl lg rfl
    have hb5 := HV.out.obj.touch ht (by simp; omega)
    have u3 := hb5.cell (i := 3) rfl
    have u4 := hb5.free 3
    have HB5 := Lib.hid hb5
    have HQ := Lib.hid hq
    have HT5 := Lib.hid ht
    clear hb5 hq ht z3
    go_wp2
    go_ret
    have hgb := HV.out.na g rfl
    have hgl : g ≠ lg := fun e => HV.out.nn g rfl (by simp [Value.ownBlock, e])
    have ht6 : Touch [b] W5 (W5.setCell ⟨b, 3, none⟩ (.slice (some ⟨lg, loff, none⟩) (live.eraseIdx k).length lcap)) := (Touch.refl _ _).setCell (by simp) _
    have hv6 : Pv (W5.setCell ⟨b, 3, none⟩ (.slice (some ⟨lg, loff, none⟩) (live.eraseIdx k).length lcap)) b (.slice (some ⟨g, 0, none⟩) n cap) (.slice (some ⟨lg, loff, none⟩) (live.eraseIdx k).length lcap) most n (endP ps i c) (live.eraseIdx k) := by
      rw [show endP ps i c = setP (setP (setP (setP (setP ps i 0 3) i 2 0) i 3 0) i 4 c) i 0 4 from if_neg HC0.out]
      exact ⟨HB5.out.set 3 _, (A6.out.touch HT5.out (fun k hk => by simp [Value.ownBlock] at hk; simp; omega)).touch ht6 (fun k hk => by simp [Value.ownBlock] at hk; simp; omega), HQ.out.touch ht6 (fun k hk => by simp [Value.ownBlock] at hk; simp; omega), HV.out.na, fun k hk => HV.out.nl k (by simpa [Value.ownBlock] using hk), fun k hk hk2 => HV.out.nn k hk (by simpa [Value.ownBlock] using hk2)⟩
    obtain ⟨F', h1, h2⟩ := HH.out.left hv6 (((T6.out.mono (by simp [fp, Value.ownBlock])).trans (HT5.out.mono (by simp [fp, Value.ownBlock]))).trans (ht6.mono (by simp [fp, Value.ownBlock]))) (fun k hk => .inl hk) (fun k hk => .inl (by simpa [Value.ownBlock] using hk))
    exact ⟨F', rfl, h1, h2⟩
end
end Go.Proofs.Ytjcbcbhiophkfaa
