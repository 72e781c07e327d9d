/-
  Join and End, both tables side by side.
-/
import Derived.Test.YtjcbcbhiophkfaaJD
set_option linter.unusedVariables false
namespace Go.Proofs.Ytjcbcbhiophkfaa
open Go.RowKit Go.BigFrame

theorem Same.trans {B : List Nat} {w w1 w2 : World} (h : Same B w w1) (k : Same B w1 w2) : Same B w w2 := fun i hi => (k i hi).trans (h i hi)
section
variable {w0 w : World} {b c : Nat} {mo : Int} {n : Nat} {ps : Nat → Nat → Int} {live : List Int} {n2 : Nat} {ps2 : Nat → Nat → Int} {B : List Nat}
theorem Bo.rt (h : Bo w0 w b c mo n ps live n2 ps2 B) : ∃ G, Rt w c G mo n2 ps2 := by obtain ⟨F, G, h1, h2, h3, h4⟩ := h; exact ⟨G, h2⟩
theorem Bo.pt (h : Bo w0 w b c mo n ps live n2 ps2 B) : ∃ F, Pt w b F mo n ps live := by obtain ⟨F, G, h1, h2, h3, h4⟩ := h; exact ⟨F, h1⟩
theorem Bo.same {w' : World} (h : Bo w0 w b c mo n ps live n2 ps2 B) (ht : Touch [] w w') : Same B w w' := by
  obtain ⟨F, G, h1, h2, h3, h4⟩ := h
  exact fun k hk => ht.block k (h4 k hk).2.2 (by simp)
theorem bo_join1 (p : Int) (h : Bo w0 w b c mo n ps live n2 ps2 B) (hk : Ok n ps live) (hn : n ≤ 9000) : Calls Try.prog 11 #[.pointer (some ⟨b, 0, none⟩), .int .i64 p] w
    (BoP w0 b c mo n (joinP ps n p) live n2 ps2 B (.bool (joinR ps n p)) w) := by
  obtain ⟨F, G, h1, h2, h3, h4⟩ := h
  refine (join_s b F mo n ps live w p h1 hk hn).mono ?_
  rintro e w' ⟨F', he, k1, k2, k3⟩
  have := Bo.one h2 h3 h4 k1 k3
  exact ⟨he, this.1, this.2⟩
def BoJ (w0 : World) (b c : Nat) (mo : Int) (n : Nat) (ps : Nat → Nat → Int) (live : List Int) (p cc : Int) (n2 : Nat) (ps2 : Nat → Nat → Int) (B : List Nat) (w : World) (e : Ending) (w' : World) : Prop :=
  ∃ live', BoP w0 b c mo n (ejP ps n p cc) live' n2 ps2 B (.tuple #[.int .i64 (ejR ps n p cc), .bool (isL ps n p)]) w e w' ∧ Ok n (ejP ps n p cc) live' ∧ live'.length ≤ live.length
theorem bo_ej1 (p cc : Int) (h : Bo w0 w b c mo n ps live n2 ps2 B) (hk : Ok n ps live) (hn : n ≤ 9000) : Calls Try.prog 13 #[.pointer (some ⟨b, 0, none⟩), .int .i64 p, .int .i64 cc] w
    (BoJ w0 b c mo n ps live p cc n2 ps2 B w) := by
  obtain ⟨F, G, h1, h2, h3, h4⟩ := h
  refine (ej_s b F mo n ps live w p cc h1 hk hn).mono ?_
  rintro e w' ⟨live', ⟨F', he, k1, k2, k3⟩, k4, _⟩
  have := Bo.one h2 h3 h4 k1 k3
  exact ⟨live', ⟨he, this.1, this.2⟩, k2, k4⟩
set_option maxHeartbeats 8000000 in
theorem bo_join2 (p : Int) (h : Bo w0 w b c mo n ps live n2 ps2 B) (hn : n2 ≤ 9000) : Calls Try.prog 12 #[.pointer (some ⟨c, 0, none⟩), .int .i64 p] w
    (BoP w0 b c mo n ps live n2 (joinP ps2 n2 p) B (.bool (joinR ps2 n2 p)) w) := by
  have HB := Lib.hid h
  obtain ⟨G, hG⟩ := h.rt
  obtain ⟨x, hx⟩ : ∃ x, kidsN ps2 n2 p = x := ⟨_, rfl⟩
  have HC := Lib.hid (kids_2 c G mo n2 ps2 w p x hG hn hx)
  unfold joinP joinR
  rw [hx]
  clear h hx hG
  by_cases h0 : x = 0
  · rw [if_pos h0, dT h0]
    have q : (x == 0) = true := beqT h0
    go_enter Try.func12, Try.ntmps12
    go_wp2_with fail
    refine HC.out.mono ?_
    rintro e w1 ⟨rfl, rfl⟩
    go_wp2
    go_ret
    exact ⟨rfl, HB.out, fun _ _ => rfl⟩
  · rw [if_neg h0, dF h0]
    have q : (x == 0) = false := beqF h0
    have HBk := Lib.hid (bo_block2 p 5 0 HB.out hn)
    obtain ⟨qs, hqs⟩ : ∃ q, (if canB ps2 n2 p 5 = true then blockP ps2 (at1 p) 5 0 else ps2) = q := ⟨_, rfl⟩
    rw [hqs] at HBk ⊢
    clear hqs
    go_enter Try.func12, Try.ntmps12
    go_wp2_with fail
    refine HC.out.mono ?_
    rintro e w1 ⟨rfl, rfl⟩
    go_wp2_with fail
    refine HBk.out.mono ?_
    rintro e w2 ⟨rfl, h1, h2⟩
    have H1 := Lib.hid h1
    have H2 := Lib.hid h2
    clear h1 h2
    go_wp2
    go_ret
    exact ⟨rfl, H1.out, H2.out⟩
set_option maxHeartbeats 16000000 in
theorem bo_ej2 (p cc : Int) (h : Bo w0 w b c mo n ps live n2 ps2 B) (hq : Pos n2 ps2) (hn : n2 ≤ 9000) : Calls Try.prog 14 #[.pointer (some ⟨c, 0, none⟩), .int .i64 p, .int .i64 cc] w
    (BoP w0 b c mo n ps live n2 (ejP ps2 n2 p cc) B (.tuple #[.int .i64 (ejR ps2 n2 p cc), .bool (isL ps2 n2 p)]) w) := by
  have HB := Lib.hid h
  have HE := Lib.hid (bo_end2 p cc h hq hn)
  have HQ := Lib.hid hq
  have hfld := fld
  clear h hq
  cases hl : isL ps2 n2 p with
  | false =>
    rw [hl] at HE
    have e1 : ejP ps2 n2 p cc = ps2 := by unfold ejP; rw [hl]; rfl
    have e2 : ejR ps2 n2 p cc = 0 := by unfold ejR; rw [hl]; rfl
    rw [e1, e2]
    clear hl e1 e2
    go_enter Try.func14, Try.ntmps14
    go_wp2_with fail
    refine HE.out.mono ?_
    rintro e w2 ⟨rfl, h1, h2⟩
    have H1 := Lib.hid h1
    have H2 := Lib.hid h2
    clear h1 h2
    go_wp2
    go_ret2
    exact ⟨rfl, H1.out, H2.out⟩
  | true =>
    rw [hl] at HE
    obtain ⟨qs, hqs⟩ : ∃ q, endP ps2 (at1 p) cc = q := ⟨_, rfl⟩
    obtain ⟨up, hup⟩ : ∃ x, fieldOf ps2 n2 p 1 = x := ⟨_, rfl⟩
    have hup2 : fieldOf qs n2 p 1 = up := by rw [← hqs, fieldPar (end_par ps2 _ _), hup]
    have HPos : Hid (Pos n2 qs) := Lib.hid (by rw [← hqs]; exact HQ.out.end (at1_eq (isL_low hl)).1 cc)
    obtain ⟨res, hres⟩ : ∃ r, ejR ps2 n2 p cc = r := ⟨_, rfl⟩
    obtain ⟨rs, hrs⟩ : ∃ r, ejP ps2 n2 p cc = r := ⟨_, rfl⟩
    have HWK : Hid (res = if wkB qs n2 up then up else 0) := Lib.hid (by rw [← hres]; unfold ejR; rw [if_pos hl, hqs, hup])
    have HWP : Hid (rs = if wkB qs n2 up then wakeP qs (at1 up) else qs) := Lib.hid (by rw [← hrs]; unfold ejP; rw [if_pos hl, hqs, hup])
    rw [hres, hrs]
    simp only [if_true, hqs] at HE
    obtain ⟨x0, hx0⟩ : ∃ x, fieldOf qs n2 up 0 = x := ⟨_, rfl⟩
    obtain ⟨x2, hx2⟩ : ∃ x, fieldOf qs n2 up 2 = x := ⟨_, rfl⟩
    obtain ⟨x3, hx3⟩ : ∃ x, fieldOf qs n2 up 3 = x := ⟨_, rfl⟩
    obtain ⟨xk, hxk⟩ : ∃ x, kidsN qs n2 up = x := ⟨_, rfl⟩
    have HU := Lib.hid hup2
    have HX0 := Lib.hid hx0
    have HX2 := Lib.hid hx2
    have HX3 := Lib.hid hx3
    have HXK := Lib.hid hxk
    have HWB : Hid (wkB qs n2 up = decide (x0 = 2 ∧ x2 = 5 ∧ xk = 0)) := Lib.hid (by unfold wkB; rw [hx0, hx2, hxk])
    clear hl hup hqs hres hrs hup2 hx0 hx2 hx3 hxk
    go_enter Try.func14, Try.ntmps14
    go_wp2_with fail
    refine HE.out.mono ?_
    rintro e w2 ⟨rfl, h1, h2⟩
    have H1 := Lib.hid h1
    have H2 := Lib.hid h2
    obtain ⟨G, hG⟩ := h1.rt
    have HG := Lib.hid hG
    clear h1 h2 hG
    go_wp2_with fail
    refine (rparent_q c G mo n2 qs _ p up HG.out HPos.out hn HU.out).mono ?_
    rintro e w3 ⟨rfl, rfl⟩
    go_wp2_with fail
    refine (rstate_q c G mo n2 qs _ up x0 HG.out hn HX0.out).mono ?_
    rintro e w4 ⟨rfl, rfl⟩
    by_cases c0 : x0 = 2
    · have q0 : (x0 == 2) = true := beqT c0
      go_wp2_with fail
      refine (rwhy_q c G mo n2 qs _ up x2 x3 HG.out HPos.out hn HX2.out HX3.out).mono ?_
      rintro e w5 ⟨rfl, ht⟩
      have HT := Lib.hid ht
      have HB5 := Lib.hid (H1.out.touch ht)
      have HG5 := Lib.hid (HG.out.still ht)
      have HS5 := Lib.hid (H2.out.trans (H1.out.same ht))
      clear ht
      by_cases c5 : x2 = 5
      · have q5 : (x2 == 5) = true := beqT c5
        go_wp2_with fail
        refine (kids_2 c G mo n2 qs _ up xk HG5.out hn HXK.out).mono ?_
        rintro e w6 ⟨rfl, rfl⟩
        by_cases ck : xk = 0
        · have qk : (xk == 0) = true := beqT ck
          have HWB2 : Hid (wkB qs n2 up = true) := Lib.hid (by rw [HWB.out]; exact dT ⟨c0, c5, ck⟩)
          have HWk := Lib.hid (bo_wake2 up HB5.out hn)
          rw [show canW qs n2 up = true from dT (by rw [HX0.out]; exact c0)] at HWk
          simp only [if_true] at HWk
          go_wp2_with fail
          refine HWk.out.mono ?_
          rintro e w7 ⟨rfl, h1, h2⟩
          have K1 := Lib.hid h1
          have K2 := Lib.hid (HS5.out.trans h2)
          clear h1 h2
          go_wp2
          go_ret2
          refine ⟨?_, ?_, K2.out⟩
          · rw [HWK.out, HWB2.out]; rfl
          · rw [HWP.out, HWB2.out]; exact K1.out
        · have qk : (xk == 0) = false := beqF ck
          have HWB2 : Hid (wkB qs n2 up = false) := Lib.hid (by rw [HWB.out]; exact dF (fun h => ck h.2.2))
          go_wp2
          go_ret2
          refine ⟨?_, ?_, HS5.out⟩
          · rw [HWK.out, HWB2.out]; rfl
          · rw [HWP.out, HWB2.out]; exact HB5.out
      · have q5 : (x2 == 5) = false := beqF c5
        have HWB2 : Hid (wkB qs n2 up = false) := Lib.hid (by rw [HWB.out]; exact dF (fun h => c5 h.2.1))
        go_wp2
        go_ret2
        refine ⟨?_, ?_, HS5.out⟩
        · rw [HWK.out, HWB2.out]; rfl
        · rw [HWP.out, HWB2.out]; exact HB5.out
    · have q0 : (x0 == 2) = false := beqF c0
      have HWB2 : Hid (wkB qs n2 up = false) := Lib.hid (by rw [HWB.out]; exact dF (fun h => c0 h.1))
      go_wp2
      go_ret2
      refine ⟨?_, ?_, H2.out⟩
      · rw [HWK.out, HWB2.out]; rfl
      · rw [HWP.out, HWB2.out]; exact H1.out
end
end Go.Proofs.Ytjcbcbhiophkfaa
