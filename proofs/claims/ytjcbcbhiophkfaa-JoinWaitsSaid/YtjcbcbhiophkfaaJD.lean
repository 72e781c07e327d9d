/-
  Join and End, of both.
-/
import Derived.Test.YtjcbcbhiophkfaaJC
import Derived.Test.YtjcbcbhiophkfaaA9
set_option linter.unusedVariables false
namespace Go.Proofs.Ytjcbcbhiophkfaa
open Go.RowKit Go.BigFrame

theorem kids_nn (ps : Nat → Nat → Int) (n : Nat) (p : Int) : 0 ≤ kidsN ps n p := by unfold kidsN; split <;> omega
def joinR (ps : Nat → Nat → Int) (n : Nat) (p : Int) : Bool := decide (kidsN ps n p = 0)
def joinP (ps : Nat → Nat → Int) (n : Nat) (p : Int) : Nat → Nat → Int := if kidsN ps n p = 0 then ps else if canB ps n p 5 then blockP ps (at1 p) 5 0 else ps
/-- Behind an end: is the parent woken? -/
def wkB (ps : Nat → Nat → Int) (n : Nat) (up : Int) : Bool := decide (fieldOf ps n up 0 = 2 ∧ fieldOf ps n up 2 = 5 ∧ kidsN ps n up = 0)
def ejQ (ps : Nat → Nat → Int) (n : Nat) (p cc : Int) : Nat → Nat → Int := if isL ps n p then endP ps (at1 p) cc else ps
def ejR (ps : Nat → Nat → Int) (n : Nat) (p cc : Int) : Int := if isL ps n p then (if wkB (endP ps (at1 p) cc) n (fieldOf ps n p 1) then fieldOf ps n p 1 else 0) else 0
def ejP (ps : Nat → Nat → Int) (n : Nat) (p cc : Int) : Nat → Nat → Int := if isL ps n p then (if wkB (endP ps (at1 p) cc) n (fieldOf ps n p 1) then wakeP (endP ps (at1 p) cc) (at1 (fieldOf ps n p 1)) else endP ps (at1 p) cc) else ps
theorem end_par (ps : Nat → Nat → Int) (i : Nat) (c : Int) (a : Nat) : endP ps i c a 1 = ps a 1 := by
  unfold endP
  split
  · rw [setP_ne _ _ (by omega), setP_ne _ _ (by omega), setP_ne _ _ (by omega), setP_ne _ _ (by omega)]
  · rw [setP_ne _ _ (by omega), setP_ne _ _ (by omega), setP_ne _ _ (by omega), setP_ne _ _ (by omega), setP_ne _ _ (by omega)]
theorem block_par (ps : Nat → Nat → Int) (i : Nat) (kd ix : Int) (a : Nat) : blockP ps i kd ix a 1 = ps a 1 := by
  unfold blockP
  rw [setP_ne _ _ (by omega), setP_ne _ _ (by omega), setP_ne _ _ (by omega)]
theorem wake_par (ps : Nat → Nat → Int) (i : Nat) (a : Nat) : wakeP ps i a 1 = ps a 1 := by
  unfold wakeP
  rw [setP_ne _ _ (by omega), setP_ne _ _ (by omega), setP_ne _ _ (by omega)]
theorem fieldPar {ps ps' : Nat → Nat → Int} {n : Nat} (h : ∀ a, ps' a 1 = ps a 1) (p : Int) : fieldOf ps' n p 1 = fieldOf ps n p 1 := by
  by_cases hp : 1 ≤ p ∧ p ≤ (n : Int)
  · rw [field_at hp, field_at hp, h]
  · rw [fieldOf_out ps' hp, fieldOf_out ps hp]
section
variable (b : Nat) (F : List Nat) (most : Int) (n : Nat) (ps : Nat → Nat → Int) (live : List Int) (w : World)
theorem StP.trans {F' : List Nat} {ps' : Nat → Nat → Int} {live' : List Int} {r : Value} {w1 w2 : World} {e : Ending} {n' : Nat} (k3 : Fr F w F' w1) (h : StP b F' most n' ps' live' r w1 e w2) : StP b F most n' ps' live' r w e w2 := by
  obtain ⟨F'', h1, h2, h3, h4⟩ := h
  exact ⟨F'', h1, h2, h3, k3.trans h4⟩
set_option maxHeartbeats 4000000 in
theorem join_s (p : Int) (h : Pt w b F most n ps live) (hk : Ok n ps live) (hn : n ≤ 9000) : Calls Try.prog 11 #[.pointer (some ⟨b, 0, none⟩), .int .i64 p] w (StP b F most n (joinP ps n p) live (.bool (joinR ps n p)) w) := by
  have HP := Lib.hid h
  have HK := Lib.hid hk
  obtain ⟨x, hx⟩ : ∃ x, kidsN ps n p = x := ⟨_, rfl⟩
  unfold joinP joinR
  rw [hx]
  have HX := Lib.hid hx
  clear h hk hx
  by_cases h0 : x = 0
  · rw [if_pos h0, dT h0]
    have q : (x == 0) = true := beqT h0
    go_enter Try.func11, Try.ntmps11
    go_wp2_with fail
    refine (kids_1 b F most n ps live _ p x HP.out HK.out hn HX.out).mono ?_
    rintro e w1 ⟨rfl, rfl⟩
    go_wp2
    go_ret
    exact ⟨F, rfl, HP.out, HK.out, Fr.same (Touch.refl _ _) HP.out.lt⟩
  · rw [if_neg h0, dF h0]
    have HBk := Lib.hid (block_s b F most n ps live w p 5 0 HP.out HK.out hn)
    obtain ⟨qs, hqs⟩ : ∃ q, (if canB ps n p 5 = true then blockP ps (at1 p) 5 0 else ps) = q := ⟨_, rfl⟩
    rw [hqs] at HBk ⊢
    clear hqs
    have q : (x == 0) = false := beqF h0
    go_enter Try.func11, Try.ntmps11
    go_wp2_with fail
    refine (kids_1 b F most n ps live _ p x HP.out HK.out hn HX.out).mono ?_
    rintro e w1 ⟨rfl, rfl⟩
    go_wp2_with fail
    refine HBk.out.mono ?_
    rintro e w2 ⟨F', rfl, h1, h2, h3⟩
    have H1 := Lib.hid h1
    have H2 := Lib.hid h2
    have H3 := Lib.hid h3
    clear h1 h2 h3
    go_wp2
    go_ret
    exact ⟨F', rfl, H1.out, H2.out, H3.out⟩
def EjP (p cc : Int) (e : Ending) (w' : World) : Prop := ∃ live', StP b F most n (ejP ps n p cc) live' (.tuple #[.int .i64 (ejR ps n p cc), .bool (isL ps n p)]) w e w' ∧ live'.length ≤ live.length ∧ (isL ps n p = true → live'.length + 1 = live.length)
set_option maxHeartbeats 16000000 in
theorem ej_s (p cc : Int) (h : Pt w b F most n ps live) (hk : Ok n ps live) (hn : n ≤ 9000) : Calls Try.prog 13 #[.pointer (some ⟨b, 0, none⟩), .int .i64 p, .int .i64 cc] w (EjP b F most n ps live w p cc) := by
  have HP := Lib.hid h
  have HK := Lib.hid hk
  obtain ⟨up, hup⟩ : ∃ x, fieldOf ps n p 1 = x := ⟨_, rfl⟩
  have HU := Lib.hid hup
  have HE := Lib.hid (end_s b F most n ps live w p cc h hk hn)
  have hfld := fld
  clear h hk
  cases hl : isL ps n p with
  | false =>
    rw [hl] at HE
    have HL := Lib.hid hl
    clear hl hup
    go_enter Try.func13, Try.ntmps13
    go_wp2_with fail
    refine (parent_q b F most n ps live _ p up HP.out (by omega) HU.out).mono ?_
    rintro e w1 ⟨rfl, rfl⟩
    go_wp2_with fail
    refine HE.out.mono ?_
    rintro e w2 ⟨live', ⟨F', rfl, h1, h2, h3⟩, h4, h5⟩
    have H1 := Lib.hid h1
    have H2 := Lib.hid h2
    have H3 := Lib.hid h3
    have H4 := Lib.hid h4
    clear h1 h2 h3 h4 h5
    go_wp2
    go_ret2
    refine ⟨live', ⟨F', ?_, ?_, ?_, H3.out⟩, by rw [H4.out (by first | rfl | trivial)]; exact Nat.le_refl _, fun hh => by rw [HL.out] at hh; cases hh⟩
    · rw [HL.out]; unfold ejR; rw [HL.out]; rfl
    · unfold ejP; rw [HL.out]; exact H1.out
    · unfold ejP; rw [HL.out]; exact H2.out
  | true =>
    rw [hl] at HE
    have HL := Lib.hid hl
    obtain ⟨qs, hqs⟩ : ∃ q, endP ps (at1 p) cc = q := ⟨_, rfl⟩
    have hwk : ejR ps n p cc = if wkB qs n up then up else 0 := by unfold ejR; rw [if_pos hl, hqs, hup]
    have hwp : ejP ps n p cc = if wkB qs n up then wakeP qs (at1 up) else qs := by unfold ejP; rw [if_pos hl, hqs, hup]
    have HWK := Lib.hid hwk
    have HWP := Lib.hid hwp
    simp only [if_true, hqs] at HE
    obtain ⟨x0, hx0⟩ : ∃ x, fieldOf qs n up 0 = x := ⟨_, rfl⟩
    obtain ⟨x2, hx2⟩ : ∃ x, fieldOf qs n up 2 = x := ⟨_, rfl⟩
    obtain ⟨x3, hx3⟩ : ∃ x, fieldOf qs n up 3 = x := ⟨_, rfl⟩
    obtain ⟨xk, hxk⟩ : ∃ x, kidsN qs n up = x := ⟨_, rfl⟩
    have hxn : 0 ≤ xk := by rw [← hxk]; exact kids_nn _ _ _
    have HX0 := Lib.hid hx0
    have HX2 := Lib.hid hx2
    have HX3 := Lib.hid hx3
    have HXK := Lib.hid hxk
    have HWB : Hid (wkB qs n up = decide (x0 = 2 ∧ x2 = 5 ∧ xk = 0)) := Lib.hid (by unfold wkB; rw [hx0, hx2, hxk])
    clear hl hup hqs hwk hwp hx0 hx2 hx3 hxk
    by_cases c5 : x2 = 5
    · have q5 : (x2 != 5) = false := bneF c5
      by_cases ck : xk = 0
      · have qk : decide ((0 : Int) < xk) = false := dF (by omega)
        have hcw : Hid (canW qs n up = decide (x0 = 2)) := Lib.hid (by unfold canW; rw [HX0.out])
        obtain ⟨cw, hcw2⟩ : ∃ c, decide (x0 = 2) = c := ⟨_, rfl⟩
        have HC : Hid (canW qs n up = cw) := Lib.hid (by rw [hcw.out]; exact hcw2)
        have HWB2 : Hid (wkB qs n up = cw) := Lib.hid (by rw [HWB.out, ← hcw2]; by_cases h : x0 = 2 <;> simp [h, c5, ck])
        clear hcw hcw2
        go_enter Try.func13, Try.ntmps13
        go_wp2_with fail
        refine (parent_q b F most n ps live _ p up HP.out (by omega) HU.out).mono ?_
        rintro e w1 ⟨rfl, rfl⟩
        go_wp2_with fail
        refine HE.out.mono ?_
        rintro e w2 ⟨live', ⟨F', rfl, h1, h2, h3⟩, h4, h5⟩
        have H1 := Lib.hid h1
        have H2 := Lib.hid h2
        have H3 := Lib.hid h3
        have H5 := Lib.hid h5
        clear h1 h2 h3 h4 h5
        go_wp2_with fail
        refine (why_q b F' most n qs live' _ up x2 x3 H1.out (by omega) HX2.out HX3.out).mono ?_
        rintro e w3 ⟨rfl, ht⟩
        have HT := Lib.hid ht
        clear ht
        go_wp2_with fail
        refine (kids_1 b F' most n qs live' _ up xk (Pt.still H1.out HT.out) H2.out hn HXK.out).mono ?_
        rintro e w4 ⟨rfl, rfl⟩
        go_wp2_with fail
        refine (wake_s b F' most n qs live' _ up (Pt.still H1.out HT.out) H2.out hn).mono ?_
        rw [HC.out]
        rintro e w5 ⟨F2, rfl, h1, h2, h3⟩
        have K1 := Lib.hid h1
        have K2 := Lib.hid h2
        have K3 := Lib.hid h3
        clear h1 h2 h3
        have KF : Hid (Fr F w F2 w5) := Lib.hid (H3.out.trans ((Fr.same HT.out H1.out.lt).trans K3.out))
        cases cw with
        | true =>
          go_wp2
          go_ret2
          refine ⟨live', ⟨F2, ?_, ?_, ?_, KF.out⟩, by have := H5.out (by first | rfl | trivial); omega, fun _ => H5.out (by first | rfl | trivial)⟩
          · rw [HWK.out, HWB2.out, HL.out]; rfl
          · rw [HWP.out, HWB2.out]; exact K1.out
          · rw [HWP.out, HWB2.out]; exact K2.out
        | false =>
          go_wp2
          go_ret2
          refine ⟨live', ⟨F2, ?_, ?_, ?_, KF.out⟩, by have := H5.out (by first | rfl | trivial); omega, fun _ => H5.out (by first | rfl | trivial)⟩
          · rw [HWK.out, HWB2.out, HL.out]; rfl
          · rw [HWP.out, HWB2.out]; exact K1.out
          · rw [HWP.out, HWB2.out]; exact K2.out
      · have qk : decide ((0 : Int) < xk) = true := dT (by omega)
        have HWB2 : Hid (wkB qs n up = false) := Lib.hid (by rw [HWB.out]; exact dF (fun h => ck h.2.2))
        go_enter Try.func13, Try.ntmps13
        go_wp2_with fail
        refine (parent_q b F most n ps live _ p up HP.out (by omega) HU.out).mono ?_
        rintro e w1 ⟨rfl, rfl⟩
        go_wp2_with fail
        refine HE.out.mono ?_
        rintro e w2 ⟨live', ⟨F', rfl, h1, h2, h3⟩, h4, h5⟩
        have H1 := Lib.hid h1
        have H2 := Lib.hid h2
        have H3 := Lib.hid h3
        have H5 := Lib.hid h5
        clear h1 h2 h3 h4 h5
        go_wp2_with fail
        refine (why_q b F' most n qs live' _ up x2 x3 H1.out (by omega) HX2.out HX3.out).mono ?_
        rintro e w3 ⟨rfl, ht⟩
        have HT := Lib.hid ht
        clear ht
        go_wp2_with fail
        refine (kids_1 b F' most n qs live' _ up xk (Pt.still H1.out HT.out) H2.out hn HXK.out).mono ?_
        rintro e w4 ⟨rfl, rfl⟩
        go_wp2
        go_ret2
        refine ⟨live', ⟨F', ?_, ?_, ?_, H3.out.trans (Fr.same HT.out H1.out.lt)⟩, by have := H5.out (by first | rfl | trivial); omega, fun _ => H5.out (by first | rfl | trivial)⟩
        · rw [HWK.out, HWB2.out, HL.out]; rfl
        · rw [HWP.out, HWB2.out]; exact Pt.still H1.out HT.out
        · rw [HWP.out, HWB2.out]; exact H2.out
    · have q5 : (x2 != 5) = true := bneT c5
      have HWB2 : Hid (wkB qs n up = false) := Lib.hid (by rw [HWB.out]; exact dF (fun h => c5 h.2.1))
      go_enter Try.func13, Try.ntmps13
      go_wp2_with fail
      refine (parent_q b F most n ps live _ p up HP.out (by omega) HU.out).mono ?_
      rintro e w1 ⟨rfl, rfl⟩
      go_wp2_with fail
      refine HE.out.mono ?_
      rintro e w2 ⟨live', ⟨F', rfl, h1, h2, h3⟩, h4, h5⟩
      have H1 := Lib.hid h1
      have H2 := Lib.hid h2
      have H3 := Lib.hid h3
      have H5 := Lib.hid h5
      clear h1 h2 h3 h4 h5
      go_wp2_with fail
      refine (why_q b F' most n qs live' _ up x2 x3 H1.out (by omega) HX2.out HX3.out).mono ?_
      rintro e w3 ⟨rfl, ht⟩
      have HT := Lib.hid ht
      clear ht
      go_wp2
      go_ret2
      refine ⟨live', ⟨F', ?_, ?_, ?_, H3.out.trans (Fr.same HT.out H1.out.lt)⟩, by have := H5.out (by first | rfl | trivial); omega, fun _ => H5.out (by first | rfl | trivial)⟩
      · rw [HWK.out, HWB2.out, HL.out]; rfl
      · rw [HWP.out, HWB2.out]; exact Pt.still H1.out HT.out
      · rw [HWP.out, HWB2.out]; exact H2.out
end
end Go.Proofs.Ytjcbcbhiophkfaa
