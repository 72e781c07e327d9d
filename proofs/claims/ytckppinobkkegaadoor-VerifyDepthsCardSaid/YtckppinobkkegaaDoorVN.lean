/-
  The walk through a procedure.
-/
import Derived.Test.YtckppinobkkegaaDoorVM
import Derived.Test.YtckppinobkkegaaDoorVC
set_option linter.unusedVariables false
namespace Go.Proofs.YtckppinobkkegaaDoor
open Go Go.RowKit

/-- The blocks of the walk's variables. -/
structure DpB where
  l : Nat
  f : Nat
  p : Nat
  k : Nat
  g : Nat
def DpB.caps (B : DpB) : Array Value := #[.pointer (some ⟨B.l, 0, none⟩), .pointer (some ⟨B.f, 0, none⟩), .pointer (some ⟨B.p, 0, none⟩), .pointer (some ⟨B.k, 0, none⟩)]
structure DpI (w0 w : World) (P : Pg) (cs : Array Value) (B : DpB) (k : Nat) (D : List Int) : Prop where
  cL : Blk w B.l #[.slice (some ⟨B.g, 0, none⟩) D.length D.length] 25
  cF : Blk w B.f #[.int .i64 (fromP P k : Int)] 3
  cP : Blk w B.p cs 29
  cW : Blk w B.k #[.func (.func 24) #[] #[.pointer (some ⟨B.l, 0, none⟩), .pointer (some ⟨B.f, 0, none⟩), .pointer (some ⟨B.p, 0, none⟩), .pointer (some ⟨B.k, 0, none⟩)]] 54
  cG : Blk w B.g (D.map (Value.int .i64)).toArray 3
  nl : B.l ≠ B.g
  nf : B.f ≠ B.g
  np : B.p ≠ B.g
  nk : B.k ≠ B.g
  lo : w0.heap.size ≤ B.g
  t : Touch [] w0 w
theorem DpI.touch {w0 w w' : World} {P : Pg} {cs : Array Value} {B : DpB} {k : Nat} {D : List Int} (h : DpI w0 w P cs B k D) (ht : Touch [] w w') : DpI w0 w' P cs B k D :=
  ⟨h.cL.touch ht (by simp), h.cF.touch ht (by simp), h.cP.touch ht (by simp), h.cW.touch ht (by simp), h.cG.touch ht (by simp), h.nl, h.nf, h.np, h.nk, h.lo, h.t.trans ht⟩
theorem DpI.at {w0 w : World} {P : Pg} {cs : Array Value} {B : DpB} {k : Nat} {D : List Int} (h : DpI w0 w P cs B k D) {i : Nat} (hi : i < D.length) : w.cell? ⟨B.g, i, none⟩ = some (.int .i64 (lab D i)) := by
  refine h.cG.cell ?_
  rw [List.getElem?_toArray, List.getElem?_map, List.getElem?_eq_getElem hi, ← lab_at hi]
  rfl
theorem DpI.set {w0 w : World} {P : Pg} {cs : Array Value} {B : DpB} {k : Nat} {D : List Int} (h : DpI w0 w P cs B k D) (i : Nat) (x : Int) : DpI w0 (w.setCell ⟨B.g, i, none⟩ (.int .i64 x)) P cs B k (D.set i x) := by
  have hg := h.cG.set i (.int .i64 x)
  rw [List.setIfInBounds_toArray, ← List.map_set] at hg
  refine ⟨?_, h.cF.other (a := ⟨B.g, i, none⟩) h.nf _, h.cP.other (a := ⟨B.g, i, none⟩) h.np _, h.cW.other (a := ⟨B.g, i, none⟩) h.nk _, hg, h.nl, h.nf, h.np, h.nk, h.lo, ?_⟩
  · rw [List.length_set]; exact h.cL.other (a := ⟨B.g, i, none⟩) h.nl _
  · exact h.t.transF (((Touch.refl [B.g] w).setCell (by simp) _) : Touch [B.g] w _) (fun q hq hlt => by have := h.lo; have := List.mem_singleton.1 hq; omega)
def WalkP (w0 w : World) (P : Pg) (cs : Array Value) (B : DpB) (k : Nat) (D : List Int) (i : Nat) (h : Int) (e : Ending) (w' : World) : Prop :=
  ∃ (b : Bool) (D' : List Int), e = .returned (.bool b) ∧ Hid (DpI w0 w' P cs B k D' ∧ (bare D' ≤ bare D ∧ Touch [B.g] w w') ∧ (b = true → Walked (flow P k) D D' i h) ∧ (b = false → ¬ (flow P k).Good))
theorem tk_04 {P : Pg} (ht : TabOk P) {k i : Nat} (hf : FitOk P k i) : 0 ≤ tkP P i ∧ tkP P i ≤ 4 := by
  have hen : ∀ j, j < P.n2 → EntOk P j := ht 1 (by omega)
  have hfk : ∀ j, j < P.n8 → ForkOk P j := ht 7 (by omega)
  unfold tkP
  split
  · rename_i e
    have := hf.lim (by rw [e, lim_26]; omega)
    rw [e, lim_26] at this
    have he := hen (P.a i).toNat (by omega)
    exact ⟨he.p0, he.p1⟩
  · split
    · rename_i e
      have := hf.lim (by rw [e, lim_28]; omega)
      rw [e, lim_28] at this
      have h8 := hfk (P.a i).toNat (by omega)
      have := h8.p0
      have := h8.p1
      have he := hen (P.z8 (P.a i).toNat 0).toNat (by omega)
      exact ⟨he.p0, he.p1⟩
    · have := popZ_02 (P.op i)
      omega
set_option maxRecDepth 100000 in
set_option maxHeartbeats 32000000 in
theorem walk_any (w0 : World) (P : Pg) (B : DpB) (k : Nat) (hv : Vs w0) (hT : TabOk P) (hk : k < P.n2) (hI : InsAll P k) (a1 a2 a3 a5 a6 a7 a8 : Option Addr) (c1 c2 c3 c5 c6 c7 c8 : Nat) (ho : PgO w0 P a1 a2 a3 a5 a6 a7 a8 c1 c2 c3 c5 c6 c7 c8) :
    ∀ (f : Nat) (D : List Int) (w : World) (i : Nat) (A h : Int), bare D < f → DpI w0 w P #[.slice a1 P.n1 c1, .slice a2 P.n2 c2, .slice a3 P.n3 c3, .int .i64 P.rg, .slice a5 P.se.length c5, .slice a6 P.tt.length c6, .slice a7 P.ve.length c7, .slice a8 P.n8 c8, .int .i64 P.cl] B k D → Sound (flow P k) D → Rch (flow P k) i h → h + (bare D : Int) ≤ (D.length : Int) → A = (fromP P k : Int) + (i : Int) →
      Calls Tryd.prog 24 #[.int .i64 A, .int .i64 h, .pointer (some ⟨B.l, 0, none⟩), .pointer (some ⟨B.f, 0, none⟩), .pointer (some ⟨B.p, 0, none⟩), .pointer (some ⟨B.k, 0, none⟩)] w (WalkP w0 w P #[.slice a1 P.n1 c1, .slice a2 P.n2 c2, .slice a3 P.n3 c3, .int .i64 P.rg, .slice a5 P.se.length c5, .slice a6 P.tt.length c6, .slice a7 P.ve.length c7, .slice a8 P.n8 c8, .int .i64 P.cl] B k D i h)
  | 0, D, w, i, A, h, hb, _, _, _, _, _ => absurd hb (Nat.not_lt_zero _)
  | f + 1, D, w, i, A, h, hb, hd, hs, hr, hh, hA => by
    have HREC := Lib.hid (walk_any w0 P B k hv hT hk hI a1 a2 a3 a5 a6 a7 a8 c1 c2 c3 c5 c6 c7 c8 ho f)
    have HM := Lib.hid (flow_may hT hk hI)
    obtain ⟨hin, hh0⟩ := hr.lt HM.out
    have hiD : i < D.length := by rw [hs.len]; exact hin
    have HV := Lib.hid hv
    have HTO := Lib.hid hT
    have HIA := Lib.hid hI
    have HO := Lib.hid ho
    have HBF := Lib.hid hb
    have HD := Lib.hid hd
    have HS := Lib.hid hs
    have HR := Lib.hid hr
    have HH := Lib.hid hh
    have HA := Lib.hid hA
    have HFL := Lib.hid (from_lt hT hk)
    have HFN : Hid ((flow P k).n = toP P k - fromP P k) := Lib.hid rfl
    have hDn : D.length = toP P k - fromP P k := hs.len
    have hn5 : toP P k ≤ 5000 := by have := (hT 0 (by omega) : MayP P).1; have := HFL.out.2.1; omega
    obtain ⟨fr, hfr⟩ : ∃ z, fromP P k = z := ⟨_, rfl⟩
    obtain ⟨n, hn⟩ : ∃ z, D.length = z := ⟨_, rfl⟩
    have HFR := Lib.hid hfr
    have HN := Lib.hid hn
    have y0 := hd.cL.cell (i := 0) rfl
    have y1 := hd.cF.cell (i := 0) rfl
    have x0 := hd.at hiD
    rw [hn] at y0 hiD hDn
    rw [hfr] at y1 hA hDn
    have fA1 : (0 : Int) ≤ A - (fr : Int) := by omega
    have fA2 : A - (fr : Int) < (n : Int) := by omega
    have fA3 : (A - (fr : Int)).toNat = i := by omega
    have fB1 : (0 : Int) ≤ A := by omega
    have fB2 : A ≤ 5000 := by omega
    have hn50 : (n : Int) ≤ 5000 := by omega
    clear hb hd hs hr hh hA hfr hn hDn hv hT hI ho
    by_cases hlab : 0 ≤ lab D i
    · by_cases he : lab D i = h
      · have HW := Lib.hid (Walked.known HS.out he hh0)
        rw [he] at x0
        have d0 : decide ((0 : Int) ≤ h) = true := dT hh0
        clear he hlab
        go_enter Tryd.func24, Tryd.ntmps24
        go_wp2_with fail
        go_ret
        exact ⟨_, D, rfl, Lib.hid ⟨HD.out, ⟨Nat.le_refl _, Touch.refl _ _⟩, fun _ => HW.out, fun e => (by cases e)⟩⟩
      · have HG := Lib.hid (bad_two (HS.out.rch i hlab) HR.out he)
        obtain ⟨y, hy⟩ : ∃ y, lab D i = y := ⟨_, rfl⟩
        rw [hy] at x0 hlab he
        have d0 : decide ((0 : Int) ≤ y) = true := dT hlab
        have d1 : (y == h) = false := beqF he
        clear he hlab hy
        go_enter Tryd.func24, Tryd.ntmps24
        go_wp2_with fail
        go_ret
        exact ⟨_, D, rfl, Lib.hid ⟨HD.out, ⟨Nat.le_refl _, Touch.refl _ _⟩, fun e => (by cases e), fun _ => HG.out⟩⟩
    · have hneg : lab D i = -1 := HS.out.neg i (by omega)
      rw [hneg] at x0
      have HNEG := Lib.hid hneg
      clear hlab hneg
      have hiF : i < (flow P k).n := hin
      have HEQ : Hid (fromP P k + i = fr + i) := Lib.hid (by rw [HFR.out])
      have hIn1 : fr + i < P.n1 := by have := HFL.out.2.1; have := HFN.out; rw [HFR.out] at this; omega
      have HFG := Lib.hid (insC_zero (HIA.out (fr + i) (by rw [HFR.out]; omega) (by have := HFN.out; rw [HFR.out] at this; omega)))
      have HTK := Lib.hid (tk_04 HTO.out HFG.out.1)
      have HPS := Lib.hid (pusZ_01 (P.op (fr + i)))
      have HFT : Hid ((flow P k).tk i = tkP P (fr + i)) := Lib.hid (by show tkP P (fromP P k + i) = _; rw [HFR.out])
      have HFP : Hid ((flow P k).ps i = pusZ (P.op (fr + i))) := Lib.hid (by show pusZ (P.op (fromP P k + i)) = _; rw [HFR.out])
      have HFRT : Hid ((flow P k).rt i = decide (P.op (fr + i) = 27)) := Lib.hid (by show decide (P.op (fromP P k + i) = 27) = _; rw [HFR.out])
      have HFX : Hid ((flow P k).nx i = nxP P k i) := Lib.hid rfl
      have HNX : Hid (nxP P k i = if P.op (fr + i) = 27 then [] else if P.op (fr + i) = 24 then [(P.a (fr + i)).toNat - fr] else if P.op (fr + i) = 25 then [i + 1, (P.a (fr + i)).toNat - fr] else if P.op (fr + i) = 33 then [i + 1, (P.b (fr + i)).toNat - fr] else [i + 1]) := Lib.hid (by unfold nxP; rw [HFR.out])
      obtain ⟨g, off, hg, xo⟩ := HO.out.h1.at3 hIn1
      have HXO := Lib.hid xo
      have HTK2 : Hid (∀ wz, Vs wz → PgO wz P a1 a2 a3 a5 a6 a7 a8 c1 c2 c3 c5 c6 c7 c8 → Calls Tryd.prog 25 #[.agg #[.slice a1 P.n1 c1, .slice a2 P.n2 c2, .slice a3 P.n3 c3, .int .i64 P.rg, .slice a5 P.se.length c5, .slice a6 P.tt.length c6, .slice a7 P.ve.length c7, .slice a8 P.n8 c8, .int .i64 P.cl], .agg #[.int .i64 (P.op (fr + i)), .int .i64 (P.a (fr + i)), .int .i64 (P.b (fr + i))]] wz (IntQ (tkP P (fr + i)) wz)) := Lib.hid (fun wz h1 h2 => takes_any _ P k (fr + i) wz h1 h2.val HTO.out HFG.out.1)
      have HGO := Lib.hid HFG.out.2
      have HX0 := Lib.hid (show ∀ w', Touch [] w0 w' → w'.cell? ⟨g, off + (fr + i) * 3, none⟩ = some (.int .i64 (P.op (fr + i))) ∧ w'.cell? ⟨g, off + (fr + i) * 3 + 1, none⟩ = some (.int .i64 (P.a (fr + i))) ∧ w'.cell? ⟨g, off + (fr + i) * 3 + 2, none⟩ = some (.int .i64 (P.b (fr + i))) from xo)
      have HGJ := Lib.hid HGO.out.jump
      have HGA := Lib.hid HGO.out.await
      have HGN := Lib.hid HGO.out.on
      rw [HFR.out] at HGJ HGA
      obtain ⟨op, hop⟩ : ∃ z, P.op (fr + i) = z := ⟨_, rfl⟩
      obtain ⟨a, ha⟩ : ∃ z, P.a (fr + i) = z := ⟨_, rfl⟩
      obtain ⟨b, hbz⟩ : ∃ z, P.b (fr + i) = z := ⟨_, rfl⟩
      obtain ⟨tkz, htk⟩ : ∃ z, tkP P (fr + i) = z := ⟨_, rfl⟩
      obtain ⟨psz, hps⟩ : ∃ z, pusZ op = z := ⟨_, rfl⟩
      rw [hop] at HPS HFP HFRT HNX HGJ HGA HGN
      rw [hps] at HPS HFP
      rw [htk] at HTK HFT
      rw [ha, hbz] at HNX
      rw [ha] at HGJ
      rw [hbz] at HGA
      rw [hop, ha, hbz] at HX0
      rw [hop, ha, hbz, htk] at HTK2
      have HPU : Hid (∀ wz, Vs wz → Calls Tryd.prog 26 #[.int .i64 op] wz fun e w' => e = .returned (.int .i64 psz) ∧ wz = w') := Lib.hid (fun wz h1 => by rw [← hps]; exact pushes_any op wz h1)
      have HD1 : Hid (DpI w0 (w.setCell ⟨B.g, i, none⟩ (.int .i64 h)) P #[.slice a1 P.n1 c1, .slice a2 P.n2 c2, .slice a3 P.n3 c3, .int .i64 P.rg, .slice a5 P.se.length c5, .slice a6 P.tt.length c6, .slice a7 P.ve.length c7, .slice a8 P.n8 c8, .int .i64 P.cl] B k (D.set i h)) := Lib.hid (HD.out.set i h)
      have HDA : Hid (DpI w0 ((w.setCell ⟨B.g, i, none⟩ (.int .i64 h)).alloc (.cells #[.int .i64 op, .int .i64 a, .int .i64 b] 40)) P #[.slice a1 P.n1 c1, .slice a2 P.n2 c2, .slice a3 P.n3 c3, .int .i64 P.rg, .slice a5 P.se.length c5, .slice a6 P.tt.length c6, .slice a7 P.ve.length c7, .slice a8 P.n8 c8, .int .i64 P.cl] B k (D.set i h)) := Lib.hid (HD1.out.touch ((Touch.refl [] _).alloc _))
      have nb : Blk ((w.setCell ⟨B.g, i, none⟩ (.int .i64 h)).alloc (.cells #[.int .i64 op, .int .i64 a, .int .i64 b] 40)) (w.setCell ⟨B.g, i, none⟩ (.int .i64 h)).heap.size #[.int .i64 op, .int .i64 a, .int .i64 b] 40 := Blk.new rfl
      have hsz : (w.setCell ⟨B.g, i, none⟩ (.int .i64 h)).heap.size = w.heap.size := by simp
      rw [hsz] at nb
      have HNB := Lib.hid nb
      have x0f := HD.out.cG.free i
      have p0 := HD1.out.cP.cell (i := 0) rfl
      have z0 := (HX0.out _ HD1.out.t).1
      have z1 := (HX0.out _ HD1.out.t).2.1
      have z2 := (HX0.out _ HD1.out.t).2.2
      have fB3 : A.toNat = fr + i := by have := HA.out; rw [HFR.out] at this; omega
      have fB4 : A < (P.n1 : Int) := by have := HA.out; rw [HFR.out] at this; omega
      have j0 := nb.cell (i := 0) rfl
      have j1 := nb.cell (i := 1) rfl
      have j2 := nb.cell (i := 2) rfl
      have r0 := HDA.out.cP.cell (i := 0) rfl
      have r1 := HDA.out.cP.cell (i := 1) rfl
      have r2 := HDA.out.cP.cell (i := 2) rfl
      have r3 := HDA.out.cP.cell (i := 3) rfl
      have r4 := HDA.out.cP.cell (i := 4) rfl
      have r5 := HDA.out.cP.cell (i := 5) rfl
      have r6 := HDA.out.cP.cell (i := 6) rfl
      have r7 := HDA.out.cP.cell (i := 7) rfl
      have r8 := HDA.out.cP.cell (i := 8) rfl
      have HVB := Lib.hid (HV.out.touch HDA.out.t)
      have HOB := Lib.hid (HO.out.touch HDA.out.t)
      have HS1 : Hid (Sound (flow P k) (D.set i h)) := Lib.hid (HS.out.set hiF HR.out hh0)
      have HBR : Hid (bare (D.set i h) + 1 = bare D) := Lib.hid (bare_set D i h (by rw [HN.out]; exact hiD) (by rw [HNEG.out]; decide) hh0)
      have HLD : Hid ((D.set i h).length = n) := Lib.hid (by rw [List.length_set, HN.out])
      subst hg
      clear hop ha hbz htk hps hsz nb xo HXO hiF hIn1
      have hh5 : h ≤ 5000 := by have := HH.out; rw [HN.out] at this; omega
      go_enter Tryd.func24, Tryd.ntmps24
      go_wp2_with fail
      refine (HTK2.out _ HVB.out HOB.out).mono ?_
      rintro e w4 ⟨rfl, ht4⟩
      have HD4 := Lib.hid (HDA.out.touch ht4)
      have HT4 : Hid (Touch [B.g] w w4) := Lib.hid ((((Touch.refl [B.g] w).setCell (by simp) _).alloc _).trans (ht4.mono (by simp)))
      have HNB4 := Lib.hid (HNB.out.touch ht4 (by simp))
      have HGL := Lib.hid HD.out.cG.lt
      have nb4 := HNB.out.touch ht4 (by simp)
      have HV4 := Lib.hid (HVB.out.touch ht4)
      clear j0 j1 j2 r0 r1 r2 r3 r4 r5 r6 r7 r8 x0 x0f p0 z0 z1 z2 y0 y1 ht4
      have j0 := nb4.cell (i := 0) rfl
      have j1 := nb4.cell (i := 1) rfl
      have j2 := nb4.cell (i := 2) rfl
      have kw := HD4.out.cW.cell (i := 0) rfl
      have ht0 := HTK.out.1
      have ht4 := HTK.out.2
      have hp0 := HPS.out.1
      have hp1 := HPS.out.2
      clear nb4
      by_cases hr0 : h - tkz < 0
      · have HG : Hid (¬ (flow P k).Good) := Lib.hid (bad_ok HR.out (fun ho => by have := ho.1; rw [HFT.out] at this; omega))
        have d0 : decide (h - tkz < 0) = true := dT hr0
        clear hr0
        go_wp2_with fail
        go_ret
        exact ⟨_, D.set i h, rfl, Lib.hid ⟨HD4.out, ⟨by have := HBR.out; omega, HT4.out⟩, fun e => (by cases e), fun _ => HG.out⟩⟩
      have d0 : decide (h - tkz < 0) = false := dF hr0
      go_wp2_with fail
      refine (HPU.out _ HV4.out).mono ?_
      rintro e w5 ⟨rfl, rfl⟩
      have HF1 : Hid (bare (D.set i h) < f) := Lib.hid (by have := HBR.out; have := HBF.out; omega)
      have HB1 : Hid (h - tkz + psz + (bare (D.set i h) : Int) ≤ ((D.set i h).length : Int)) := Lib.hid (by have := HBR.out; have h1 := HH.out; have h2 := HLD.out; have h3 := HN.out; omega)
      have HOUT : Hid ((flow P k).out i h = h - tkz + psz) := Lib.hid (by unfold Flow.out; rw [HFT.out, HFP.out])
      have HLN : Hid (D.length = (flow P k).n) := Lib.hid HS.out.len
      have HIN : Hid (i < (flow P k).n) := Lib.hid hin
      have HNL : Hid (lab D i < 0) := Lib.hid (by rw [HNEG.out]; decide)
      have hrr : 0 ≤ h - tkz + psz := by omega
      by_cases e27 : op = 27
      · subst e27
        have HNXE : Hid ((flow P k).nx i = []) := Lib.hid (by rw [HFX.out, HNX.out, if_pos rfl])
        by_cases h00 : h = 0
        · have HOK : Hid ((flow P k).ok i h) := Lib.hid ⟨by rw [HFT.out]; omega, fun _ => h00⟩
          have HW := Lib.hid (Walked.close HM.out HLN.out HIN.out hh0 HNL.out HS1.out (Ext.refl _) HOK.out (fun j hj => by rw [HNXE.out] at hj; cases hj) (fun j h1 h2 => by omega))
          subst h00
          go_wp2_with fail
          go_ret
          exact ⟨_, D.set i 0, rfl, Lib.hid ⟨HD4.out, ⟨by have := HBR.out; omega, HT4.out⟩, fun _ => HW.out, fun e => (by cases e)⟩⟩
        · have HG : Hid (¬ (flow P k).Good) := Lib.hid (bad_ok HR.out (fun ho => h00 (ho.2 (by rw [HFRT.out]; rfl))))
          have d1 : (h == 0) = false := beqF h00
          clear h00
          go_wp2_with fail
          go_ret
          exact ⟨_, D.set i h, rfl, Lib.hid ⟨HD4.out, ⟨by have := HBR.out; omega, HT4.out⟩, fun e => (by cases e), fun _ => HG.out⟩⟩
      have f27 : (op == 27) = false := beqF e27
      have HOK : Hid ((flow P k).ok i h) := Lib.hid ⟨by rw [HFT.out]; omega, fun e => by rw [HFRT.out] at e; exact absurd (of_decide_eq_true e) e27⟩
      by_cases e24 : op = 24
      · subst e24
        have HNXE : Hid ((flow P k).nx i = [a.toNat - fr]) := Lib.hid (by rw [HFX.out, HNX.out]; rw [if_neg (by decide), if_pos rfl])
        have HRJ : Hid (Rch (flow P k) (a.toNat - fr) (h - tkz + psz)) := Lib.hid (by rw [← HOUT.out]; exact Rch.step HR.out HOK.out (by rw [HNXE.out]; simp))
        have HAJ : Hid (a = (fromP P k : Int) + ((a.toNat - fr : Nat) : Int)) := Lib.hid (by have h1 := (HGJ.out (.inl rfl)); rw [HFR.out]; omega)
        have HC := Lib.hid (HREC.out (D.set i h) w4 (a.toNat - fr) (a) (h - tkz + psz) HF1.out HD4.out HS1.out HRJ.out HB1.out HAJ.out)
        go_wp2_with fail
        refine HC.out.mono ?_
        rintro e w6 ⟨b6, D2, rfl, H6⟩
        go_wp2_with fail
        go_ret
        exact ⟨b6, D2, rfl, Lib.hid ⟨H6.out.1, ⟨by have := H6.out.2.1.1; have := HBR.out; omega, HT4.out.trans H6.out.2.1.2⟩, fun e => Walked.close HM.out HLN.out HIN.out hh0 HNL.out (H6.out.2.2.1 e).snd (H6.out.2.2.1 e).ext HOK.out (fun j' hj' => by rw [HNXE.out] at hj'; rw [List.mem_singleton.1 hj', HOUT.out]; exact (H6.out.2.2.1 e).at_) (H6.out.2.2.1 e).clo, H6.out.2.2.2⟩⟩
      have f24 : (op == 24) = false := beqF e24
      have fA5 : A + 1 ≤ 5001 := by omega
      by_cases e25 : op = 25
      · subst e25
        have HNXE : Hid ((flow P k).nx i = [i + 1, a.toNat - fr]) := Lib.hid (by rw [HFX.out, HNX.out]; rw [if_neg (by decide), if_neg (by decide), if_pos rfl])
        have HRJ : Hid (Rch (flow P k) (i + 1) (h - tkz + psz)) := Lib.hid (by rw [← HOUT.out]; exact Rch.step HR.out HOK.out (by rw [HNXE.out]; simp))
        have HRJ2 : Hid (Rch (flow P k) (a.toNat - fr) (h - tkz + psz)) := Lib.hid (by rw [← HOUT.out]; exact Rch.step HR.out HOK.out (by rw [HNXE.out]; simp))
        have HAJ : Hid (A + 1 = (fromP P k : Int) + ((i + 1 : Nat) : Int)) := Lib.hid (by rw [HA.out]; omega)
        have HAJ2 : Hid (a = (fromP P k : Int) + ((a.toNat - fr : Nat) : Int)) := Lib.hid (by have h1 := (HGJ.out (.inr rfl)); rw [HFR.out]; omega)
        have HC := Lib.hid (HREC.out (D.set i h) w4 (i + 1) (A + 1) (h - tkz + psz) HF1.out HD4.out HS1.out HRJ.out HB1.out HAJ.out)
        go_wp2_with fail
        refine HC.out.mono ?_
        rintro e w6 ⟨b6, D2, rfl, H6⟩
        cases b6 with
        | false =>
          go_wp2_with fail
          go_ret
          exact ⟨false, D2, rfl, Lib.hid ⟨H6.out.1, ⟨by have := H6.out.2.1.1; have := HBR.out; omega, HT4.out.trans H6.out.2.1.2⟩, fun e => (by cases e), fun _ => (by first | exact H6.out.2.2.2 rfl | exact H6.out.2.2.2 trivial)⟩⟩
        | true =>
          have HW1 := Lib.hid (H6.out.2.2.1 rfl)
          have nb6 := HNB4.out.touch H6.out.2.1.2 (by have := HGL.out; simp; omega)
          have kw6 := H6.out.1.cW.cell (i := 0) rfl
          have j16 := nb6.cell (i := 1) rfl
          have HF2 : Hid (bare D2 < f) := Lib.hid (by have := H6.out.2.1.1; have := HF1.out; omega)
          have HB2 : Hid (h - tkz + psz + (bare D2 : Int) ≤ (D2.length : Int)) := Lib.hid (by have h1 := HW1.out.snd.len; have h2 := HS1.out.len; have h3 := HB1.out; have := H6.out.2.1.1; omega)
          have HC2 := Lib.hid (HREC.out D2 w6 (a.toNat - fr) (a) (h - tkz + psz) HF2.out H6.out.1 HW1.out.snd HRJ2.out HB2.out HAJ2.out)
          clear kw j0 j1 j2 nb6
          go_wp2_with fail
          refine HC2.out.mono ?_
          rintro e w7 ⟨b7, D3, rfl, H7⟩
          go_wp2_with fail
          go_ret
          exact ⟨b7, D3, rfl, Lib.hid ⟨H7.out.1, ⟨by have := H6.out.2.1.1; have := H7.out.2.1.1; have := HBR.out; omega, (HT4.out.trans H6.out.2.1.2).trans H7.out.2.1.2⟩, fun e => by
            obtain ⟨t1, t2, t3, t4, t5⟩ := Walked.then HM.out HW1.out (H7.out.2.2.1 e)
            exact Walked.close HM.out HLN.out HIN.out hh0 HNL.out t1 t2 HOK.out (fun j' hj' => by
              rw [HNXE.out] at hj'
              rw [HOUT.out]
              rcases List.mem_cons.1 hj' with e1 | e1
              · rw [e1]; exact t3 hrr
              · rw [List.mem_singleton.1 e1]; exact t4) t5, H7.out.2.2.2⟩⟩
      have f25 : (op == 25) = false := beqF e25
      by_cases e33 : op = 33
      · subst e33
        have HNXE : Hid ((flow P k).nx i = [i + 1, b.toNat - fr]) := Lib.hid (by rw [HFX.out, HNX.out]; rw [if_neg (by decide), if_neg (by decide), if_neg (by decide), if_pos rfl])
        have HRJ : Hid (Rch (flow P k) (i + 1) (h - tkz + psz)) := Lib.hid (by rw [← HOUT.out]; exact Rch.step HR.out HOK.out (by rw [HNXE.out]; simp))
        have HRJ2 : Hid (Rch (flow P k) (b.toNat - fr) (h - tkz + psz)) := Lib.hid (by rw [← HOUT.out]; exact Rch.step HR.out HOK.out (by rw [HNXE.out]; simp))
        have HAJ : Hid (A + 1 = (fromP P k : Int) + ((i + 1 : Nat) : Int)) := Lib.hid (by rw [HA.out]; omega)
        have HAJ2 : Hid (b = (fromP P k : Int) + ((b.toNat - fr : Nat) : Int)) := Lib.hid (by have h1 := (HGA.out rfl); rw [HFR.out]; omega)
        have HC := Lib.hid (HREC.out (D.set i h) w4 (i + 1) (A + 1) (h - tkz + psz) HF1.out HD4.out HS1.out HRJ.out HB1.out HAJ.out)
        go_wp2_with fail
        refine HC.out.mono ?_
        rintro e w6 ⟨b6, D2, rfl, H6⟩
        cases b6 with
        | false =>
          go_wp2_with fail
          go_ret
          exact ⟨false, D2, rfl, Lib.hid ⟨H6.out.1, ⟨by have := H6.out.2.1.1; have := HBR.out; omega, HT4.out.trans H6.out.2.1.2⟩, fun e => (by cases e), fun _ => (by first | exact H6.out.2.2.2 rfl | exact H6.out.2.2.2 trivial)⟩⟩
        | true =>
          have HW1 := Lib.hid (H6.out.2.2.1 rfl)
          have nb6 := HNB4.out.touch H6.out.2.1.2 (by have := HGL.out; simp; omega)
          have kw6 := H6.out.1.cW.cell (i := 0) rfl
          have j26 := nb6.cell (i := 2) rfl
          have HF2 : Hid (bare D2 < f) := Lib.hid (by have := H6.out.2.1.1; have := HF1.out; omega)
          have HB2 : Hid (h - tkz + psz + (bare D2 : Int) ≤ (D2.length : Int)) := Lib.hid (by have h1 := HW1.out.snd.len; have h2 := HS1.out.len; have h3 := HB1.out; have := H6.out.2.1.1; omega)
          have HC2 := Lib.hid (HREC.out D2 w6 (b.toNat - fr) (b) (h - tkz + psz) HF2.out H6.out.1 HW1.out.snd HRJ2.out HB2.out HAJ2.out)
          clear kw j0 j1 j2 nb6
          go_wp2_with fail
          refine HC2.out.mono ?_
          rintro e w7 ⟨b7, D3, rfl, H7⟩
          go_wp2_with fail
          go_ret
          exact ⟨b7, D3, rfl, Lib.hid ⟨H7.out.1, ⟨by have := H6.out.2.1.1; have := H7.out.2.1.1; have := HBR.out; omega, (HT4.out.trans H6.out.2.1.2).trans H7.out.2.1.2⟩, fun e => by
            obtain ⟨t1, t2, t3, t4, t5⟩ := Walked.then HM.out HW1.out (H7.out.2.2.1 e)
            exact Walked.close HM.out HLN.out HIN.out hh0 HNL.out t1 t2 HOK.out (fun j' hj' => by
              rw [HNXE.out] at hj'
              rw [HOUT.out]
              rcases List.mem_cons.1 hj' with e1 | e1
              · rw [e1]; exact t3 hrr
              · rw [List.mem_singleton.1 e1]; exact t4) t5, H7.out.2.2.2⟩⟩
      have f33 : (op == 33) = false := beqF e33
      have HNXE : Hid ((flow P k).nx i = [i + 1]) := Lib.hid (by rw [HFX.out, HNX.out]; rw [if_neg e27, if_neg e24, if_neg e25, if_neg e33])
      have HRJ : Hid (Rch (flow P k) (i + 1) (h - tkz + psz)) := Lib.hid (by rw [← HOUT.out]; exact Rch.step HR.out HOK.out (by rw [HNXE.out]; simp))
      have HAJ : Hid (A + 1 = (fromP P k : Int) + ((i + 1 : Nat) : Int)) := Lib.hid (by rw [HA.out]; omega)
      have HC := Lib.hid (HREC.out (D.set i h) w4 (i + 1) (A + 1) (h - tkz + psz) HF1.out HD4.out HS1.out HRJ.out HB1.out HAJ.out)
      go_wp2_with fail
      refine HC.out.mono ?_
      rintro e w6 ⟨b6, D2, rfl, H6⟩
      go_wp2_with fail
      go_ret
      exact ⟨b6, D2, rfl, Lib.hid ⟨H6.out.1, ⟨by have := H6.out.2.1.1; have := HBR.out; omega, HT4.out.trans H6.out.2.1.2⟩, fun e => Walked.close HM.out HLN.out HIN.out hh0 HNL.out (H6.out.2.2.1 e).snd (H6.out.2.2.1 e).ext HOK.out (fun j' hj' => by rw [HNXE.out] at hj'; rw [List.mem_singleton.1 hj', HOUT.out]; exact (H6.out.2.2.1 e).at_) (H6.out.2.2.1 e).clo, H6.out.2.2.2⟩⟩
end Go.Proofs.YtckppinobkkegaaDoor
