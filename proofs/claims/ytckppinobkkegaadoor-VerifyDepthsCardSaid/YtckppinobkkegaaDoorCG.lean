/-
  A program as a value; whether one may be, in both packages; Small.
-/
import Derived.Test.YtckppinobkkegaaDoorCF
set_option linter.unusedVariables false
namespace Go.Proofs.YtckppinobkkegaaDoor
open Go Go.RowKit

/-- pv is the program P. -/
def PgV (w : World) (pv : Value) (P : Pg) : Prop := ∃ v1 v2 v3 v5 v6 v7 v8, pv = .agg #[v1, v2, v3, .int .i64 P.rg, v5, v6, v7, v8, .int .i64 P.cl] ∧ Slr w v1 P.n1 3 P.z1 ∧ Slr w v2 P.n2 3 P.z2 ∧ Slr w v3 P.n3 2 P.z3 ∧ Sl w v5 P.se ∧ Sl w v6 P.tt ∧ Rws w v7 P.ve ∧ Slr w v8 P.n8 2 P.z8
theorem PgV.touch {w w' : World} {pv : Value} {P : Pg} (h : PgV w pv P) (ht : Touch [] w w') : PgV w' pv P := by
  obtain ⟨v1, v2, v3, v5, v6, v7, v8, rfl, h1, h2, h3, h5, h6, h7, h8⟩ := h
  exact ⟨v1, v2, v3, v5, v6, v7, v8, rfl, h1.touch ht, h2.touch ht, h3.touch ht, h5.touch ht (by simp), h6.touch ht (by simp), h7.touch ht, h8.touch ht⟩
structure LenP (P : Pg) : Prop where
  n1 : P.n1 ≤ 9223372036854775807
  n2 : P.n2 ≤ 9223372036854775807
  n3 : P.n3 ≤ 9223372036854775807
  se : P.se.length ≤ 9223372036854775807
  tt : P.tt.length ≤ 9223372036854775807
  ve : P.ve.length ≤ 9223372036854775807
  vs : ∀ v ∈ P.ve, v.length ≤ 9223372036854775807
  n8 : P.n8 ≤ 9223372036854775807
def AnyB (w : World) (e : Ending) (w' : World) : Prop := ∃ b : Bool, e = .returned (.bool b) ∧ Touch [] w w'
/-- Does a row have another length? -/
def oddR (ve : List (List Int)) (c : Nat) : Bool := ve.any fun v => decide (v.length ≠ c)
theorem oddR_range (ve : List (List Int)) (c : Nat) : oddR ve c = (List.range ve.length).any fun i => decide ((rw_ ve i).length ≠ c) := by
  unfold oddR
  rw [Bool.eq_iff_iff]
  simp only [List.any_eq_true, decide_eq_true_eq]
  constructor
  · rintro ⟨v, hv, hc⟩
    obtain ⟨i, hi, rfl⟩ := List.getElem_of_mem hv
    exact ⟨i, List.mem_range.2 hi, by unfold rw_; rw [List.getD_eq_getElem?_getD, List.getElem?_eq_getElem hi]; exact hc⟩
  · rintro ⟨i, hi, hc⟩
    exact ⟨_, rw_mem (List.mem_range.1 hi), hc⟩
theorem mayP_odd (P : Pg) (h : P.n1 ≤ 5000 ∧ 1 ≤ P.n2 ∧ P.n2 ≤ 13 ∧ P.n3 ≤ 16 ∧ P.se.length ≤ 8 ∧ P.tt.length ≤ 6 ∧ P.ve.length ≤ 1000 ∧ P.n8 ≤ 1000) : decide (MayP P) = !oddR P.ve P.tt.length := by
  obtain ⟨h1, h2, h3, h4, h5, h6, h7, h8⟩ := h
  cases ho : oddR P.ve P.tt.length with
  | true =>
    refine decide_eq_false (fun hm => ?_)
    unfold oddR at ho
    obtain ⟨v, hv, hc⟩ := List.any_eq_true.1 ho
    exact of_decide_eq_true hc (hm.2.2.2.2.2.2.2.2 v hv)
  | false =>
    refine decide_eq_true ⟨h1, h2, h3, h4, h5, h6, h7, h8, fun v hv => ?_⟩
    unfold oddR at ho
    have := List.any_eq_false.1 ho v hv
    simpa using this
def IndexFP (is : Bool) (w : World) (e : Ending) (w' : World) : Prop := ∃ i : Int, e = .returned (.int .i64 i) ∧ ((is = true ∧ 0 ≤ i) ∨ (is = false ∧ i = -1)) ∧ Touch [] w w'
set_option maxHeartbeats 4000000 in
theorem mayf_any (b : Nat) (cs : Array Value) (a2 : Option Addr) (c c2 : Nat) (ra : Option Addr) (n rc : Nat) (o : Bool) (w : World) (hb : Blk w b cs 29) (h5 : cs[5]? = some (.slice a2 c c2)) (ho : decide (n ≠ c) = o) :
    Calls Tryd.prog 48 #[.slice ra n rc, .pointer (some ⟨b, 0, none⟩)] w (BoolP o w) := by
  have x5 : w.cell? ⟨b, 5, none⟩ = some (.slice a2 c c2) := hb.cell h5
  have hn : ((n : Int) != (c : Int)) = o := by
    rw [← ho]
    by_cases e : n = c
    · rw [bneF (by omega), decide_eq_false (fun h => h e)]
    · rw [bneT (by omega), decide_eq_true e]
  clear ho hb h5
  go_enter Tryd.func48, Tryd.ntmps48
  go_wp2
  go_ret
  exact ⟨rfl, Touch.refl _ _⟩
set_option maxHeartbeats 8000000 in
theorem mayi_any (b : Nat) (cs : Array Value) (a2 : Option Addr) (c c2 : Nat) (v : Value) (ve : List (List Int)) (w : World) (hb : Blk w b cs 29) (h5 : cs[5]? = some (.slice a2 c c2)) (hv : Rws w v ve) (hlen : ve.length ≤ 1000) :
    Calls Tryd.prog 53 #[v, .func (.func 48) #[] #[.pointer (some ⟨b, 0, none⟩)]] w (IndexFP (oddR ve c) w) := by
  have HD := Lib.hid hb
  have HS := Lib.hid hv
  have H5 := Lib.hid h5
  have HA : Hid (oddR ve c = (List.range ve.length).any fun i => decide ((rw_ ve i).length ≠ c)) := Lib.hid (oddR_range ve c)
  obtain ⟨a, cc, rfl⟩ := hv.form
  obtain ⟨L, hL⟩ : ∃ L, ve.length = L := ⟨_, rfl⟩
  have HL := Lib.hid hL
  rw [hL] at HS HA hlen ⊢
  obtain ⟨is, his⟩ : ∃ is, oddR ve c = is := ⟨_, rfl⟩
  rw [his] at HA ⊢
  clear hb hv h5 hL his
  go_enter Tryd.func53, Tryd.ntmps53
  go_wp2_with fail
  go_loopw [8] (fun i wr => ∃ j : Nat, j ≤ L ∧ i = .int .i64 j ∧ (∀ k, k < j → decide ((rw_ ve k).length ≠ c) = false) ∧ Touch [] w wr) (fun i _ => L + 1 - (intOf i).toNat)
  case atStart => exact ⟨0, by omega, rfl, fun k hk => by omega, Touch.refl _ _⟩
  case round =>
    obtain ⟨j, hj, rfl, hno, ht⟩ := hrel
    have HNo := Lib.hid hno
    have HT := Lib.hid ht
    clear hno
    by_cases hjn : j < L
    · have hlt : (j : Int) < (L : Int) := by omega
      have HLT := Lib.hid hjn
      obtain ⟨g, off, hg, ra, rc, hsl, xo⟩ := HS.out.at (i := j) (by rw [HL.out]; exact hjn)
      subst hg
      have x1 := xo _ ht
      obtain ⟨m, hm⟩ : ∃ m, (rw_ ve j).length = m := ⟨_, rfl⟩
      rw [hm] at x1
      have HM := Lib.hid hm
      clear xo ht hm hsl
      cases hft : decide (m ≠ c) with
      | true =>
        have HE : Hid (is = true) := Lib.hid (by rw [HA.out, List.any_eq_true]; exact ⟨j, List.mem_range.2 hjn, by rw [HM.out]; exact hft⟩)
        have HC := Lib.hid (mayf_any b cs a2 c c2 ra m rc true wr (HD.out.touch HT.out (by simp)) H5.out hft)
        clear hft
        go_wp2_with fail
        refine HC.out.mono ?_
        rintro e w3 ⟨rfl, ht⟩
        have HT := Lib.hid (HT.out.trans ht)
        clear ht x1
        go_wp2
        go_ret
        exact ⟨_, rfl, .inl ⟨HE.out, by omega⟩, HT.out⟩
      | false =>
        have HFT := Lib.hid hft
        have HC := Lib.hid (mayf_any b cs a2 c c2 ra m rc false wr (HD.out.touch HT.out (by simp)) H5.out hft)
        clear hft
        go_wp2_with fail
        refine HC.out.mono ?_
        rintro e w3 ⟨rfl, ht⟩
        have HT := Lib.hid (HT.out.trans ht)
        clear ht x1
        go_wp2
        go_roundw
        case rel =>
          refine ⟨j + 1, by omega, by go_num, fun k hk => ?_, HT.out⟩
          by_cases e : k = j
          · subst e; rw [HM.out]; exact HFT.out
          · exact HNo.out k (by omega)
        case measure => simp [intOf]; omega
    · have hlt : ¬ (j : Int) < (L : Int) := by omega
      have HE : Hid (is = false) := Lib.hid (by rw [HA.out, List.any_eq_false]; exact fun k hk => by rw [HNo.out k (by have := List.mem_range.1 hk; omega)]; exact Bool.false_ne_true)
      clear ht
      go_wp2
      go_ret
      exact ⟨_, rfl, .inr ⟨HE.out, rfl⟩, HT.out⟩
set_option maxHeartbeats 4000000 in
theorem mayc_any (b : Nat) (cs : Array Value) (a2 : Option Addr) (c c2 : Nat) (v : Value) (ve : List (List Int)) (w : World) (hb : Blk w b cs 29) (h5 : cs[5]? = some (.slice a2 c c2)) (hv : Rws w v ve) (hlen : ve.length ≤ 1000) :
    Calls Tryd.prog 47 #[v, .func (.func 48) #[] #[.pointer (some ⟨b, 0, none⟩)]] w (BoolP (oddR ve c) w) := by
  have HC := Lib.hid (mayi_any b cs a2 c c2 v ve w hb h5 hv hlen)
  obtain ⟨o, ho⟩ : ∃ o, oddR ve c = o := ⟨_, rfl⟩
  rw [ho] at HC ⊢
  obtain ⟨a, cc, rfl⟩ := hv.form
  clear hb h5 hv ho
  go_enter Tryd.func47, Tryd.ntmps47
  go_wp2_with fail
  refine HC.out.mono ?_
  rintro e w1 ⟨i, rfl, hi, ht⟩
  have HT := Lib.hid ht
  clear ht
  rcases hi with ⟨rfl, hi⟩ | ⟨rfl, rfl⟩
  · have q1 : decide (0 ≤ i) = true := dT hi
    go_wp2
    go_ret
    exact ⟨rfl, HT.out⟩
  · go_wp2
    go_ret
    exact ⟨rfl, HT.out⟩
set_option maxHeartbeats 32000000 in
set_option maxRecDepth 100000 in
theorem may_any (pv : Value) (P : Pg) (w : World) (h : PgV w pv P) : Calls Tryd.prog 34 #[pv] w (BoolP (decide (MayP P)) w) := by
  obtain ⟨n1, z1, n2, z2, n3, z3, rg, se, tt, ve, n8, z8, cl⟩ := P
  obtain ⟨v1, v2, v3, v5, v6, v7, v8, rfl, h1, h2, h3, h5, h6, h7, h8⟩ := h
  dsimp only at h1 h2 h3 h5 h6 h7 h8 ⊢
  obtain ⟨a1, c1, rfl⟩ := h1.form
  obtain ⟨a2, c2, rfl⟩ := h2.form
  obtain ⟨a3, c3, rfl⟩ := h3.form
  obtain ⟨a5, c5, rfl⟩ := h5.form
  obtain ⟨a6, c6, rfl⟩ := h6.form
  obtain ⟨a7, c7, rfl⟩ := h7.form
  obtain ⟨a8, c8, rfl⟩ := h8.form
  obtain ⟨B, hB⟩ : ∃ B, decide (MayP ⟨n1, z1, n2, z2, n3, z3, rg, se, tt, ve, n8, z8, cl⟩) = B := ⟨_, rfl⟩
  have HBF : Hid (5000 < n1 ∨ n2 < 1 ∨ 13 < n2 ∨ 16 < n3 ∨ 8 < se.length ∨ 6 < tt.length ∨ 1000 < ve.length ∨ 1000 < n8 → B = false) := Lib.hid (fun h => by rw [← hB]; exact decide_eq_false (fun hm => by obtain ⟨q1, q2, q3, q4, q5, q6, q7, q8, _⟩ := hm; dsimp only at q1 q2 q3 q4 q5 q6 q7 q8; omega))
  have HBO : Hid (n1 ≤ 5000 ∧ 1 ≤ n2 ∧ n2 ≤ 13 ∧ n3 ≤ 16 ∧ se.length ≤ 8 ∧ tt.length ≤ 6 ∧ ve.length ≤ 1000 ∧ n8 ≤ 1000 → B = !oddR ve tt.length) := Lib.hid (fun h => by rw [← hB]; exact mayP_odd _ h)
  rw [hB]
  clear hB
  have HR := Lib.hid h7
  clear h1 h2 h3 h5 h6 h7 h8
  obtain ⟨l5, hl5⟩ : ∃ l, se.length = l := ⟨_, rfl⟩
  obtain ⟨l6, hl6⟩ : ∃ l, tt.length = l := ⟨_, rfl⟩
  obtain ⟨l7, hl7⟩ : ∃ l, ve.length = l := ⟨_, rfl⟩
  rw [hl5, hl6, hl7] at HBF HBO
  rw [hl5, hl6, hl7]
  rw [hl7] at HR
  have HL7 := Lib.hid hl7
  clear hl5 hl6 hl7
  by_cases t0 : 5000 < n1
  · have d0 : decide ((5000 : Int) < (n1 : Int)) = true := dT (by omega)
    have HQ : Hid (B = false) := Lib.hid (HBF.out (by omega))
    go_enter Tryd.func34, Tryd.ntmps34
    go_wp2
    go_ret
    exact ⟨by rw [HQ.out]; rfl, (Touch.refl [] w).alloc _⟩
  have d0 : decide ((5000 : Int) < (n1 : Int)) = false := dF (by omega)
  by_cases t1 : n2 < 1
  · have d1 : decide ((n2 : Int) < 1) = true := dT (by omega)
    have HQ : Hid (B = false) := Lib.hid (HBF.out (by omega))
    go_enter Tryd.func34, Tryd.ntmps34
    go_wp2
    go_ret
    exact ⟨by rw [HQ.out]; rfl, (Touch.refl [] w).alloc _⟩
  have d1 : decide ((n2 : Int) < 1) = false := dF (by omega)
  by_cases t2 : 13 < n2
  · have d2 : decide ((13 : Int) < (n2 : Int)) = true := dT (by omega)
    have HQ : Hid (B = false) := Lib.hid (HBF.out (by omega))
    go_enter Tryd.func34, Tryd.ntmps34
    go_wp2
    go_ret
    exact ⟨by rw [HQ.out]; rfl, (Touch.refl [] w).alloc _⟩
  have d2 : decide ((13 : Int) < (n2 : Int)) = false := dF (by omega)
  by_cases t3 : 16 < n3
  · have d3 : decide ((16 : Int) < (n3 : Int)) = true := dT (by omega)
    have HQ : Hid (B = false) := Lib.hid (HBF.out (by omega))
    go_enter Tryd.func34, Tryd.ntmps34
    go_wp2
    go_ret
    exact ⟨by rw [HQ.out]; rfl, (Touch.refl [] w).alloc _⟩
  have d3 : decide ((16 : Int) < (n3 : Int)) = false := dF (by omega)
  by_cases t4 : 8 < l5
  · have d4 : decide ((8 : Int) < (l5 : Int)) = true := dT (by omega)
    have HQ : Hid (B = false) := Lib.hid (HBF.out (by omega))
    go_enter Tryd.func34, Tryd.ntmps34
    go_wp2
    go_ret
    exact ⟨by rw [HQ.out]; rfl, (Touch.refl [] w).alloc _⟩
  have d4 : decide ((8 : Int) < (l5 : Int)) = false := dF (by omega)
  by_cases t5 : 6 < l6
  · have d5 : decide ((6 : Int) < (l6 : Int)) = true := dT (by omega)
    have HQ : Hid (B = false) := Lib.hid (HBF.out (by omega))
    go_enter Tryd.func34, Tryd.ntmps34
    go_wp2
    go_ret
    exact ⟨by rw [HQ.out]; rfl, (Touch.refl [] w).alloc _⟩
  have d5 : decide ((6 : Int) < (l6 : Int)) = false := dF (by omega)
  by_cases t6 : 1000 < l7
  · have d6 : decide ((1000 : Int) < (l7 : Int)) = true := dT (by omega)
    have HQ : Hid (B = false) := Lib.hid (HBF.out (by omega))
    go_enter Tryd.func34, Tryd.ntmps34
    go_wp2
    go_ret
    exact ⟨by rw [HQ.out]; rfl, (Touch.refl [] w).alloc _⟩
  have d6 : decide ((1000 : Int) < (l7 : Int)) = false := dF (by omega)
  by_cases t7 : 1000 < n8
  · have d7 : decide ((1000 : Int) < (n8 : Int)) = true := dT (by omega)
    have HQ : Hid (B = false) := Lib.hid (HBF.out (by omega))
    go_enter Tryd.func34, Tryd.ntmps34
    go_wp2
    go_ret
    exact ⟨by rw [HQ.out]; rfl, (Touch.refl [] w).alloc _⟩
  have d7 : decide ((1000 : Int) < (n8 : Int)) = false := dF (by omega)
  have HQ : Hid (B = !oddR ve l6) := Lib.hid (HBO.out (by omega))
  have ht0 : Touch [] w (w.alloc (.cells #[.slice a1 n1 c1, .slice a2 n2 c2, .slice a3 n3 c3, .int .i64 rg, .slice a5 l5 c5, .slice a6 l6 c6, .slice a7 l7 c7, .slice a8 n8 c8, .int .i64 cl] 29)) := (Touch.refl [] w).alloc _
  have hb0 : Blk (w.alloc (.cells #[.slice a1 n1 c1, .slice a2 n2 c2, .slice a3 n3 c3, .int .i64 rg, .slice a5 l5 c5, .slice a6 l6 c6, .slice a7 l7 c7, .slice a8 n8 c8, .int .i64 cl] 29)) w.heap.size #[.slice a1 n1 c1, .slice a2 n2 c2, .slice a3 n3 c3, .int .i64 rg, .slice a5 l5 c5, .slice a6 l6 c6, .slice a7 l7 c7, .slice a8 n8 c8, .int .i64 cl] 29 := Blk.new rfl
  have HT0 := Lib.hid ht0
  have HB0 := Lib.hid hb0
  clear ht0 hb0
  have HC := Lib.hid (mayc_any w.heap.size #[.slice a1 n1 c1, .slice a2 n2 c2, .slice a3 n3 c3, .int .i64 rg, .slice a5 l5 c5, .slice a6 l6 c6, .slice a7 l7 c7, .slice a8 n8 c8, .int .i64 cl] a6 l6 c6 (.slice a7 l7 c7) ve _ HB0.out rfl (HR.out.touch HT0.out) (by rw [HL7.out]; omega))
  obtain ⟨o, ho⟩ : ∃ o, oddR ve l6 = o := ⟨_, rfl⟩
  rw [ho] at HQ HC
  clear ho
  go_enter Tryd.func34, Tryd.ntmps34
  go_wp2_with fail
  refine HC.out.mono ?_
  rintro e w1 ⟨rfl, ht1⟩
  have HT1 := Lib.hid (HT0.out.trans ht1)
  clear ht1
  go_wp2
  go_ret
  exact ⟨by rw [HQ.out]; rfl, HT1.out⟩
set_option maxHeartbeats 32000000 in
set_option maxRecDepth 100000 in
theorem rmay_any (pv : Value) (P : Pg) (w : World) (h : PgV w pv P) : Calls Tryd.prog 27 #[pv] w (BoolP (decide (MayP P)) w) := by
  obtain ⟨n1, z1, n2, z2, n3, z3, rg, se, tt, ve, n8, z8, cl⟩ := P
  obtain ⟨v1, v2, v3, v5, v6, v7, v8, rfl, h1, h2, h3, h5, h6, h7, h8⟩ := h
  dsimp only at h1 h2 h3 h5 h6 h7 h8 ⊢
  obtain ⟨a1, c1, rfl⟩ := h1.form
  obtain ⟨a2, c2, rfl⟩ := h2.form
  obtain ⟨a3, c3, rfl⟩ := h3.form
  obtain ⟨a5, c5, rfl⟩ := h5.form
  obtain ⟨a6, c6, rfl⟩ := h6.form
  obtain ⟨a7, c7, rfl⟩ := h7.form
  obtain ⟨a8, c8, rfl⟩ := h8.form
  obtain ⟨B, hB⟩ : ∃ B, decide (MayP ⟨n1, z1, n2, z2, n3, z3, rg, se, tt, ve, n8, z8, cl⟩) = B := ⟨_, rfl⟩
  have HBF : Hid (5000 < n1 ∨ n2 < 1 ∨ 13 < n2 ∨ 16 < n3 ∨ 8 < se.length ∨ 6 < tt.length ∨ 1000 < ve.length ∨ 1000 < n8 → B = false) := Lib.hid (fun h => by rw [← hB]; exact decide_eq_false (fun hm => by obtain ⟨q1, q2, q3, q4, q5, q6, q7, q8, _⟩ := hm; dsimp only at q1 q2 q3 q4 q5 q6 q7 q8; omega))
  have HBO : Hid (n1 ≤ 5000 ∧ 1 ≤ n2 ∧ n2 ≤ 13 ∧ n3 ≤ 16 ∧ se.length ≤ 8 ∧ tt.length ≤ 6 ∧ ve.length ≤ 1000 ∧ n8 ≤ 1000 → B = !oddR ve tt.length) := Lib.hid (fun h => by rw [← hB]; exact mayP_odd _ h)
  rw [hB]
  clear hB
  have HR := Lib.hid h7
  clear h1 h2 h3 h5 h6 h7 h8
  obtain ⟨l5, hl5⟩ : ∃ l, se.length = l := ⟨_, rfl⟩
  obtain ⟨l6, hl6⟩ : ∃ l, tt.length = l := ⟨_, rfl⟩
  obtain ⟨l7, hl7⟩ : ∃ l, ve.length = l := ⟨_, rfl⟩
  rw [hl5, hl6, hl7] at HBF HBO
  rw [hl5, hl6, hl7]
  rw [hl7] at HR
  have HL7 := Lib.hid hl7
  clear hl5 hl6 hl7
  by_cases t0 : 5000 < n1
  · have d0 : decide ((5000 : Int) < (n1 : Int)) = true := dT (by omega)
    have HQ : Hid (B = false) := Lib.hid (HBF.out (by omega))
    go_enter Tryd.func27, Tryd.ntmps27
    go_wp2
    go_ret
    exact ⟨by rw [HQ.out]; rfl, (Touch.refl [] w).alloc _⟩
  have d0 : decide ((5000 : Int) < (n1 : Int)) = false := dF (by omega)
  by_cases t1 : n2 < 1
  · have d1 : decide ((n2 : Int) < 1) = true := dT (by omega)
    have HQ : Hid (B = false) := Lib.hid (HBF.out (by omega))
    go_enter Tryd.func27, Tryd.ntmps27
    go_wp2
    go_ret
    exact ⟨by rw [HQ.out]; rfl, (Touch.refl [] w).alloc _⟩
  have d1 : decide ((n2 : Int) < 1) = false := dF (by omega)
  by_cases t2 : 13 < n2
  · have d2 : decide ((13 : Int) < (n2 : Int)) = true := dT (by omega)
    have HQ : Hid (B = false) := Lib.hid (HBF.out (by omega))
    go_enter Tryd.func27, Tryd.ntmps27
    go_wp2
    go_ret
    exact ⟨by rw [HQ.out]; rfl, (Touch.refl [] w).alloc _⟩
  have d2 : decide ((13 : Int) < (n2 : Int)) = false := dF (by omega)
  by_cases t3 : 16 < n3
  · have d3 : decide ((16 : Int) < (n3 : Int)) = true := dT (by omega)
    have HQ : Hid (B = false) := Lib.hid (HBF.out (by omega))
    go_enter Tryd.func27, Tryd.ntmps27
    go_wp2
    go_ret
    exact ⟨by rw [HQ.out]; rfl, (Touch.refl [] w).alloc _⟩
  have d3 : decide ((16 : Int) < (n3 : Int)) = false := dF (by omega)
  by_cases t4 : 8 < l5
  · have d4 : decide ((8 : Int) < (l5 : Int)) = true := dT (by omega)
    have HQ : Hid (B = false) := Lib.hid (HBF.out (by omega))
    go_enter Tryd.func27, Tryd.ntmps27
    go_wp2
    go_ret
    exact ⟨by rw [HQ.out]; rfl, (Touch.refl [] w).alloc _⟩
  have d4 : decide ((8 : Int) < (l5 : Int)) = false := dF (by omega)
  by_cases t5 : 6 < l6
  · have d5 : decide ((6 : Int) < (l6 : Int)) = true := dT (by omega)
    have HQ : Hid (B = false) := Lib.hid (HBF.out (by omega))
    go_enter Tryd.func27, Tryd.ntmps27
    go_wp2
    go_ret
    exact ⟨by rw [HQ.out]; rfl, (Touch.refl [] w).alloc _⟩
  have d5 : decide ((6 : Int) < (l6 : Int)) = false := dF (by omega)
  by_cases t6 : 1000 < l7
  · have d6 : decide ((1000 : Int) < (l7 : Int)) = true := dT (by omega)
    have HQ : Hid (B = false) := Lib.hid (HBF.out (by omega))
    go_enter Tryd.func27, Tryd.ntmps27
    go_wp2
    go_ret
    exact ⟨by rw [HQ.out]; rfl, (Touch.refl [] w).alloc _⟩
  have d6 : decide ((1000 : Int) < (l7 : Int)) = false := dF (by omega)
  by_cases t7 : 1000 < n8
  · have d7 : decide ((1000 : Int) < (n8 : Int)) = true := dT (by omega)
    have HQ : Hid (B = false) := Lib.hid (HBF.out (by omega))
    go_enter Tryd.func27, Tryd.ntmps27
    go_wp2
    go_ret
    exact ⟨by rw [HQ.out]; rfl, (Touch.refl [] w).alloc _⟩
  have d7 : decide ((1000 : Int) < (n8 : Int)) = false := dF (by omega)
  have HQ : Hid (B = !oddR ve l6) := Lib.hid (HBO.out (by omega))
  have ht0 : Touch [] w (w.alloc (.cells #[.slice a1 n1 c1, .slice a2 n2 c2, .slice a3 n3 c3, .int .i64 rg, .slice a5 l5 c5, .slice a6 l6 c6, .slice a7 l7 c7, .slice a8 n8 c8, .int .i64 cl] 29)) := (Touch.refl [] w).alloc _
  have hb0 : Blk (w.alloc (.cells #[.slice a1 n1 c1, .slice a2 n2 c2, .slice a3 n3 c3, .int .i64 rg, .slice a5 l5 c5, .slice a6 l6 c6, .slice a7 l7 c7, .slice a8 n8 c8, .int .i64 cl] 29)) w.heap.size #[.slice a1 n1 c1, .slice a2 n2 c2, .slice a3 n3 c3, .int .i64 rg, .slice a5 l5 c5, .slice a6 l6 c6, .slice a7 l7 c7, .slice a8 n8 c8, .int .i64 cl] 29 := Blk.new rfl
  have HT0 := Lib.hid ht0
  have HB0 := Lib.hid hb0
  clear ht0 hb0
  have HA : Hid (oddR ve l6 = (List.range l7).any fun i => decide ((rw_ ve i).length ≠ l6)) := Lib.hid (by rw [oddR_range, HL7.out])
  go_enter Tryd.func27, Tryd.ntmps27
  go_wp2
  go_loopw [3] (fun kv wr => ∃ k : Nat, k ≤ l7 ∧ kv = .int .i64 (k : Int) ∧ Touch [] (w.alloc (.cells #[.slice a1 n1 c1, .slice a2 n2 c2, .slice a3 n3 c3, .int .i64 rg, .slice a5 l5 c5, .slice a6 l6 c6, .slice a7 l7 c7, .slice a8 n8 c8, .int .i64 cl] 29)) wr ∧ ∀ i, i < k → decide ((rw_ ve i).length ≠ l6) = false) (fun kv _ => l7 + 1 - (intOf kv).toNat)
  case atStart => exact ⟨0, by omega, rfl, Touch.refl _ _, fun i hi => by omega⟩
  case round =>
    obtain ⟨k, hk, rfl, ht, hno⟩ := hrel
    have HT := Lib.hid ht
    have HNo := Lib.hid hno
    have hbx : ∀ q : Later wr, Blk q.world w.heap.size #[.slice a1 n1 c1, .slice a2 n2 c2, .slice a3 n3 c3, .int .i64 rg, .slice a5 l5 c5, .slice a6 l6 c6, .slice a7 l7 c7, .slice a8 n8 c8, .int .i64 cl] 29 := fun q => HB0.out.touch (HT.out.trans q.ok) (by simp)
    have b6 : ∀ q : Later wr, q.world.cell? ⟨w.heap.size, 6, none⟩ = some (.slice a7 l7 c7) := fun q => (hbx q).cell (i := 6) rfl
    have b5 : ∀ q : Later wr, q.world.cell? ⟨w.heap.size, 5, none⟩ = some (.slice a6 l6 c6) := fun q => (hbx q).cell (i := 5) rfl
    have e6 : wr.cell? ⟨w.heap.size, 6, none⟩ = some (.slice a7 l7 c7) := b6 ⟨wr, Touch.refl _ _⟩
    clear ht hno hbx
    by_cases hlt : k < l7
    · obtain ⟨g, off, hga, ra, rc, hsl, hc⟩ := (HR.out.touch HT0.out).at (i := k) (by rw [HL7.out]; exact hlt)
      subst hga
      obtain ⟨m, hm⟩ : ∃ m, (rw_ ve k).length = m := ⟨_, rfl⟩
      rw [hm] at hc
      have HM := Lib.hid hm
      have HC := Lib.hid hc
      have x0 : ∀ q : Later wr, q.world.cell? ⟨g, off + k, none⟩ = some (.slice ra m rc) := fun q => HC.out _ (HT.out.trans q.ok)
      clear hc hm hsl
      by_cases hme : m = l6
      · have hd : ((m : Int) != (l6 : Int)) = false := bneF (by omega)
        have HNE : Hid (decide (m ≠ l6) = false) := Lib.hid (by simp [hme])
        clear hme
        go_wp2_with fail
        refine wp_region_later (by kernel_rfl) (by kernel_rfl) ?_
        repeat (first
          | (go_big_quiet_step ((with_reducible rfl)))
          | (quiet_step (fail)))
        refine wpQuiet_nil ?_
        intro wq hw'
        obtain ⟨⟨wq', hwq⟩, hwe⟩ := hw'
        have hwe : wq = wq' := hwe
        subst hwe
        have HTn := Lib.hid (HT.out.trans hwq)
        clear hwe hwq x0 b5 b6 e6
        go_wp2
        go_roundw
        case rel =>
          refine ⟨k + 1, by omega, by go_num, HTn.out, fun i hi => ?_⟩
          by_cases e : i = k
          · subst e; rw [HM.out]; exact HNE.out
          · exact HNo.out i (by omega)
        case measure => simp [intOf]; omega
      · have hd : ((m : Int) != (l6 : Int)) = true := bneT (by omega)
        have HE : Hid (B = false) := Lib.hid (by rw [HQ.out, HA.out, show ((List.range l7).any fun i => decide ((rw_ ve i).length ≠ l6)) = true from List.any_eq_true.2 ⟨k, List.mem_range.2 hlt, by rw [HM.out]; exact decide_eq_true hme⟩]; rfl)
        clear hme
        go_wp2_with fail
        refine wp_region_later (by kernel_rfl) (by kernel_rfl) ?_
        repeat (first
          | (go_big_quiet_step ((with_reducible rfl)))
          | (quiet_step (fail)))
        refine wpQuiet_nil ?_
        intro wq hw'
        obtain ⟨⟨wq', hwq⟩, hwe⟩ := hw'
        have hwe : wq = wq' := hwe
        subst hwe
        have HTn := Lib.hid (HT0.out.trans (HT.out.trans hwq))
        clear hwe hwq x0 b5 b6 e6
        go_wp2
        go_ret
        exact ⟨by rw [HE.out]; rfl, HTn.out⟩
    · obtain rfl : l7 = k := by omega
      have HE : Hid (B = true) := Lib.hid (by rw [HQ.out, HA.out, show ((List.range l7).any fun i => decide ((rw_ ve i).length ≠ l6)) = false from List.any_eq_false.2 (fun i hi => by rw [HNo.out i (List.mem_range.1 hi)]; exact Bool.false_ne_true)]; rfl)
      have HTn := Lib.hid (HT0.out.trans HT.out)
      clear b5 b6
      go_wp2
      go_ret
      exact ⟨by rw [HE.out]; rfl, HTn.out⟩
set_option maxHeartbeats 32000000 in
set_option maxRecDepth 100000 in
theorem small_any (pv : Value) (P : Pg) (most : Int) (w : World) (h : PgV w pv P) (hlen : P.ve.length ≤ 9223372036854775807) : Calls Tryd.prog 5 #[pv, .int .i64 most] w (AnyB w) := by
  obtain ⟨n1, z1, n2, z2, n3, z3, rg, se, tt, ve, n8, z8, cl⟩ := P
  obtain ⟨v1, v2, v3, v5, v6, v7, v8, rfl, h1, h2, h3, h5, h6, h7, h8⟩ := h
  dsimp only at h1 h2 h3 h5 h6 h7 h8 ⊢
  obtain ⟨a1, c1, rfl⟩ := h1.form
  obtain ⟨a2, c2, rfl⟩ := h2.form
  obtain ⟨a3, c3, rfl⟩ := h3.form
  obtain ⟨a5, c5, rfl⟩ := h5.form
  obtain ⟨a6, c6, rfl⟩ := h6.form
  obtain ⟨a7, c7, rfl⟩ := h7.form
  obtain ⟨a8, c8, rfl⟩ := h8.form
  have HR := Lib.hid h7
  clear h1 h2 h3 h5 h6 h7 h8
  obtain ⟨l5, hl5⟩ : ∃ l, se.length = l := ⟨_, rfl⟩
  obtain ⟨l6, hl6⟩ : ∃ l, tt.length = l := ⟨_, rfl⟩
  obtain ⟨l7, hl7⟩ : ∃ l, ve.length = l := ⟨_, rfl⟩
  dsimp only at hlen
  rw [hl7] at hlen
  rw [hl5, hl6, hl7]
  rw [hl7] at HR
  have HL7 := Lib.hid hl7
  clear hl5 hl6 hl7
  obtain ⟨N1, hN1⟩ : ∃ n, IntKind.i64.wrap ((n1 : Int) + (n2 : Int)) = n := ⟨_, rfl⟩
  obtain ⟨N2, hN2⟩ : ∃ n, IntKind.i64.wrap (N1 + (n3 : Int)) = n := ⟨_, rfl⟩
  obtain ⟨N3, hN3⟩ : ∃ n, IntKind.i64.wrap (N2 + (l5 : Int)) = n := ⟨_, rfl⟩
  obtain ⟨N4, hN4⟩ : ∃ n, IntKind.i64.wrap (N3 + (l6 : Int)) = n := ⟨_, rfl⟩
  obtain ⟨N5, hN5⟩ : ∃ n, IntKind.i64.wrap (N4 + (l7 : Int)) = n := ⟨_, rfl⟩
  obtain ⟨N6, hN6⟩ : ∃ n, IntKind.i64.wrap (N5 + (n8 : Int)) = n := ⟨_, rfl⟩
  have ht0 : Touch [] w (w.alloc (.cells #[.slice a1 n1 c1, .slice a2 n2 c2, .slice a3 n3 c3, .int .i64 rg, .slice a5 l5 c5, .slice a6 l6 c6, .slice a7 l7 c7, .slice a8 n8 c8, .int .i64 cl] 29)) := (Touch.refl [] w).alloc _
  have hb0 : Blk (w.alloc (.cells #[.slice a1 n1 c1, .slice a2 n2 c2, .slice a3 n3 c3, .int .i64 rg, .slice a5 l5 c5, .slice a6 l6 c6, .slice a7 l7 c7, .slice a8 n8 c8, .int .i64 cl] 29)) w.heap.size #[.slice a1 n1 c1, .slice a2 n2 c2, .slice a3 n3 c3, .int .i64 rg, .slice a5 l5 c5, .slice a6 l6 c6, .slice a7 l7 c7, .slice a8 n8 c8, .int .i64 cl] 29 := Blk.new rfl
  have HT0 := Lib.hid ht0
  have HB0 := Lib.hid hb0
  clear ht0 hb0
  by_cases hgt : most < N6
  · have d : decide (most < N6) = true := dT hgt
    go_enter Tryd.func5, Tryd.ntmps5
    go_wp2
    go_ret
    exact ⟨_, rfl, HT0.out⟩
  · have d : decide (most < N6) = false := dF hgt
    go_enter Tryd.func5, Tryd.ntmps5
    go_wp2
    clear hgt d hN1 hN2 hN3 hN4 hN5 hN6
    go_loopw [5, 6] (fun nv kv wr => ∃ (N : Int) (k : Nat), k ≤ l7 ∧ nv = .int .i64 N ∧ kv = .int .i64 (k : Int) ∧ Touch [] (w.alloc (.cells #[.slice a1 n1 c1, .slice a2 n2 c2, .slice a3 n3 c3, .int .i64 rg, .slice a5 l5 c5, .slice a6 l6 c6, .slice a7 l7 c7, .slice a8 n8 c8, .int .i64 cl] 29)) wr) (fun _ kv _ => l7 + 1 - (intOf kv).toNat)
    case atStart => exact ⟨_, 0, by omega, rfl, rfl, Touch.refl _ _⟩
    case round =>
      obtain ⟨N, k, hk, rfl, rfl, ht⟩ := hrel
      have HT := Lib.hid ht
      have hbx : Blk wr w.heap.size #[.slice a1 n1 c1, .slice a2 n2 c2, .slice a3 n3 c3, .int .i64 rg, .slice a5 l5 c5, .slice a6 l6 c6, .slice a7 l7 c7, .slice a8 n8 c8, .int .i64 cl] 29 := HB0.out.touch ht (by simp)
      have e6 : wr.cell? ⟨w.heap.size, 6, none⟩ = some (.slice a7 l7 c7) := hbx.cell (i := 6) rfl
      clear ht hbx
      by_cases hlt : k < l7
      · have HLT := Lib.hid hlt
        obtain ⟨g, off, hga, ra, rc, hsl, hc⟩ := (HR.out.touch HT0.out).at (i := k) (by rw [HL7.out]; exact hlt)
        subst hga
        obtain ⟨m, hm⟩ : ∃ m, (rw_ ve k).length = m := ⟨_, rfl⟩
        rw [hm] at hc
        have x0 := hc wr HT.out
        clear hc hm hsl
        obtain ⟨M, hM⟩ : ∃ M, IntKind.i64.wrap (N + (m : Int)) = M := ⟨_, rfl⟩
        by_cases hgt : most < M
        · have d : decide (most < M) = true := dT hgt
          go_wp2
          go_ret
          exact ⟨_, rfl, HT0.out.trans HT.out⟩
        · have d : decide (most < M) = false := dF hgt
          go_wp2
          go_roundw
          case rel => exact ⟨_, k + 1, by omega, by first | rfl | rw [hM], by go_num, HT.out⟩
          case measure => simp [intOf]; omega
      · go_wp2
        go_ret
        exact ⟨_, rfl, HT0.out.trans HT.out⟩
end Go.Proofs.YtckppinobkkegaaDoor
