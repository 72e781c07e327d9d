/-
  One instruction of a program that may be run, both sides: they do the same.
  Both tasks are the same.
  The program's Check and Depths.
  The reference's End, Takes and next.
  The reference's Is and reach.
  How many words the variables take.
  Both tasks, one instruction.
  Both tasks, from their making on, one instruction.
  Layer 19: the law's own awakening.
-/
import Derived.RegionTactic
import Derived.Deep.RegionHeld3
import Derived.LaidEqlPtr
import Derived.Test.YtjfnoondkgjabaaGreatDoorYAH
set_option linter.unusedVariables false
set_option linter.unusedSimpArgs false
set_option maxRecDepth 100000
namespace Go.Proofs.YtjfnoondkgjabaaGreatDoor
open Go.RowKit Go.BigFrame

section
variable {w0 : World} {P : Pg} {p : PV} {b k G sb g N n sz u t rs rg : Nat} {B : List Nat} {base i kk : Nat} {v : Nat → Int} {F : Frm} {r : List Frm}
theorem tk_pop {o : Nat} (h : P.op i = (o : Int)) (h1 : o ≠ 26) (h2 : o ≠ 28) : tkP P i = popZ (o : Int) := by
  unfold tkP
  rw [if_neg (by omega), if_neg (by omega), h]
set_option maxHeartbeats 4000000 in
theorem step_both (hm : Me w0 P p) (ht : TabOk P) (hk : kk < P.n2) (hi : InsAll P kk) (h1 : fromP P kk ≤ i) (h2 : i < toP P kk) (hop : tkP P i ≤ F.ops.length) (hI : ∀ x ∈ F.ops, InI x)
    (hloc : (F.loc.length : Int) = P.z2 kk 2) (hr : r ≠ []) (hv : ∀ j, j < P.n3 → P.z3 j 0 + max (P.z3 j 1) 1 ≤ (n : Int)) (hnn : n ≤ 8192) : Both w0 p b k G sb g N n sz u t rs rg B base i v (F :: r) := by
  have hfl := from_lt ht hk
  have hmay : MayP P := ht 0 (by omega)
  have hn1 : p.n1 ≤ 1000000 := by rw [hm.n1]; have := hmay.1; omega
  have hn2 : p.n2 ≤ 1000000 := by rw [hm.n2]; have := hmay.2.2.1; omega
  have hn3 : p.n3 ≤ 1000000 := by rw [hm.n3]; have := hmay.2.2.2.1; omega
  have hin : i < p.n1 := by rw [hm.n1]; omega
  obtain ⟨hf, hgo⟩ := insC_zero (hi i h1 h2)
  have hz : 1 ≤ P.op i ∧ P.op i < 39 := by have := hf.is_; unfold isZ at this; exact of_decide_eq_true this
  obtain ⟨o, ho⟩ : ∃ o : Nat, P.op i = o := ⟨(P.op i).toNat, by omega⟩
  obtain ⟨g1, o1, ha1, hc⟩ := hm.h1.at3 hin
  have ho' : P.z1 i 0 = (o : Int) := ho
  rw [ho'] at hc
  have hA : At w0 p i o (P.z1 i 1) (P.z1 i 2) g1 o1 := ⟨hin, hn1, ha1, hc⟩
  have hlim := hf.lim
  rw [ho] at hz hlim
  -- a variable's words
  have hvar : ∀ a : Int, 0 ≤ a → a < P.n3 → ∃ j g3 o3 q z : Nat, a = (j : Int) ∧ j < p.n3 ∧ p.a3 = some ⟨g3, o3, none⟩ ∧ (∀ w', Touch [] w0 w' → w'.cell? ⟨g3, o3 + j * 2, none⟩ = some (.int .i64 (q : Int)) ∧ w'.cell? ⟨g3, o3 + j * 2 + 1, none⟩ = some (.int .i64 (z : Int))) ∧ q < n ∧ q + z ≤ n := fun a h0 hl => by
    obtain ⟨j, rfl⟩ : ∃ j : Nat, a = j := ⟨a.toNat, by omega⟩
    have hj : j < P.n3 := by omega
    obtain ⟨g3, o3, e3, hx⟩ := hm.h3.at2 (i := j) (by rw [hm.n3]; exact hj)
    have hco : CellOk P j := ht 2 (by omega) j hj
    have c1 := hco.s0
    have c2 := hco.b0
    have c3 := hv j hj
    refine ⟨j, g3, o3, (P.z3 j 0).toNat, (P.z3 j 1).toNat, rfl, by rw [hm.n3]; exact hj, e3, fun w' t => ?_, by omega, by omega⟩
    rw [Int.toNat_of_nonneg c2, Int.toNat_of_nonneg c1]
    exact hx w' t
  have hcase : o = 1 ∨ o = 2 ∨ o = 3 ∨ o = 4 ∨ o = 5 ∨ o = 6 ∨ o = 7 ∨ o = 8 ∨ (9 ≤ o ∧ o ≤ 22 ∧ o ≠ 14) ∨ o = 14 ∨ o = 23 ∨ o = 24 ∨ o = 25 ∨ o = 26 ∨ o = 27 ∨ 28 ≤ o := by omega
  rcases hcase with rfl | rfl | rfl | rfl | rfl | rfl | rfl | rfl | hb | rfl | rfl | rfl | rfl | rfl | rfl | hb
  · exact s_nop hA
  · exact s_push hA
  · obtain ⟨l1, l2⟩ := hlim (by simp [limN] <;> omega)
    obtain ⟨j, g3, o3, q, z, e1, e2, e3, e4, e5, e6⟩ := hvar (P.a i) l1 (by simpa [limN] using l2)
    exact s_load e1 e2 hn3 e3 q z e4 e5 hA
  · obtain ⟨l1, l2⟩ := hlim (by simp [limN] <;> omega)
    obtain ⟨j, g3, o3, q, z, e1, e2, e3, e4, e5, e6⟩ := hvar (P.a i) l1 (by simpa [limN] using l2)
    rw [tk_pop ho (by omega) (by omega), show popZ ((4 : Nat) : Int) = 1 from by decide] at hop
    exact s_store e1 e2 hn3 e3 q z e4 e5 (by omega) hA
  · obtain ⟨l1, l2⟩ := hlim (by simp [limN] <;> omega)
    obtain ⟨j, g3, o3, q, z, e1, e2, e3, e4, e5, e6⟩ := hvar (P.a i) l1 (by simpa [limN] using l2)
    rw [tk_pop ho (by omega) (by omega), show popZ ((5 : Nat) : Int) = 1 from by decide] at hop
    exact s_loadat e1 e2 hn3 e3 q z e4 e6 hnn (by omega) hA
  · obtain ⟨l1, l2⟩ := hlim (by simp [limN] <;> omega)
    obtain ⟨j, g3, o3, q, z, e1, e2, e3, e4, e5, e6⟩ := hvar (P.a i) l1 (by simpa [limN] using l2)
    rw [tk_pop ho (by omega) (by omega), show popZ ((6 : Nat) : Int) = 2 from by decide] at hop
    exact s_storeat e1 e2 hn3 e3 q z e4 e6 hnn (by omega) hA
  · obtain ⟨l1, l2⟩ := hlim (by simp [limN] <;> omega)
    exact s_local hr l1 (by rw [hloc]; simpa [limN] using l2) hA
  · obtain ⟨l1, l2⟩ := hlim (by simp [limN] <;> omega)
    rw [tk_pop ho (by omega) (by omega), show popZ ((8 : Nat) : Int) = 1 from by decide] at hop
    exact s_setlocal hr l1 (by rw [hloc]; simpa [limN] using l2) (by omega) hA
  · rw [tk_pop ho (by omega) (by omega), pop_two hb.1 hb.2.1 hb.2.2] at hop
    exact s_bin hb (by omega) hI hA
  · rw [tk_pop ho (by omega) (by omega), show popZ ((14 : Nat) : Int) = 1 from by decide] at hop
    exact s_neg (by omega) hI hA
  · rw [tk_pop ho (by omega) (by omega), show popZ ((23 : Nat) : Int) = 1 from by decide] at hop
    exact s_not (by omega) hI hA
  · exact s_jump hA
  · rw [tk_pop ho (by omega) (by omega), show popZ ((25 : Nat) : Int) = 1 from by decide] at hop
    exact s_jz (by omega) hA
  · obtain ⟨l1, l2⟩ := hlim (by simp [limN] <;> omega)
    obtain ⟨j, hj⟩ : ∃ j : Nat, P.a i = j := ⟨(P.a i).toNat, by omega⟩
    have hj2 : j < P.n2 := by simp [limN] at l2; omega
    obtain ⟨g2, o2, e2, hx⟩ := hm.h2.at3 (i := j) (by rw [hm.n2]; exact hj2)
    have he : EntOk P j := ht 1 (by omega) j hj2
    exact s_call hj (by rw [hm.n2]; exact hj2) hn2 e2 hx (by have := he.l1; omega) hA
  · by_cases hl : r.length < 2
    · exact s_last hl hA
    · exact s_ret (by omega) hA
  · exact s_kern ⟨hb, by omega⟩ hA
end
end Go.Proofs.YtjfnoondkgjabaaGreatDoor

set_option linter.unusedVariables false
set_option maxRecDepth 100000
namespace Go.Proofs.YtjfnoondkgjabaaGreatDoor
open Go.RowKit Go.BigFrame

section
variable (b k G u sb g N at' sz base t : Nat) (C : List Nat) (f : Nat → Int) (F : Frm) (r : List Frm) (x : Int) (w : World)
set_option maxHeartbeats 32000000 in
theorem same19 (hs : sz ≤ 300) (htk : Tk w b k G x) (hu : Blk w u #[.int .i64 x, .pointer (some ⟨t, 0, none⟩), .int .i64 0] 77) (h1 : KsF w k sb g f N at' sz (F :: r)) (h2 : Rs w C base t sz (F :: r)) :
    Calls Tryz.prog 36 #[.pointer (some ⟨b, 0, none⟩), .pointer (some ⟨u, 0, none⟩)] w fun e w' => e = .returned (.bool true) ∧ Touch [] w w' := by
  obtain ⟨v, ps, h2⟩ := h2
  have HK := Lib.hid h1
  have HR := Lib.hid h2
  have HTK := Lib.hid htk
  have HU := Lib.hid hu
  have HM : Hid (F.loc.length ≤ 9000 ∧ topS (F :: r) ≤ 9000 ∧ r.length ≤ 9000 ∧ F.ops.length ≤ 9000) := Lib.hid (by have := h1.loc; have := topS_ops F r; omega)
  obtain ⟨T, hT⟩ : ∃ T, topS (F :: r) = T := ⟨_, rfl⟩
  obtain ⟨n, hn⟩ : ∃ n, r.length = n := ⟨_, rfl⟩
  obtain ⟨m, hm⟩ : ∃ m, F.ops.length = m := ⟨_, rfl⟩
  have hm9 : m ≤ 9000 := by have := HM.out; omega
  have HTT := Lib.hid hT
  have HN := Lib.hid hn
  have HO := Lib.hid hm
  have u0 := fun q : Later w => (hu.touch q.ok (by simp)).cell (i := 0) rfl
  have u1 := fun q : Later w => (hu.touch q.ok (by simp)).cell (i := 1) rfl
  have s1 : (x != x) = false := bneF rfl
  have s2 : ((T : Int) != (T : Int)) = false := bneF rfl
  have s3 : ((n : Int) != (n : Int)) = false := bneF rfl
  have s4 : ((m : Int) != (m : Int)) = false := bneF rfl
  clear h1 h2 hs hT hn hm htk hu
  go_enter Tryz.func36, Tryz.ntmps36
  go_wp2_with fail
  refine (stack_any b k G x _ HTK.out).mono ?_
  rintro e v1 ⟨rfl, rfl⟩
  go_wp2_with fail
  refine wp_region_later (by kernel_rfl) (by kernel_rfl) ?_
  repeat (first
    | (go_big_quiet_step ((first | (with_reducible rfl) | exact Later.same (at_any b k G x _ (HTK.out.touch (Later.ok _) (by simp) (by simp))) | exact Later.same (len1 k sb g N at' sz f F r _ T (HK.out.still (Later.ok _)) HTT.out) | exact Later.met (len2 sz base t C F r _ v ps T (HR.out.still (Later.ok _)) ⟨HM.out.2.1, HM.out.2.2.1⟩ HTT.out) | exact Later.same (frames1 k sb g N at' sz f F r _ n (HK.out.still (Later.ok _)) HN.out) | exact Later.met (frames2 sz base t C F r _ v ps n (HR.out.still (Later.ok _)) HM.out.2.2.1 HN.out) | exact Later.met (operands1 k sb g N at' sz f F r _ m (HK.out.still (Later.ok _)) HO.out) | exact Later.met (operands2 sz base t C F r _ v ps m (HR.out.still (Later.ok _)) HM.out.2.2.1 HO.out))))
    | (quiet_step (fail)))
  refine wpQuiet_nil ?_
  intro wq hw'
  obtain ⟨⟨wq', hwq⟩, hwe⟩ := hw'
  have hwe : wq = wq' := hwe
  subst hwe
  have HA := Lib.hid hwq
  clear hwe hwq u0 u1
  go_wp2
  go_loopw [6, 7, 8, 9, 10] (fun i _ _ _ _ wr => ∃ j : Nat, j ≤ m ∧ i = .int .i64 j ∧ Hid (Touch [] w wr)) (fun i _ _ _ _ _ => m - (intOf i).toNat)
  case atStart => exact ⟨0, by omega, rfl, HA⟩
  case round =>
    clear HA
    obtain ⟨j, hj, rfl, HA⟩ := hrel
    have u1 := (HU.out.touch HA.out (by simp)).cell (i := 1) rfl
    go_wp2_with fail
    refine (operands2 sz base t C F r _ v ps m (HR.out.still HA.out) HM.out.2.2.1 HO.out).mono ?_
    rintro e v7 ⟨rfl, ht⟩
    have HA := Lib.hid (HA.out.trans ht)
    clear ht u1
    by_cases hjm : j < m
    · obtain ⟨ra, hra⟩ : ∃ v, (topM j (F :: r)).1 = v := ⟨_, rfl⟩
      obtain ⟨rb, hrb⟩ : ∃ v, (topM j (F :: r)).2 = v := ⟨_, rfl⟩
      have HRA := Lib.hid hra
      have HRB := Lib.hid hrb
      clear hra hrb
      have q1 : (ra != ra) = false := bneF rfl
      have q2 : decide ((j : Int) < (m : Int)) = true := dT (by omega)
      go_wp2_with fail
      refine (top1 k sb g N at' sz f F r _ j ra rb (HK.out.still HA.out) HRA.out HRB.out).mono ?_
      rintro e v8 ⟨rfl, ht⟩
      have HA := Lib.hid (HA.out.trans ht)
      clear ht
      have u1 := (HU.out.touch HA.out (by simp)).cell (i := 1) rfl
      go_wp2_with fail
      refine (top2 sz base t C F r _ v ps j ra rb ⟨HM.out.2.2.2, HM.out.2.2.1⟩ (HR.out.still HA.out) HRA.out HRB.out).mono ?_
      rintro e v9 ⟨rfl, ht⟩
      have HA := Lib.hid (HA.out.trans ht)
      clear ht u1
      go_wp2
      go_roundw
      case rel => exact ⟨j + 1, by omega, by go_num, HA⟩
      case measure => simp [intOf]; omega
    · have q2 : decide ((j : Int) < (m : Int)) = false := dF (by omega)
      go_wp2
      go_loopw [11, 12, 13, 14, 15] (fun i _ _ _ _ wr => ∃ j : Nat, j ≤ 8 ∧ i = .int .i64 j ∧ Hid (Touch [] w wr)) (fun i _ _ _ _ _ => 8 - (intOf i).toNat)
      case atStart => exact ⟨0, by omega, rfl, HA⟩
      case round =>
        clear HA hj hjm q2
        obtain ⟨j, hj, rfl, HA⟩ := hrel
        by_cases hjm : j < 8
        · obtain ⟨ra, hra⟩ : ∃ v, (locM j (F :: r)).1 = v := ⟨_, rfl⟩
          obtain ⟨rb, hrb⟩ : ∃ v, (locM j (F :: r)).2 = v := ⟨_, rfl⟩
          have HRA := Lib.hid hra
          have HRB := Lib.hid hrb
          clear hra hrb
          have q1 : (ra != ra) = false := bneF rfl
          have q2 : (rb != rb) = false := by cases rb <;> rfl
          have q3 : decide ((j : Int) < 8) = true := dT (by omega)
          go_wp2_with fail
          refine (loc1 k sb g N at' sz f F r _ j ra rb (HK.out.still HA.out) HRA.out HRB.out).mono ?_
          rintro e v8 ⟨rfl, ht⟩
          have HA := Lib.hid (HA.out.trans ht)
          clear ht
          have u1 := (HU.out.touch HA.out (by simp)).cell (i := 1) rfl
          go_wp2_with fail
          refine (loc2 sz base t C F r _ v ps j ra rb ⟨HM.out.1, HM.out.2.2.1⟩ (HR.out.still HA.out) HRA.out HRB.out).mono ?_
          rintro e v9 ⟨rfl, ht⟩
          have HA := Lib.hid (HA.out.trans ht)
          clear ht u1
          go_wp2
          go_roundw
          case rel => exact ⟨j + 1, by omega, by go_num, HA⟩
          case measure => simp [intOf]; omega
        · have q3 : decide ((j : Int) < 8) = false := dF (by omega)
          go_wp2
          go_ret
          exact ⟨rfl, HA.out⟩
end
end Go.Proofs.YtjfnoondkgjabaaGreatDoor

set_option linter.unusedVariables false
namespace Go.Proofs.YtjfnoondkgjabaaGreatDoor
open Go Go.RowKit

def CheckP (P : Pg) (w : World) (e : Ending) (w' : World) : Prop := ∃ t c : Int, e = .returned (.tuple #[.int .i64 t, .int .i64 c]) ∧ CheckR P t c ∧ Touch [] w w'
end Go.Proofs.YtjfnoondkgjabaaGreatDoor

set_option linter.unusedVariables false
namespace Go.Proofs.YtjfnoondkgjabaaGreatDoor
open Go Go.RowKit

set_option maxHeartbeats 8000000 in
theorem rend_any (pv : Value) (P : Pg) (k : Nat) (w : World) (h : PgV w pv P) (ht : TabOk P) (hk : k < P.n2) : Calls Tryz.prog 21 #[pv, .int .i64 (k : Int)] w (IntQ (toP P k : Int) w) := by
  have hm : MayP P := ht 0 (by omega)
  obtain ⟨a1, a2, a3, a5, a6, a7, a8, c1, c2, c3, c5, c6, c7, c8, rfl, ho⟩ := h.open
  obtain ⟨m1, m2, m3, m4, m5, m6, m7, m8, m9⟩ := id hm
  have HO := Lib.hid ho
  have hb : Blk (w.alloc (.cells #[.slice a1 P.n1 c1, .slice a2 P.n2 c2, .slice a3 P.n3 c3, .int .i64 P.rg, .slice a5 P.se.length c5, .slice a6 P.tt.length c6, .slice a7 P.ve.length c7, .slice a8 P.n8 c8, .int .i64 P.cl] 29)) w.heap.size #[.slice a1 P.n1 c1, .slice a2 P.n2 c2, .slice a3 P.n3 c3, .int .i64 P.rg, .slice a5 P.se.length c5, .slice a6 P.tt.length c6, .slice a7 P.ve.length c7, .slice a8 P.n8 c8, .int .i64 P.cl] 29 := Blk.new rfl
  have HT0 := Lib.hid ((Touch.refl [] w).alloc (.cells #[.slice a1 P.n1 c1, .slice a2 P.n2 c2, .slice a3 P.n3 c3, .int .i64 P.rg, .slice a5 P.se.length c5, .slice a6 P.tt.length c6, .slice a7 P.ve.length c7, .slice a8 P.n8 c8, .int .i64 P.cl] 29))
  have b0 := hb.cell (i := 0) rfl
  have b1 := hb.cell (i := 1) rfl
  have HB := Lib.hid hb
  clear h ho hb
  have im0 : (0 : Int) ≤ (k : Int) := by omega
  by_cases h1 : k + 1 < P.n2
  · have e2 : P.z2 (k + 1) 0 = ((fromP P (k + 1) : Nat) : Int) := (from_lt ht h1).2.2.symm
    have e3 : toP P k = fromP P (k + 1) := if_pos h1
    obtain ⟨g', off', hg', xq⟩ := HO.out.h2.at3 h1
    have y0 := (xq _ HT0.out).1
    rw [e2] at y0
    have d1 : decide ((k : Int) + 1 < (P.n2 : Int)) = true := dT (by omega)
    have im2 : (0 : Int) ≤ (k : Int) + 1 := by omega
    have im3 : (k : Int) + 1 < (P.n2 : Int) := by omega
    rw [e3]
    obtain ⟨fb, hfb⟩ : ∃ z, fromP P (k + 1) = z := ⟨_, rfl⟩
    rw [hfb] at y0 ⊢
    subst hg'
    clear hfb xq e2 e3 ht
    go_enter Tryz.func21, Tryz.ntmps21
    go_wp2_with fail
    go_ret
    exact ⟨rfl, HT0.out⟩
  · have e3 : toP P k = P.n1 := if_neg h1
    have d1 : decide ((k : Int) + 1 < (P.n2 : Int)) = false := dF (by omega)
    rw [e3]
    clear e3 ht
    go_enter Tryz.func21, Tryz.ntmps21
    go_wp2_with fail
    go_ret
    exact ⟨rfl, HT0.out⟩
set_option maxHeartbeats 8000000 in
theorem rtakes_any (pv : Value) (P : Pg) (k i : Nat) (w : World) (h : PgV w pv P) (ht : TabOk P) (hf : FitOk P k i) : Calls Tryz.prog 25 #[pv, .agg #[.int .i64 (P.op i), .int .i64 (P.a i), .int .i64 (P.b i)]] w (IntQ (tkP P i) w) := by
  have hm : MayP P := ht 0 (by omega)
  have hfk : ∀ j, j < P.n8 → ForkOk P j := ht 7 (by omega)
  have htk : tkP P i = if P.op i = 26 then P.z2 (P.a i).toNat 1 else if P.op i = 28 then P.z2 (P.z8 (P.a i).toNat 0).toNat 1 else popZ (P.op i) := rfl
  have hl := hf.lim
  obtain ⟨op, hop⟩ : ∃ z, P.op i = z := ⟨_, rfl⟩
  obtain ⟨a, ha⟩ : ∃ z, P.a i = z := ⟨_, rfl⟩
  obtain ⟨b, hb⟩ : ∃ z, P.b i = z := ⟨_, rfl⟩
  rw [hop, ha] at htk hl
  rw [hop, ha, hb]
  obtain ⟨T, hT⟩ : ∃ z, tkP P i = z := ⟨_, rfl⟩
  rw [hT] at htk ⊢
  clear hT hop ha hb hf
  obtain ⟨a1, a2, a3, a5, a6, a7, a8, c1, c2, c3, c5, c6, c7, c8, rfl, ho⟩ := h.open
  obtain ⟨m1, m2, m3, m4, m5, m6, m7, m8, m9⟩ := id hm
  have hb0 : Blk (w.alloc (.cells #[.slice a1 P.n1 c1, .slice a2 P.n2 c2, .slice a3 P.n3 c3, .int .i64 P.rg, .slice a5 P.se.length c5, .slice a6 P.tt.length c6, .slice a7 P.ve.length c7, .slice a8 P.n8 c8, .int .i64 P.cl] 29)) w.heap.size #[.slice a1 P.n1 c1, .slice a2 P.n2 c2, .slice a3 P.n3 c3, .int .i64 P.rg, .slice a5 P.se.length c5, .slice a6 P.tt.length c6, .slice a7 P.ve.length c7, .slice a8 P.n8 c8, .int .i64 P.cl] 29 := Blk.new rfl
  have hb1 := hb0.alloc (.cells #[.int .i64 op, .int .i64 a, .int .i64 b] 42)
  have hn1 : Blk ((w.alloc (.cells #[.slice a1 P.n1 c1, .slice a2 P.n2 c2, .slice a3 P.n3 c3, .int .i64 P.rg, .slice a5 P.se.length c5, .slice a6 P.tt.length c6, .slice a7 P.ve.length c7, .slice a8 P.n8 c8, .int .i64 P.cl] 29)).alloc (.cells #[.int .i64 op, .int .i64 a, .int .i64 b] 42)) (w.heap.size + 1) #[.int .i64 op, .int .i64 a, .int .i64 b] 42 := Blk.new (by simp)
  have ht0 : Touch [] w ((w.alloc (.cells #[.slice a1 P.n1 c1, .slice a2 P.n2 c2, .slice a3 P.n3 c3, .int .i64 P.rg, .slice a5 P.se.length c5, .slice a6 P.tt.length c6, .slice a7 P.ve.length c7, .slice a8 P.n8 c8, .int .i64 P.cl] 29)).alloc (.cells #[.int .i64 op, .int .i64 a, .int .i64 b] 42)) := ((Touch.refl [] w).alloc _).alloc _
  have HT0 := Lib.hid ht0
  have q0 := hn1.cell (i := 0) rfl
  have q1 := hn1.cell (i := 1) rfl
  have b1 := hb1.cell (i := 1) rfl
  have b7 := hb1.cell (i := 7) rfl
  by_cases e26 : op = 26
  · subst e26
    rw [lim_26] at hl
    obtain ⟨h0, h1⟩ := hl (by omega)
    obtain ⟨m, rfl⟩ : ∃ m : Nat, a = (m : Int) := ⟨a.toNat, by omega⟩
    have hmn : m < P.n2 := by omega
    obtain ⟨g, off, hg, xo⟩ := ho.h2.at3 hmn
    have x0 := (xo _ ht0).2.1
    have hT2 : T = P.z2 m 1 := by rw [htk, if_pos rfl]; rfl
    subst hT2
    obtain ⟨z, hz⟩ : ∃ z, P.z2 m 1 = z := ⟨_, rfl⟩
    rw [hz] at x0 ⊢
    subst hg
    clear htk hl hb0 hb1 hn1 ht0 xo hz ho h ht hm hfk h0
    go_enter Tryz.func25, Tryz.ntmps25
    go_wp2_with fail
    go_ret
    exact ⟨rfl, HT0.out⟩
  by_cases e28 : op = 28
  · subst e28
    rw [lim_28] at hl
    obtain ⟨h0, h1⟩ := hl (by omega)
    obtain ⟨m, rfl⟩ : ∃ m : Nat, a = (m : Int) := ⟨a.toNat, by omega⟩
    have hmn : m < P.n8 := by omega
    have hfo := hfk m hmn
    obtain ⟨r, hr⟩ : ∃ r : Nat, P.z8 m 0 = (r : Int) := ⟨(P.z8 m 0).toNat, by have := hfo.p0; omega⟩
    have hrn : r < P.n2 := by have := hfo.p1; omega
    obtain ⟨g, off, hg, xo⟩ := ho.h8.at2 hmn
    have x0 := (xo _ ht0).1
    rw [hr] at x0
    obtain ⟨g', off', hg', xq⟩ := ho.h2.at3 hrn
    have y0 := (xq _ ht0).2.1
    have hT2 : T = P.z2 r 1 := by rw [htk, if_neg (by decide), if_pos rfl]; show P.z2 (P.z8 m 0).toNat 1 = _; rw [hr]; rfl
    subst hT2
    obtain ⟨z, hz⟩ : ∃ z, P.z2 r 1 = z := ⟨_, rfl⟩
    rw [hz] at y0 ⊢
    have ir0 : (0 : Int) ≤ (r : Int) := by omega
    have ir1 : (r : Int) < (P.n2 : Int) := by omega
    have im0 : (0 : Int) ≤ (m : Int) := by omega
    subst hg
    subst hg'
    clear htk hl hb0 hb1 hn1 ht0 xo hz ho h ht hm hfk h0 xq hfo hr
    go_enter Tryz.func25, Tryz.ntmps25
    go_wp2_with fail
    go_region
    go_wp2_with fail
    go_ret
    exact ⟨rfl, HT0.out.drew⟩
  have f26 : (op == 26) = false := beqF e26
  have f28 : (op == 28) = false := beqF e28
  have hT2 : T = popZ op := by rw [htk, if_neg e26, if_neg e28]
  subst hT2
  have HP : Hid (Calls Tryz.prog 53 #[.int .i64 op] ((w.alloc (.cells #[.slice a1 P.n1 c1, .slice a2 P.n2 c2, .slice a3 P.n3 c3, .int .i64 P.rg, .slice a5 P.se.length c5, .slice a6 P.tt.length c6, .slice a7 P.ve.length c7, .slice a8 P.n8 c8, .int .i64 P.cl] 29)).alloc (.cells #[.int .i64 op, .int .i64 a, .int .i64 b] 42)) fun e w' => e = .returned (.int .i64 (popZ op)) ∧ ((w.alloc (.cells #[.slice a1 P.n1 c1, .slice a2 P.n2 c2, .slice a3 P.n3 c3, .int .i64 P.rg, .slice a5 P.se.length c5, .slice a6 P.tt.length c6, .slice a7 P.ve.length c7, .slice a8 P.n8 c8, .int .i64 P.cl] 29)).alloc (.cells #[.int .i64 op, .int .i64 a, .int .i64 b] 42)) = w') := Lib.hid (rpops_any op _)
  clear htk hl hb0 hb1 hn1 ht0 ho h ht hm hfk e26 e28
  go_enter Tryz.func25, Tryz.ntmps25
  go_wp2_with fail
  refine HP.out.mono ?_
  rintro e w3 ⟨rfl, rfl⟩
  go_wp2_with fail
  go_ret
  exact ⟨rfl, HT0.out⟩
/-- Where one goes on, as the reference lists it. -/
def nxA (op a b A : Int) : List Int := if op = 27 then [] else if op = 24 then [a] else if op = 25 then [A + 1, a] else if op = 33 then [A + 1, b] else [A + 1]
theorem slA1 {w : World} {g : Nat} {x : Int} {T : TypeId} (h : Blk w g #[.int .i64 x] T) : Sl w (.slice (some ⟨g, 0, none⟩) 1 1) [x] :=
  ⟨_, _, rfl, .inr ⟨g, 0, rfl, h.lt, fun j hj => by
    obtain rfl : j = 0 := by simp at hj; omega
    exact h.cell rfl⟩⟩
theorem slA2 {w : World} {g : Nat} {x y : Int} {T : TypeId} (h : Blk w g #[.int .i64 x, .int .i64 y] T) : Sl w (.slice (some ⟨g, 0, none⟩) 2 2) [x, y] :=
  ⟨_, _, rfl, .inr ⟨g, 0, rfl, h.lt, fun j hj => by
    rcases (by simp at hj; omega : j = 0 ∨ j = 1) with rfl | rfl
    · exact h.cell rfl
    · exact h.cell rfl⟩⟩
end Go.Proofs.YtjfnoondkgjabaaGreatDoor

set_option linter.unusedVariables false
namespace Go.Proofs.YtjfnoondkgjabaaGreatDoor
open Go Go.RowKit

set_option maxHeartbeats 4000000 in
theorem ris_any (v : Value) (xs : List Int) (m : Nat) (w : World) (hv : Sl w v xs) (hl : xs.length ≤ 1000000) : Calls Tryz.prog 50 #[v, .int .i64 (m : Int)] w (BoolI (xs.length = m ∧ ∀ x ∈ xs, betw 0 1000 x) w) := by
  have HS := Lib.hid hv
  obtain ⟨a, cap, rfl, _⟩ := hv
  have HB : Hid ((xs.length = m ∧ ∀ x ∈ xs, betw 0 1000 x) ↔ (xs.length = m ∧ ∀ k, k < xs.length → betw 0 1000 (xs.getD k 0))) := Lib.hid (by rw [all_iff])
  obtain ⟨Q, hQ⟩ : ∃ Q, (xs.length = m ∧ ∀ x ∈ xs, betw 0 1000 x) = Q := ⟨_, rfl⟩
  rw [hQ] at HB ⊢
  clear hQ
  obtain ⟨n, hn⟩ : ∃ n, xs.length = n := ⟨_, rfl⟩
  have HN := Lib.hid hn
  rw [hn] at HB hl ⊢
  clear hn
  by_cases hnm : n = m
  · subst hnm
    have d0 : ((n : Int) != (n : Int)) = false := bneF rfl
    go_enter Tryz.func50, Tryz.ntmps50
    go_wp2_with fail
    go_loopw [5] (fun iv wr => ∃ i : Nat, i ≤ n ∧ iv = .int .i64 (i : Int) ∧ (∀ k, k < i → betw 0 1000 (xs.getD k 0)) ∧ Touch [] w wr) (fun iv _ => n + 1 - (intOf iv).toNat)
    case atStart => exact ⟨0, by omega, rfl, fun k hk => by omega, Touch.refl _ _⟩
    case round =>
      obtain ⟨i, hi0, rfl, hall, ht⟩ := hrel
      have HA := Lib.hid hall
      have HT := Lib.hid ht
      clear hall
      by_cases hin : i < n
      · have hlt : (i : Int) < (n : Int) := by omega
        obtain ⟨g, off, hg, xo⟩ := HS.out.ix (q := i) (by rw [HN.out]; exact hin)
        subst hg
        have x0 := xo _ ht
        obtain ⟨x, hx⟩ : ∃ x, xs.getD i 0 = x := ⟨_, rfl⟩
        rw [hx] at x0
        have HX := Lib.hid hx
        clear xo ht hx
        by_cases hb : 0 ≤ x ∧ x ≤ 1000
        · have HW : Hid (∀ w, Calls Tryz.prog 49 #[.int .i64 x, .int .i64 0, .int .i64 1000] w (BoolQ true w)) := Lib.hid (fun wz => by have := rin_any x 0 1000 wz; rwa [show decide (0 ≤ x ∧ x ≤ 1000) = true from dT hb] at this)
          have HBX := Lib.hid hb
          clear hb
          go_wp2_with fail
          refine (HW.out _).mono ?_
          rintro e w3 ⟨rfl, rfl⟩
          clear x0
          go_wp2_with fail
          go_roundw
          case rel =>
            refine ⟨i + 1, by omega, by go_num, fun k hk => ?_, HT.out⟩
            by_cases e : k = i
            · subst e; rw [HX.out]; exact HBX.out
            · exact HA.out k (by omega)
          case measure => simp [intOf]; omega
        · have HW : Hid (∀ w, Calls Tryz.prog 49 #[.int .i64 x, .int .i64 0, .int .i64 1000] w (BoolQ false w)) := Lib.hid (fun wz => by have := rin_any x 0 1000 wz; rwa [show decide (0 ≤ x ∧ x ≤ 1000) = false from dF hb] at this)
          have HE : Hid (¬ Q) := Lib.hid (fun q => hb (by have := (HB.out.1 q).2 i hin; rw [HX.out] at this; exact this))
          clear hb
          go_wp2_with fail
          refine (HW.out _).mono ?_
          rintro e w3 ⟨rfl, rfl⟩
          clear x0
          go_wp2_with fail
          go_ret
          exact ⟨_, rfl, ⟨fun h => (by cases h), fun q => absurd q HE.out⟩, HT.out⟩
      · obtain rfl : i = n := by omega
        have HE : Hid Q := Lib.hid (HB.out.2 ⟨(by first | rfl | trivial), HA.out⟩)
        clear ht
        go_wp2_with fail
        go_ret
        exact ⟨_, rfl, ⟨fun _ => HE.out, fun _ => rfl⟩, HT.out⟩
  · have d0 : ((n : Int) != (m : Int)) = true := bneT (by omega)
    have HE : Hid (¬ Q) := Lib.hid (fun q => hnm (HB.out.1 q).1)
    clear hnm
    go_enter Tryz.func50, Tryz.ntmps50
    go_wp2_with fail
    go_ret
    exact ⟨_, rfl, ⟨fun h => (by cases h), fun q => absurd q HE.out⟩, Touch.refl _ _⟩
set_option maxHeartbeats 4000000 in
theorem reach_any (b s : Int) (w : World) (h0 : 0 ≤ b) (h1 : b ≤ 8192) (h2 : 0 ≤ s) (h3 : s ≤ 64) : Calls Tryz.prog 23 #[.agg #[.int .i64 b, .int .i64 s]] w (IntQ (b + max s 1) w) := by
  have hb : Blk (w.alloc (.cells #[.int .i64 b, .int .i64 s] 64)) w.heap.size #[.int .i64 b, .int .i64 s] 64 := Blk.new rfl
  have HT0 := Lib.hid ((Touch.refl [] w).alloc (.cells #[.int .i64 b, .int .i64 s] 64))
  have c0 := hb.cell (i := 0) rfl
  have c1 := hb.cell (i := 1) rfl
  clear hb
  by_cases hs : s < 1
  · obtain rfl : s = 0 := by omega
    rw [show max (0 : Int) 1 = 1 from rfl]
    go_enter Tryz.func23, Tryz.ntmps23
    go_wp2_with fail
    go_ret
    exact ⟨rfl, HT0.out⟩
  · have d0 : decide (s < 1) = false := dF hs
    rw [show max s 1 = s from by omega]
    clear hs
    go_enter Tryz.func23, Tryz.ntmps23
    go_wp2_with fail
    go_ret
    exact ⟨rfl, HT0.out⟩
end Go.Proofs.YtjfnoondkgjabaaGreatDoor

set_option linter.unusedVariables false
set_option maxRecDepth 100000
namespace Go.Proofs.YtjfnoondkgjabaaGreatDoor
open Go.RowKit Go.BigFrame

def vmax (P : Pg) : Nat → Int
  | 0 => 0
  | j + 1 => max (vmax P j) (P.z3 j 0 + max (P.z3 j 1) 1)
theorem vmax_ge (P : Pg) : ∀ (m j : Nat), j < m → P.z3 j 0 + max (P.z3 j 1) 1 ≤ vmax P m
  | 0, j, h => absurd h (Nat.not_lt_zero _)
  | m + 1, j, h => by
    show _ ≤ max (vmax P m) (P.z3 m 0 + max (P.z3 m 1) 1)
    by_cases e : j = m
    · subst e; omega
    · have := vmax_ge P m j (by omega); omega
theorem vmax_in {P : Pg} (ht : TabOk P) : ∀ (m : Nat), m ≤ P.n3 → 0 ≤ vmax P m ∧ vmax P m ≤ 8192
  | 0, _ => ⟨Int.le_refl _, by show (0 : Int) ≤ 8192; omega⟩
  | m + 1, h => by
    have h1 := vmax_in ht m (by omega)
    have hc : CellOk P m := ht 2 (by omega) m (by omega)
    have := hc.b0; have := hc.b1; have := hc.b2; have := hc.s0
    show 0 ≤ max (vmax P m) (P.z3 m 0 + max (P.z3 m 1) 1) ∧ max (vmax P m) (P.z3 m 0 + max (P.z3 m 1) 1) ≤ 8192
    omega
def IntT (x : Int) (w : World) (e : Ending) (w' : World) : Prop := e = .returned (.int .i64 x) ∧ Touch [] w w'
set_option maxHeartbeats 16000000 in
theorem varwords_any {w0 w : World} {P : Pg} {p : PV} (hm : Me w0 P p) (ht : TabOk P) (h0 : Touch [] w0 w) : Calls Tryz.prog 7 #[.agg p.c] w (IntT (vmax P P.n3) w) := by
  have hmay : MayP P := ht 0 (by omega)
  have hn3 : P.n3 ≤ 16 := hmay.2.2.2.1
  obtain ⟨a1, n1, c1, a2, n2, c2, a3, n3, c3, rg_, a5, n5, c5, a6, n6, c6, a7, n7, c7, a8, n8, c8, cl⟩ := p
  have e3 : n3 = P.n3 := hm.n3
  have HR : Hid (∀ j, j < P.n3 → ∀ w', Calls Tryz.prog 23 #[.agg #[.int .i64 (P.z3 j 0), .int .i64 (P.z3 j 1)]] w' (IntQ (P.z3 j 0 + max (P.z3 j 1) 1) w')) := Lib.hid (fun j hj w' => by
    have hc : CellOk P j := ht 2 (by omega) j hj
    exact reach_any _ _ w' hc.b0 (by have := hc.b1; have := hc.s0; omega) hc.s0 hc.s1)
  have HVM : Hid (∀ m, m ≤ P.n3 → 0 ≤ vmax P m ∧ vmax P m ≤ 8192) := Lib.hid (vmax_in ht)
  have HV : Hid (∀ j, j < P.n3 → ∃ g off, a3 = some ⟨g, off, none⟩ ∧ ∀ w', Touch [] w0 w' → w'.cell? ⟨g, off + j * 2, none⟩ = some (.int .i64 (P.z3 j 0)) ∧ w'.cell? ⟨g, off + j * 2 + 1, none⟩ = some (.int .i64 (P.z3 j 1))) := Lib.hid (fun j hj => hm.h3.at2 (i := j) (by rw [hm.n3]; exact hj))
  subst e3
  obtain ⟨n3, hn3e⟩ : ∃ q, P.n3 = q := ⟨_, rfl⟩
  rw [hn3e] at HR HVM HV hn3
  show Calls _ _ #[.agg #[.slice a1 n1 c1, .slice a2 n2 c2, .slice a3 P.n3 c3, .int .i64 rg_, .slice a5 n5 c5, .slice a6 n6 c6, .slice a7 n7 c7, .slice a8 n8 c8, .int .i64 cl]] _ _
  rw [hn3e]
  have hb1 : Blk (w.alloc (.cells #[.slice a1 n1 c1, .slice a2 n2 c2, .slice a3 n3 c3, .int .i64 rg_, .slice a5 n5 c5, .slice a6 n6 c6, .slice a7 n7 c7, .slice a8 n8 c8, .int .i64 cl] 29)) w.heap.size #[.slice a1 n1 c1, .slice a2 n2 c2, .slice a3 n3 c3, .int .i64 rg_, .slice a5 n5 c5, .slice a6 n6 c6, .slice a7 n7 c7, .slice a8 n8 c8, .int .i64 cl] 29 := Blk.new rfl
  have hT1 : Touch [] w (w.alloc (.cells #[.slice a1 n1 c1, .slice a2 n2 c2, .slice a3 n3 c3, .int .i64 rg_, .slice a5 n5 c5, .slice a6 n6 c6, .slice a7 n7 c7, .slice a8 n8 c8, .int .i64 cl] 29)) := (Touch.refl [] w).alloc _
  obtain ⟨W1, hW1⟩ : ∃ x, (w.alloc (.cells #[.slice a1 n1 c1, .slice a2 n2 c2, .slice a3 n3 c3, .int .i64 rg_, .slice a5 n5 c5, .slice a6 n6 c6, .slice a7 n7 c7, .slice a8 n8 c8, .int .i64 cl] 29)) = x := ⟨_, rfl⟩
  rw [hW1] at hb1 hT1
  have HB1 := Lib.hid hb1
  have HT1 := Lib.hid hT1
  have HW1 := Lib.hid hW1
  have H0 := Lib.hid h0
  clear hm ht h0 hmay hb1 hT1 hW1 hn3e
  go_enter Tryz.func7, Tryz.ntmps7
  go_wp2_with fail
  rw [HW1.out]
  go_loopw [3, 4] (fun mv iv wr => ∃ j : Nat, j ≤ n3 ∧ iv = .int .i64 j ∧ mv = .int .i64 (vmax P j) ∧ Hid (Touch [] W1 wr)) (fun _ iv _ => n3 - (intOf iv).toNat)
  case atStart => exact ⟨0, by omega, rfl, rfl, Lib.hid (Touch.refl _ _)⟩
  case round =>
    obtain ⟨j, hj, rfl, rfl, HT⟩ := hrel
    have b2 := (HB1.out.touch HT.out (by simp)).cell (i := 2) rfl
    obtain ⟨vm, hvm⟩ : ∃ q, vmax P j = q := ⟨_, rfl⟩
    have hv1 := HVM.out j hj
    rw [hvm] at hv1 ⊢
    have HVJ := Lib.hid hvm
    clear hvm
    by_cases hlt : j < n3
    · obtain ⟨g, off, rfl, hx⟩ := HV.out j hlt
      have d1 : decide ((j : Int) < (n3 : Int)) = true := dT (by omega)
      have d2 : (0 : Int) ≤ (j : Int) := by omega
      have d3 : (j : Int) < (n3 : Int) := by omega
      have HRJ := Lib.hid (HR.out j hlt)
      have HVN : Hid (vmax P (j + 1) = max vm (P.z3 j 0 + max (P.z3 j 1) 1)) := Lib.hid (by show max (vmax P j) _ = _; rw [HVJ.out])
      obtain ⟨za, hza⟩ : ∃ q, P.z3 j 0 = q := ⟨_, rfl⟩
      obtain ⟨zb, hzb⟩ : ∃ q, P.z3 j 1 = q := ⟨_, rfl⟩
      rw [hza] at hx HRJ HVN
      rw [hzb] at hx HRJ HVN
      obtain ⟨zr, hzr⟩ : ∃ q, za + max zb 1 = q := ⟨_, rfl⟩
      rw [hzr] at HRJ HVN
      have HX := Lib.hid hx
      clear hza hzb hzr hx
      obtain ⟨y0, y1⟩ := HX.out wr ((H0.out.trans HT1.out).trans HT.out)
      go_wp2_with fail
      refine (HRJ.out _).mono ?_
      rintro e w2 ⟨rfl, ht⟩
      have HT2 := Lib.hid (HT.out.trans ht)
      clear ht b2 y0 y1
      have b2 := (HB1.out.touch HT2.out (by simp)).cell (i := 2) rfl
      obtain ⟨y0, y1⟩ := HX.out w2 ((H0.out.trans HT1.out).trans HT2.out)
      by_cases hgt : vm < zr
      · have d4 : decide (vm < zr) = true := dT hgt
        go_wp2_with fail
        refine (HRJ.out _).mono ?_
        rintro e w3 ⟨rfl, ht⟩
        have HT3 := Lib.hid (HT2.out.trans ht)
        clear ht b2 y0 y1
        go_wp2
        go_roundw
        case rel => exact ⟨j + 1, by omega, by go_num, by rw [HVN.out, show max vm zr = zr from by omega], HT3⟩
        case measure => simp [intOf]; omega
      · have d4 : decide (vm < zr) = false := dF hgt
        go_wp2
        go_roundw
        case rel => exact ⟨j + 1, by omega, by go_num, by rw [HVN.out, show max vm zr = vm from by omega], HT2⟩
        case measure => simp [intOf]; omega
    · obtain rfl : j = n3 := by omega
      have d1 : decide ((j : Int) < (j : Int)) = false := dF (by omega)
      go_wp2
      go_ret
      exact ⟨by (rw [HVJ.out]) <;> rfl, HT1.out.trans HT.out⟩
end Go.Proofs.YtjfnoondkgjabaaGreatDoor

set_option linter.unusedVariables false
set_option maxRecDepth 100000
namespace Go.Proofs.YtjfnoondkgjabaaGreatDoor
open Go.RowKit Go.BigFrame

/-- The words that are put, up to ahead of place j. -/
def putW (ws : List Int) (j : Nat) : Nat → Int := fun q => if q < j then ws.getD q 0 else 0
theorem putW_succ (ws : List Int) (j : Nat) : upd (putW ws j) j (ws.getD j 0) = putW ws (j + 1) := by
  funext q
  unfold upd putW
  by_cases h : q = j
  · subst h; rw [if_pos rfl, if_pos (by omega)]
  · rw [if_neg h]
    by_cases h2 : q < j
    · rw [if_pos h2, if_pos (by omega)]
    · rw [if_neg h2, if_neg (by omega)]
theorem push_all {sz : Nat} {os : List Int} {j : Nat} (hj : j < os.length) (h : os.length + 2 ≤ sz) : pushM sz (os.getD j 0) [⟨-1, [], os.take j⟩, ⟨0, [], []⟩] = (0, [⟨-1, [], os.take (j + 1)⟩, ⟨0, [], []⟩]) := by
  have ht : topS [⟨-1, [], os.take j⟩, ⟨0, [], []⟩] = 0 + 0 + 2 + (os.take j).length := rfl
  simp only [pushM]
  rw [if_pos (by rw [ht, List.length_take]; omega)]
  have : os.take j ++ [os.getD j 0] = os.take (j + 1) := by
    rw [List.take_add_one, List.getD_eq_getElem?_getD, List.getElem?_eq_getElem hj]; rfl
  rw [this]
/-- Both sides, at work: x0 is the box that holds the program. -/
structure Bo (w0 w : World) (p : PV) (x0 b k G sb g u t rs rg : Nat) (B : List Nat) (base n N sz : Nat) (i : Int) (v : Nat → Int) (S : List Frm) : Prop where
  pc : Pc w0 w b k G sb g N n sz i v S
  rc : Rc w0 w u t rs rg B base n N sz i v S
  box : Blk w x0 p.c 29
  inB : x0 ∈ B ∧ b ∈ B ∧ k ∈ B ∧ G ∈ B ∧ sb ∈ B ∧ g ∈ B
  new : w0.heap.size ≤ x0 ∧ w0.heap.size ≤ b ∧ w0.heap.size ≤ k ∧ w0.heap.size ≤ G ∧ w0.heap.size ≤ sb ∧ w0.heap.size ≤ g
  ne : (∀ q, q = x0 ∨ q = b ∨ q = k ∨ q = G ∨ q = sb ∨ q = g → q ≠ u ∧ q ≠ rg ∧ q ≠ rs) ∧ x0 ≠ b ∧ x0 ≠ k ∧ x0 ≠ g
section
variable {w0 w w' : World} {p : PV} {x0 b k G sb g u t rs rg : Nat} {B : List Nat} {base n N sz : Nat} {i : Int} {v v' : Nat → Int} {S S' : List Frm}
theorem Bo.still (h : Bo w0 w p x0 b k G sb g u t rs rg B base n N sz i v S) (ht : Touch [] w w') : Bo w0 w' p x0 b k G sb g u t rs rg B base n N sz i v S :=
  ⟨⟨h.pc.t.trans ht, h.pc.vs.touch ht, h.pc.tk.touch ht (by simp) (by simp), h.pc.ps.still ht, h.pc.d⟩, ⟨h.rc.tt.trans ht, h.rc.bs, h.rc.rp.still ht⟩, h.box.touch ht (by simp), h.inB, h.new, h.ne⟩
/-- The program's side has done something. -/
theorem Bo.one {i' : Int} (hv0 : Vs w0) (h : Bo w0 w p x0 b k G sb g u t rs rg B base n N sz i v S) (h1 : Ps w' k sb g N n sz v' S') (h2 : Tk w' b k G i') (ht : Touch [k, g, b] w w') :
    Pc w0 w' b k G sb g N n sz i' v' S' ∧ Rc w0 w' u t rs rg B base n N sz i v S ∧ Blk w' x0 p.c 29 := by
  obtain ⟨i1, i2, i3, i4, i5, i6⟩ := h.inB
  obtain ⟨n1, n2, n3, n4, n5, n6⟩ := h.new
  have hn := h.ne.1
  have t0 : Touch [] w0 w' := h.pc.t.transF ht (fun q hq hlt => by simp at hq; omega)
  have hL : ∀ q ∈ [k, g, b], (q ∈ B ∨ w.heap.size ≤ q) ∧ q ≠ u ∧ q ≠ rs ∧ q ≠ rg := fun q hq => by
    simp at hq
    have := hn q (by omega)
    refine ⟨.inl ?_, this.1, this.2.2, this.2.1⟩
    rcases hq with rfl | rfl | rfl
    · exact i3
    · exact i6
    · exact i2
  exact ⟨⟨t0, hv0.touch t0, h2, h1, h.pc.d⟩, ⟨t0, h.rc.bs, h.rc.rp.touch ht hL⟩, h.box.touch ht (by have := h.ne.2; simp; omega)⟩
theorem Bo.two {w2 : World} {i' : Int} (hv0 : Vs w0) (h : Bo w0 w p x0 b k G sb g u t rs rg B base n N sz i v S) (h1 : Pc w0 w' b k G sb g N n sz i' v' S') (hb : Blk w' x0 p.c 29) (h2 : Rp w2 u t rs rg B base n N sz i' v' S') (hm : Mu B base u rg w' w2) :
    Bo w0 w2 p x0 b k G sb g u t rs rg B base n N sz i' v' S' := by
  obtain ⟨i1, i2, i3, i4, i5, i6⟩ := h.inB
  have hn := h.ne.1
  have t0 := hm.old h1.t h.rc.bs
  have hx0 := hn x0 (by simp)
  obtain ⟨L, hL, hq⟩ := hm
  have hno : ∀ q, (q = x0 ∨ q = b ∨ q = k ∨ q = G ∨ q = sb ∨ q = g) → q ∈ B → q ∉ L := fun q h1 h2 h3 => by
    rcases hq q h3 with e | e | e
    · exact (hn q h1).1 e
    · exact (hn q h1).2.1 e
    · exact e.2 h2
  exact ⟨⟨t0, hv0.touch t0, h1.tk.touch hL (hno b (by simp) i2) (hno G (by simp) i4), h1.ps.touch hL (hno k (by simp) i3) (hno sb (by simp) i5) (hno g (by simp) i6), h1.d⟩, ⟨t0, h.rc.bs, h2⟩, hb.touch hL (hno x0 (by simp) i1), h.inB, h.new, h.ne⟩
end
end Go.Proofs.YtjfnoondkgjabaaGreatDoor

set_option linter.unusedVariables false
set_option maxRecDepth 100000
namespace Go.Proofs.YtjfnoondkgjabaaGreatDoor
open Go.RowKit Go.BigFrame

def TrueP (w : World) (e : Ending) (w' : World) : Prop := e = .returned (.bool true) ∧ Touch [] w w'
def R3 (iv : Value) (A C : Prop) : Prop := (iv = .int .i64 0 ∧ A) ∨ (iv = .int .i64 1 ∧ C)
theorem callM_new {sz : Nat} (h : 2 ≤ sz) : callM sz (-1) 0 0 [⟨0, [], []⟩] = (0, [⟨-1, [], []⟩, ⟨0, [], []⟩]) := by
  simp only [callM]
  rw [if_neg (by omega), if_neg (by simp), if_neg (by have : topS [⟨0, [], []⟩] = 0 := rfl; omega)]
  rfl
set_option maxHeartbeats 64000000 in
theorem runs_any {w : World} {P : Pg} {p : PV} (hm : Me w P p) (ht : TabOk P) (hi : InsAll P 0) {i size : Nat} (h1 : fromP P 0 ≤ i) (h2 : i < toP P 0) (hv : Vs w)
    {wa oa : Option Addr} {wc oc : Nat} {ws os : List Int} (hws : Sl w (.slice wa ws.length wc) ws) (hos : Sl w (.slice oa os.length oc) os) (hsz : size ≤ 300) (hol : os.length + 2 ≤ size) (hI : ∀ x ∈ os, InI x) (hop : tkP P i ≤ os.length) (hvm : vmax P P.n3 ≤ 2000) (hwl : ws.length ≤ 2000) :
    Calls Tryz.prog 10 #[.agg p.c, .slice wa ws.length wc, .int .i64 (size : Int), .int .i64 (i : Int), .slice oa os.length oc, .int .i64 1] w (TrueP w) := by
  have hk0 : 0 < P.n2 := by have h : MayP P := ht 0 (by omega); have := h.2.1; omega
  have hen : EntOk P 0 := ht 1 (by omega) 0 hk0
  obtain ⟨n, hn⟩ : ∃ n : Nat, vmax P P.n3 = n := ⟨(vmax P P.n3).toNat, by have := (vmax_in ht P.n3 (Nat.le_refl _)).1; omega⟩
  have hnn : n ≤ 2000 := by omega
  have HST2 : Hid (∀ b k G sb g u t rs rg B base v, Both w p b k G sb g (n + size) n size u t rs rg B base i v [⟨-1, [], os⟩, ⟨0, [], []⟩]) := Lib.hid (fun b k G sb g u t rs rg B base v =>
    step_both hm ht hk0 hi h1 h2 hop hI (by rw [(hen.zero rfl).2]; rfl) (by simp) (fun j hj => by rw [← hn]; exact vmax_ge P P.n3 j hj) (by omega))
  have HVW : Hid (∀ w', Touch [] w w' → Calls Tryz.prog 7 #[.agg p.c] w' (IntT n w')) := Lib.hid (fun w' t => by rw [← hn]; exact varwords_any hm ht t)
  have HV0 := Lib.hid hv
  have HWS := Lib.hid hws
  have HOS := Lib.hid hos
  clear hm ht hi h1 h2 hop hI hvm hn hk0 hen hv hws hos
  obtain ⟨a1, n1, c1, a2, n2, c2, a3, n3, c3, rg_, a5, n5, c5, a6, n6, c6, a7, n7, c7, a8, n8, c8, cl⟩ := p
  have hb1 : Blk (w.alloc (.cells #[.slice a1 n1 c1, .slice a2 n2 c2, .slice a3 n3 c3, .int .i64 rg_, .slice a5 n5 c5, .slice a6 n6 c6, .slice a7 n7 c7, .slice a8 n8 c8, .int .i64 cl] 29)) w.heap.size #[.slice a1 n1 c1, .slice a2 n2 c2, .slice a3 n3 c3, .int .i64 rg_, .slice a5 n5 c5, .slice a6 n6 c6, .slice a7 n7 c7, .slice a8 n8 c8, .int .i64 cl] 29 := Blk.new rfl
  have hT1 : Touch [] w (w.alloc (.cells #[.slice a1 n1 c1, .slice a2 n2 c2, .slice a3 n3 c3, .int .i64 rg_, .slice a5 n5 c5, .slice a6 n6 c6, .slice a7 n7 c7, .slice a8 n8 c8, .int .i64 cl] 29)) := (Touch.refl [] w).alloc _
  obtain ⟨W1, hW1⟩ : ∃ x, (w.alloc (.cells #[.slice a1 n1 c1, .slice a2 n2 c2, .slice a3 n3 c3, .int .i64 rg_, .slice a5 n5 c5, .slice a6 n6 c6, .slice a7 n7 c7, .slice a8 n8 c8, .int .i64 cl] 29)) = x := ⟨_, rfl⟩
  rw [hW1] at hb1 hT1
  have HB1 := Lib.hid hb1
  have HT1 := Lib.hid hT1
  have HW1 := Lib.hid hW1
  clear hb1 hT1 hW1
  have p0 := HB1.out.cell (i := 0) rfl
  have p1 := HB1.out.cell (i := 1) rfl
  have p2 := HB1.out.cell (i := 2) rfl
  have p3 := HB1.out.cell (i := 3) rfl
  have p4 := HB1.out.cell (i := 4) rfl
  have p5 := HB1.out.cell (i := 5) rfl
  have p6 := HB1.out.cell (i := 6) rfl
  have p7 := HB1.out.cell (i := 7) rfl
  have p8 := HB1.out.cell (i := 8) rfl
  show Calls _ _ #[.agg #[.slice a1 n1 c1, .slice a2 n2 c2, .slice a3 n3 c3, .int .i64 rg_, .slice a5 n5 c5, .slice a6 n6 c6, .slice a7 n7 c7, .slice a8 n8 c8, .int .i64 cl], _, _, _, _, _] _ _
  go_enter Tryz.func10, Tryz.ntmps10
  go_wp2_with fail
  rw [HW1.out]
  go_wp2_with fail
  refine (HVW.out _ HT1.out).mono ?_
  rintro e w2 ⟨rfl, ht2⟩
  have HT2 := Lib.hid ht2
  clear ht2 p0 p1 p2 p3 p4 p5 p6 p7 p8
  have hns : (n : Int) + (size : Int) = ((n + size : Nat) : Int) := by omega
  have HNS := Lib.hid hns
  clear hns
  go_wp2_with fail
  rw [HNS.out]
  refine (snew_ok (n + size) (by omega) _).mono ?_
  rintro e w3 ⟨sb, g, rfl, hst, hsb, hg, ht3⟩
  have HS3 := Lib.hid hst
  have HG3 := Lib.hid (And.intro hsb hg)
  have HT3 := Lib.hid ht3
  clear hst hsb hg ht3
  go_wp2_with fail
  rw [HNS.out]
  refine (rsnew_ok (n + size) (by omega) _).mono ?_
  rintro e w4 ⟨rs, rg, rfl, hst, hsb, hg, ht4⟩
  have HTA : Hid (Touch [] W1 w4) := Lib.hid ((HT2.out.trans HT3.out).trans ht4)
  have HS4 : Hid (St w4 sb g (putW ws 0) (n + size) 84 ∧ St w4 rs rg (putW ws 0) (n + size) 82 ∧ Touch [g, rg] w4 w4) := Lib.hid ⟨(HS3.out.touch ht4 (by simp) (by simp)).congr (fun j _ => by simp [putW]), hst.congr (fun j _ => by simp [putW]), Touch.refl _ _⟩
  have hx := HB1.out.lt
  have HD4 : Hid (w.heap.size < sb ∧ w.heap.size < g ∧ sb < rs ∧ sb < rg ∧ g < rs ∧ g < rg ∧ sb ≠ g ∧ rs ≠ rg) := Lib.hid (by
    have := HT2.out.size; have := HG3.out; have l1 := HS3.out.1.lt; have l2 := HS3.out.2.1.lt; have := HS3.out.2.2; have := hst.2.2; omega)
  have HX0 := Lib.hid (HB1.out.touch HTA.out (by simp))
  obtain ⟨X0, hX0⟩ : ∃ q, w.heap.size = q := ⟨_, rfl⟩
  have HXE := Lib.hid hX0
  rw [hX0] at HD4 HX0 ⊢
  clear hst hsb hg ht4 hx HS3 HG3 HT3 HT2 hX0 HB1 HW1
  go_wp2_with fail
  go_loopw [18] (fun iv wr => ∃ j : Nat, j ≤ n ∧ j ≤ ws.length ∧ iv = .int .i64 j ∧ Hid (St wr sb g (putW ws j) (n + size) 84 ∧ St wr rs rg (putW ws j) (n + size) 82 ∧ Touch [g, rg] w4 wr)) (fun iv _ => n - (intOf iv).toNat)
  case atStart => exact ⟨0, by omega, by omega, rfl, HS4⟩
  case round =>
    clear HS4
    obtain ⟨j, hj1, hj2, rfl, HST⟩ := hrel
    have HTW : Hid (∀ w', Touch [g, rg] w4 w' → Touch [] w w') := Lib.hid (fun w' t => (HT1.out.trans HTA.out).transF t (fun q hq hlt => by have := HD4.out; have := HXE.out; simp at hq; omega))
    by_cases hgo : j < n ∧ j < ws.length
    · obtain ⟨hgo1, hgo2⟩ := hgo
      obtain ⟨wg, wo, rfl, hx⟩ := HWS.out.ix hgo2
      have y0 := hx wr (HTW.out wr HST.out.2.2)
      have HY := Lib.hid hx
      obtain ⟨xx, hxx⟩ : ∃ q, ws.getD j 0 = q := ⟨_, rfl⟩
      have HXX := Lib.hid hxx
      rw [hxx] at y0 HY
      have d1 : decide ((j : Int) < (n : Int)) = true := dT (by omega)
      have d2 : decide ((j : Int) < (ws.length : Int)) = true := dT (by omega)
      have d3 : (0 : Int) ≤ (j : Int) := by omega
      have d4 : (j : Int) < (ws.length : Int) := by omega
      clear hx hxx
      go_wp2_with fail
      refine (sput_yes sb g (n + size) (putW ws j) _ HST.out.1 (by omega) j xx (by omega)).mono ?_
      rintro e w5 ⟨rfl, hs, ht⟩
      have HS5 : Hid (St w5 sb g (putW ws (j + 1)) (n + size) 84 ∧ St w5 rs rg (putW ws j) (n + size) 82 ∧ Touch [g, rg] w4 w5) := Lib.hid ⟨by rw [← putW_succ, HXX.out]; exact hs, HST.out.2.1.touch ht (by have := HD4.out; simp; omega) (by have := HD4.out; simp; omega), HST.out.2.2.trans (ht.mono (by simp))⟩
      clear hs ht y0
      have y0 := HY.out w5 (HTW.out w5 HS5.out.2.2)
      go_wp2_with fail
      refine (rput_yes rs rg (n + size) (putW ws j) _ HS5.out.2.1 (by omega) j xx (by omega)).mono ?_
      rintro e w6 ⟨rfl, hs, ht⟩
      have HS6 : Hid (St w6 sb g (putW ws (j + 1)) (n + size) 84 ∧ St w6 rs rg (putW ws (j + 1)) (n + size) 82 ∧ Touch [g, rg] w4 w6) := Lib.hid ⟨HS5.out.1.touch ht (by have := HD4.out; simp; omega) (by have := HD4.out; simp; omega), by rw [← putW_succ, HXX.out]; exact hs, HS5.out.2.2.trans (ht.mono (by simp))⟩
      clear hs ht y0
      go_wp2
      go_roundw
      case rel => exact ⟨j + 1, by omega, by omega, by go_num, HS6⟩
      case measure => simp [intOf]; omega
    · have hex : (j = n) ∨ (j < n ∧ j = ws.length) := by omega
      rcases hex with hex | ⟨hex1, hex2⟩
      · have d1 : decide ((j : Int) < (n : Int)) = false := dF (by omega)
        clear hgo
        go_wp2_with fail
        refine (knew_yes sb g (n + size) n size (putW ws j) _ HST.out.1 (by omega) (by omega)).mono ?_
        rintro e w5 ⟨rfl, hk, ht⟩
        obtain ⟨k, hkk⟩ : ∃ q, wr.heap.size = q := ⟨_, rfl⟩
        have HKK := Lib.hid hkk
        rw [hkk] at hk ⊢
        have HP5 := Lib.hid (ps_new hk)
        have HT5 := Lib.hid ht
        clear hk ht hkk
        go_wp2_with fail
        refine (tnew_any k i _).mono ?_
        rintro e w6 ⟨b, G, rfl, HN⟩
        go_wp2_with fail
        refine (rnew_ok (List.range w6.heap.size) size w6 (fun b hb => List.mem_range.1 hb)).mono ?_
        rintro e w7 ⟨t, rfl, hrs, ht⟩
        have HRS := Lib.hid hrs
        have HT7 := Lib.hid ht
        clear hrs ht
        go_wp2_with fail
        have HBO : Hid (∃ B base, Bo w (w7.alloc (.cells #[.int .i64 (i : Int), .pointer (some ⟨t, 0, none⟩), .int .i64 0] 77)) (⟨a1, n1, c1, a2, n2, c2, a3, n3, c3, rg_, a5, n5, c5, a6, n6, c6, a7, n7, c7, a8, n8, c8, cl⟩ : PV) X0 b k G sb g w7.heap.size t rs rg B base n (n + size) size i (putW ws j) [⟨0, [], []⟩]) := Lib.hid (by
          obtain ⟨q1, q2, q3⟩ := HST.out
          obtain ⟨m1, m2, m3, m4⟩ := HN.out
          obtain ⟨d1, d2, d3, d4, d5, d6, d7, d8⟩ := HD4.out
          have l5 := HP5.out.lt
          have lb := m1.obj.lt
          have lG := m1.rows.lt
          have hkk := HKK.out
          have hxe := HXE.out
          have s5 := HT5.out.size
          have s6 := m4.size
          have s7 := HT7.out.size
          have s4 := q3.size
          have lsb := q1.1.lt
          have lg := q1.2.1.lt
          have lrs := q2.1.lt
          have lrg := q2.2.1.lt
          have lx := (HX0.out.touch q3 (by simp; omega)).lt
          have sw := HT1.out.size
          have t4 : Touch [] w wr := (HT1.out.trans HTA.out).transF q3 (fun q hq hlt => by simp at hq; omega)
          have t8 : Touch [] w6 (w7.alloc (.cells #[.int .i64 (i : Int), .pointer (some ⟨t, 0, none⟩), .int .i64 0] 77)) := HT7.out.alloc _
          have t0 : Touch [] w (w7.alloc (.cells #[.int .i64 (i : Int), .pointer (some ⟨t, 0, none⟩), .int .i64 0] 77)) := ((t4.trans HT5.out).trans m4).trans t8
          have hu : Blk (w7.alloc (.cells #[.int .i64 (i : Int), .pointer (some ⟨t, 0, none⟩), .int .i64 0] 77)) w7.heap.size #[.int .i64 (i : Int), .pointer (some ⟨t, 0, none⟩), .int .i64 0] 77 := Blk.new rfl
          have hne : b ≠ G := m1.ne
          have hks : Rs (w7.alloc (.cells #[.int .i64 (i : Int), .pointer (some ⟨t, 0, none⟩), .int .i64 0] 77)) ([w7.heap.size] ++ List.range w6.heap.size) w6.heap.size t size [⟨0, [], []⟩] := HRS.out.keep ((Touch.refl [] w7).alloc _) (by simp) (by simp)
          have t68 := (HT5.out.trans m4).trans t8
          refine ⟨[w7.heap.size] ++ List.range w6.heap.size, w6.heap.size, ⟨⟨t0, HV0.out.touch t0, m1.touch t8 (by simp) (by simp), (HP5.out.still m4).still t8, by omega⟩, ⟨t0, by omega, ⟨hu, hks, ⟨putW ws j, q2.touch t68 (by simp) (by simp), fun _ _ => rfl⟩, ?_, ?_, by omega, by omega, Nat.zero_le _, by omega⟩⟩, ((HX0.out.touch q3 (by simp; omega)).touch t68 (by simp)), ?_, by omega, ?_⟩⟩
          · simp [List.mem_range]; omega
          · intro q hq
            have := hu.lt
            simp [List.mem_range] at hq
            omega
          · simp only [List.mem_append, List.mem_range]; omega
          · refine ⟨fun q hq => by omega, by omega⟩)
        obtain ⟨B, base, hbo⟩ := HBO.out
        have HB := Lib.hid hbo
        obtain ⟨u, hu⟩ : ∃ q, w7.heap.size = q := ⟨_, rfl⟩
        rw [hu] at HB ⊢
        obtain ⟨w8, hw8⟩ : ∃ x, w7.alloc (.cells #[.int .i64 (i : Int), .pointer (some ⟨t, 0, none⟩), .int .i64 0] 77) = x := ⟨_, rfl⟩
        rw [hw8] at HB ⊢
        obtain ⟨v, hvv⟩ : ∃ x, putW ws j = x := ⟨_, rfl⟩
        rw [hvv] at HB
        clear hvv hw8
        clear hbo hu HBO HRS HT7 HN HP5 HT5 HKK HST
        have HS2 : Hid (2 ≤ size) := Lib.hid (by omega)
        go_wp2_with fail
        have HBX := Lib.hid (HB.out.still (Touch.refl _ _).drew)
        go_region_held3 (fun w' => w'.cell? ⟨u, 1, none⟩ = some (.pointer (some ⟨t, 0, none⟩))) (first | exact HBX.out.rc.rp.tk.cell (i := 1) rfl | exact HO1.out.2.1.rp.tk.cell (i := 1) rfl | exact HO2.out.rc.rp.tk.cell (i := 1) rfl)
          ((first
            | (go_at_call 14; refine (p_call (S' := [⟨-1, [], []⟩, ⟨0, [], []⟩]) (c := 0) (-1) 0 0 (by omega) (by rw [callM_new HS2.out]) (by rw [callM_new HS2.out]) HBX.out.pc.ps).mono ?_; rintro e wa ⟨rfl, hp, hta⟩; have HO1 := Lib.hid (HBX.out.one HV0.out hp (HBX.out.pc.tk.touch hta (by have := HBX.out.pc.d; have := HBX.out.ne.2; simp; omega) (by have := HBX.out.pc.d; have := HBX.out.ne.2; simp; omega)) (hta.mono (by intro i hi; simp at hi ⊢; omega))); clear hp hta)
            | (go_at_call 32; refine (q_call (S' := [⟨-1, [], []⟩, ⟨0, [], []⟩]) (c := 0) (-1) 0 0 (by rw [callM_new HS2.out]) (by rw [callM_new HS2.out]) HO1.out.2.1.rp).mono ?_; rintro e wb ⟨rfl, H2⟩; have HO2 := Lib.hid (HBX.out.two HV0.out HO1.out.1 HO1.out.2.2 H2.out.1 H2.out.2); clear H2)))
        go_wp2_with fail
        go_loopw [22] (fun iv wr => ∃ q : Nat, q ≤ os.length ∧ iv = .int .i64 q ∧ Hid (Bo w wr (⟨a1, n1, c1, a2, n2, c2, a3, n3, c3, rg_, a5, n5, c5, a6, n6, c6, a7, n7, c7, a8, n8, c8, cl⟩ : PV) X0 b k G sb g u t rs rg B base n (n + size) size i v [⟨-1, [], os.take q⟩, ⟨0, [], []⟩])) (fun iv _ => os.length - (intOf iv).toNat)
        case atStart => exact ⟨0, by omega, rfl, HO2⟩
        case round =>
          clear HB HBX HO1 HO2
          obtain ⟨q, hq, rfl, HB⟩ := hrel
          by_cases hlt : q < os.length
          · obtain ⟨og, oo, rfl, hx⟩ := HOS.out.ix hlt
            have HXO := Lib.hid hx
            have HPA := Lib.hid (push_all (sz := size) hlt (by omega))
            obtain ⟨xx, hxx⟩ : ∃ z, os.getD q 0 = z := ⟨_, rfl⟩
            rw [hxx] at HXO HPA
            have e1 : decide ((q : Int) < (os.length : Int)) = true := dT (by omega)
            have e2 : (0 : Int) ≤ (q : Int) := by omega
            have e3 : (q : Int) < (os.length : Int) := by omega
            clear hx hxx
            go_wp2_with fail
            have HBX := Lib.hid (HB.out.still (Touch.refl _ _).drew)
            go_region_held3 (fun w' => w'.cell? ⟨u, 1, none⟩ = some (.pointer (some ⟨t, 0, none⟩)) ∧ w'.cell? ⟨og, oo + q, none⟩ = some (.int .i64 xx)) (first | exact ⟨HBX.out.rc.rp.tk.cell (i := 1) rfl, HXO.out _ HBX.out.pc.t⟩ | exact ⟨HO1.out.2.1.rp.tk.cell (i := 1) rfl, HXO.out _ HO1.out.1.t⟩ | exact ⟨HO2.out.rc.rp.tk.cell (i := 1) rfl, HXO.out _ HO2.out.pc.t⟩)
              ((first
                | (go_at_call 33; refine (p_push (S' := [⟨-1, [], os.take (q + 1)⟩, ⟨0, [], []⟩]) (c := 0) xx (by rw [HPA.out]) (by rw [HPA.out]) HBX.out.pc.ps).mono ?_; rintro e wa ⟨rfl, hp, hta⟩; have HO1 := Lib.hid (HBX.out.one HV0.out hp (HBX.out.pc.tk.touch hta (by have := HBX.out.pc.d; have := HBX.out.ne.2; simp; omega) (by have := HBX.out.pc.d; have := HBX.out.ne.2; simp; omega)) (hta.mono (by intro i hi; simp at hi ⊢; omega))); clear hp hta)
                | (go_at_call 34; refine (q_push (S' := [⟨-1, [], os.take (q + 1)⟩, ⟨0, [], []⟩]) (c := 0) xx (by rw [HPA.out]) (by rw [HPA.out]) HO1.out.2.1.rp).mono ?_; rintro e wb ⟨rfl, H2⟩; have HO2 := Lib.hid (HBX.out.two HV0.out HO1.out.1 HO1.out.2.2 H2.out.1 H2.out.2); clear H2)))
            go_wp2_with fail
            go_roundw
            case rel => exact ⟨q + 1, by omega, by go_num, HO2⟩
            case measure => simp [intOf]; omega
          · obtain rfl : q = os.length := by omega
            rw [List.take_length] at HB
            have e1 : decide ((os.length : Int) < (os.length : Int)) = false := dF (by omega)
            go_wp2_with fail
            go_loopw [23] (fun iv wr => R3 iv (Hid (Bo w wr (⟨a1, n1, c1, a2, n2, c2, a3, n3, c3, rg_, a5, n5, c5, a6, n6, c6, a7, n7, c7, a8, n8, c8, cl⟩ : PV) X0 b k G sb g u t rs rg B base n (n + size) size i v [⟨-1, [], os⟩, ⟨0, [], []⟩])) (Hid (Touch [] w wr))) (fun iv _ => 1 - (intOf iv).toNat)
            case atStart => exact .inl ⟨rfl, HB⟩
            case round =>
              clear HB
              rcases hrel with ⟨rfl, HB⟩ | ⟨rfl, HT⟩
              · have p0 := HB.out.box.cell (i := 0) rfl
                have p1 := HB.out.box.cell (i := 1) rfl
                have p2 := HB.out.box.cell (i := 2) rfl
                have p3 := HB.out.box.cell (i := 3) rfl
                have p4 := HB.out.box.cell (i := 4) rfl
                have p5 := HB.out.box.cell (i := 5) rfl
                have p6 := HB.out.box.cell (i := 6) rfl
                have p7 := HB.out.box.cell (i := 7) rfl
                have p8 := HB.out.box.cell (i := 8) rfl
                rcases HST2.out b k G sb g u t rs rg B base v with ⟨c, nx, v', S', hp, hr, F', r', rfl⟩ | ⟨hp, hr⟩
                · have HDP := Lib.hid (hp _ HB.out.pc)
                  have HRC := Lib.hid hr
                  clear hp hr
                  go_wp2_with fail
                  refine HDP.out.mono ?_
                  rintro e wa ⟨rfl, Ha⟩
                  have HO1 := Lib.hid (HB.out.one HV0.out Ha.out.1 Ha.out.2.1 Ha.out.2.2)
                  clear p0 p1 p2 p3 p4 p5 p6 p7 p8
                  have p0 := HO1.out.2.2.cell (i := 0) rfl
                  have p1 := HO1.out.2.2.cell (i := 1) rfl
                  have p2 := HO1.out.2.2.cell (i := 2) rfl
                  have p3 := HO1.out.2.2.cell (i := 3) rfl
                  have p4 := HO1.out.2.2.cell (i := 4) rfl
                  have p5 := HO1.out.2.2.cell (i := 5) rfl
                  have p6 := HO1.out.2.2.cell (i := 6) rfl
                  have p7 := HO1.out.2.2.cell (i := 7) rfl
                  have p8 := HO1.out.2.2.cell (i := 8) rfl
                  go_wp2_with fail
                  refine (HRC.out _ HO1.out.2.1).mono ?_
                  rintro e wb ⟨rfl, Hb⟩
                  have HB2 := Lib.hid (HB.out.two HV0.out (i' := if c = 0 then nx else i) ⟨HO1.out.1.t, HO1.out.1.vs, HO1.out.1.tk, HO1.out.1.ps, HO1.out.1.d⟩ HO1.out.2.2 Hb.out.1 Hb.out.2)
                  clear p0 p1 p2 p3 p4 p5 p6 p7 p8
                  clear HB Ha Hb HDP HRC HO1
                  by_cases hc0 : c = 0
                  · subst hc0
                    rw [if_pos rfl] at HB2
                    obtain ⟨HB⟩ : Nonempty (Hid (Bo w wb (⟨a1, n1, c1, a2, n2, c2, a3, n3, c3, rg_, a5, n5, c5, a6, n6, c6, a7, n7, c7, a8, n8, c8, cl⟩ : PV) X0 b k G sb g u t rs rg B base n (n + size) size nx v' (F' :: r'))) := ⟨HB2⟩
                    clear HB2
                    have HKS := Lib.hid (HB.out.pc.ps.ks)
                    obtain ⟨ff, hks, hff⟩ := HKS.out
                    have HSA := Lib.hid (same19 b k G u sb g (n + size) n size base t B ff _ _ _ _ hsz HB.out.pc.tk HB.out.rc.rp.tk hks HB.out.rc.rp.ks)
                    clear hks hff HKS
                    go_wp2_with fail
                    refine HSA.out.mono ?_
                    rintro e ws_ ⟨rfl, hts⟩
                    have HB := Lib.hid (HB.out.still hts)
                    clear hts HSA
                    go_wp2_with fail
                    go_loopw [28, 29, 30] (fun iv _ _ wr => ∃ j : Nat, j ≤ n ∧ iv = .int .i64 j ∧ Hid (Bo w wr (⟨a1, n1, c1, a2, n2, c2, a3, n3, c3, rg_, a5, n5, c5, a6, n6, c6, a7, n7, c7, a8, n8, c8, cl⟩ : PV) X0 b k G sb g u t rs rg B base n (n + size) size nx v' (F' :: r'))) (fun iv _ _ _ => n - (intOf iv).toNat)
                    case atStart => exact ⟨0, by omega, rfl, HB⟩
                    case round =>
                      clear HB
                      obtain ⟨j, hj, rfl, HB⟩ := hrel
                      by_cases hjn : j < n
                      · have e1 : decide ((j : Int) < (n : Int)) = true := dT (by omega)
                        have HG := Lib.hid (p_get j hjn rfl HB.out.pc.ps)
                        obtain ⟨fr, hst, hfr⟩ := HB.out.rc.rp.st
                        have r0 := hst.1.cell (i := 0) rfl
                        have r1 := hst.2.1.cell (rowA_get fr (n + size) j (by omega))
                        rw [hfr j hjn] at r1
                        obtain ⟨xx, hxx⟩ : ∃ q, v' j = q := ⟨_, rfl⟩
                        rw [hxx] at HG r1
                        have e2 : (xx != xx) = false := bneF rfl
                        have e3 : (0 : Int) ≤ (j : Int) := by omega
                        have e4 : (j : Int) < ((n + size : Nat) : Int) := by omega
                        clear hst hfr hxx
                        go_wp2_with fail
                        refine HG.out.mono ?_
                        rintro e wg ⟨rfl, rfl⟩
                        go_wp2_with fail
                        go_roundw
                        case rel => exact ⟨j + 1, by omega, by go_num, HB⟩
                        case measure => simp [intOf]; omega
                      · have e1 : decide ((j : Int) < (n : Int)) = false := dF (by omega)
                        go_wp2_with fail
                        go_roundw
                        case rel => exact .inr ⟨rfl, Lib.hid HB.out.pc.t⟩
                        case measure => simp [intOf]
                  · have k1 : decide (c = 0) = false := dF hc0
                    have k2 : (c != c) = false := bneF rfl
                    have k3 : (c != 0) = true := bneT hc0
                    have k4 : ¬ c = 0 := hc0
                    go_wp2_with fail
                    go_ret
                    exact ⟨rfl, HB2.out.pc.t⟩
                · have HDP := Lib.hid (hp _ HB.out.pc)
                  have HRC := Lib.hid hr
                  clear hp hr
                  go_wp2_with fail
                  refine HDP.out.mono ?_
                  rintro e wa ⟨rfl, hta⟩
                  have HB1 := Lib.hid (HB.out.still hta)
                  clear p0 p1 p2 p3 p4 p5 p6 p7 p8
                  clear hta HB
                  have p0 := HB1.out.box.cell (i := 0) rfl
                  have p1 := HB1.out.box.cell (i := 1) rfl
                  have p2 := HB1.out.box.cell (i := 2) rfl
                  have p3 := HB1.out.box.cell (i := 3) rfl
                  have p4 := HB1.out.box.cell (i := 4) rfl
                  have p5 := HB1.out.box.cell (i := 5) rfl
                  have p6 := HB1.out.box.cell (i := 6) rfl
                  have p7 := HB1.out.box.cell (i := 7) rfl
                  have p8 := HB1.out.box.cell (i := 8) rfl
                  go_wp2_with fail
                  refine (HRC.out _ HB1.out.rc).mono ?_
                  rintro e wb ⟨rfl, Hb⟩
                  obtain ⟨HB⟩ : Nonempty (Hid (Bo w wb (⟨a1, n1, c1, a2, n2, c2, a3, n3, c3, rg_, a5, n5, c5, a6, n6, c6, a7, n7, c7, a8, n8, c8, cl⟩ : PV) X0 b k G sb g u t rs rg B base n (n + size) size i v [⟨-1, [], os⟩, ⟨0, [], []⟩])) := ⟨Lib.hid (HB1.out.two HV0.out HB1.out.pc HB1.out.box Hb.out.1 Hb.out.2)⟩
                  clear p0 p1 p2 p3 p4 p5 p6 p7 p8
                  clear HB1 Hb HDP HRC
                  have HKS := Lib.hid (HB.out.pc.ps.ks)
                  obtain ⟨ff, hks, hff⟩ := HKS.out
                  have HSA := Lib.hid (same19 b k G u sb g (n + size) n size base t B ff _ _ _ _ hsz HB.out.pc.tk HB.out.rc.rp.tk hks HB.out.rc.rp.ks)
                  clear hks hff HKS
                  go_wp2_with fail
                  refine HSA.out.mono ?_
                  rintro e ws_ ⟨rfl, hts⟩
                  have HB := Lib.hid (HB.out.still hts)
                  clear hts HSA
                  go_wp2_with fail
                  go_loopw [28, 29, 30] (fun iv _ _ wr => ∃ j : Nat, j ≤ n ∧ iv = .int .i64 j ∧ Hid (Bo w wr (⟨a1, n1, c1, a2, n2, c2, a3, n3, c3, rg_, a5, n5, c5, a6, n6, c6, a7, n7, c7, a8, n8, c8, cl⟩ : PV) X0 b k G sb g u t rs rg B base n (n + size) size i v [⟨-1, [], os⟩, ⟨0, [], []⟩])) (fun iv _ _ _ => n - (intOf iv).toNat)
                  case atStart => exact ⟨0, by omega, rfl, HB⟩
                  case round =>
                    clear HB
                    obtain ⟨j, hj, rfl, HB⟩ := hrel
                    by_cases hjn : j < n
                    · have e1 : decide ((j : Int) < (n : Int)) = true := dT (by omega)
                      have HG := Lib.hid (p_get j hjn rfl HB.out.pc.ps)
                      obtain ⟨fr, hst, hfr⟩ := HB.out.rc.rp.st
                      have r0 := hst.1.cell (i := 0) rfl
                      have r1 := hst.2.1.cell (rowA_get fr (n + size) j (by omega))
                      rw [hfr j hjn] at r1
                      obtain ⟨xx, hxx⟩ : ∃ q, v j = q := ⟨_, rfl⟩
                      rw [hxx] at HG r1
                      have e2 : (xx != xx) = false := bneF rfl
                      have e3 : (0 : Int) ≤ (j : Int) := by omega
                      have e4 : (j : Int) < ((n + size : Nat) : Int) := by omega
                      clear hst hfr hxx
                      go_wp2_with fail
                      refine HG.out.mono ?_
                      rintro e wg ⟨rfl, rfl⟩
                      go_wp2_with fail
                      go_roundw
                      case rel => exact ⟨j + 1, by omega, by go_num, HB⟩
                      case measure => simp [intOf]; omega
                    · have e1 : decide ((j : Int) < (n : Int)) = false := dF (by omega)
                      go_wp2_with fail
                      go_ret
                      exact ⟨rfl, HB.out.pc.t⟩
              · go_wp2_with fail
                go_ret
                exact ⟨rfl, HT.out⟩
      · have d1 : decide ((j : Int) < (n : Int)) = true := dT (by omega)
        have d2 : decide ((j : Int) < (ws.length : Int)) = false := dF (by omega)
        clear hgo
        go_wp2_with fail
        refine (knew_yes sb g (n + size) n size (putW ws j) _ HST.out.1 (by omega) (by omega)).mono ?_
        rintro e w5 ⟨rfl, hk, ht⟩
        obtain ⟨k, hkk⟩ : ∃ q, wr.heap.size = q := ⟨_, rfl⟩
        have HKK := Lib.hid hkk
        rw [hkk] at hk ⊢
        have HP5 := Lib.hid (ps_new hk)
        have HT5 := Lib.hid ht
        clear hk ht hkk
        go_wp2_with fail
        refine (tnew_any k i _).mono ?_
        rintro e w6 ⟨b, G, rfl, HN⟩
        go_wp2_with fail
        refine (rnew_ok (List.range w6.heap.size) size w6 (fun b hb => List.mem_range.1 hb)).mono ?_
        rintro e w7 ⟨t, rfl, hrs, ht⟩
        have HRS := Lib.hid hrs
        have HT7 := Lib.hid ht
        clear hrs ht
        go_wp2_with fail
        have HBO : Hid (∃ B base, Bo w (w7.alloc (.cells #[.int .i64 (i : Int), .pointer (some ⟨t, 0, none⟩), .int .i64 0] 77)) (⟨a1, n1, c1, a2, n2, c2, a3, n3, c3, rg_, a5, n5, c5, a6, n6, c6, a7, n7, c7, a8, n8, c8, cl⟩ : PV) X0 b k G sb g w7.heap.size t rs rg B base n (n + size) size i (putW ws j) [⟨0, [], []⟩]) := Lib.hid (by
          obtain ⟨q1, q2, q3⟩ := HST.out
          obtain ⟨m1, m2, m3, m4⟩ := HN.out
          obtain ⟨d1, d2, d3, d4, d5, d6, d7, d8⟩ := HD4.out
          have l5 := HP5.out.lt
          have lb := m1.obj.lt
          have lG := m1.rows.lt
          have hkk := HKK.out
          have hxe := HXE.out
          have s5 := HT5.out.size
          have s6 := m4.size
          have s7 := HT7.out.size
          have s4 := q3.size
          have lsb := q1.1.lt
          have lg := q1.2.1.lt
          have lrs := q2.1.lt
          have lrg := q2.2.1.lt
          have lx := (HX0.out.touch q3 (by simp; omega)).lt
          have sw := HT1.out.size
          have t4 : Touch [] w wr := (HT1.out.trans HTA.out).transF q3 (fun q hq hlt => by simp at hq; omega)
          have t8 : Touch [] w6 (w7.alloc (.cells #[.int .i64 (i : Int), .pointer (some ⟨t, 0, none⟩), .int .i64 0] 77)) := HT7.out.alloc _
          have t0 : Touch [] w (w7.alloc (.cells #[.int .i64 (i : Int), .pointer (some ⟨t, 0, none⟩), .int .i64 0] 77)) := ((t4.trans HT5.out).trans m4).trans t8
          have hu : Blk (w7.alloc (.cells #[.int .i64 (i : Int), .pointer (some ⟨t, 0, none⟩), .int .i64 0] 77)) w7.heap.size #[.int .i64 (i : Int), .pointer (some ⟨t, 0, none⟩), .int .i64 0] 77 := Blk.new rfl
          have hne : b ≠ G := m1.ne
          have hks : Rs (w7.alloc (.cells #[.int .i64 (i : Int), .pointer (some ⟨t, 0, none⟩), .int .i64 0] 77)) ([w7.heap.size] ++ List.range w6.heap.size) w6.heap.size t size [⟨0, [], []⟩] := HRS.out.keep ((Touch.refl [] w7).alloc _) (by simp) (by simp)
          have t68 := (HT5.out.trans m4).trans t8
          refine ⟨[w7.heap.size] ++ List.range w6.heap.size, w6.heap.size, ⟨⟨t0, HV0.out.touch t0, m1.touch t8 (by simp) (by simp), (HP5.out.still m4).still t8, by omega⟩, ⟨t0, by omega, ⟨hu, hks, ⟨putW ws j, q2.touch t68 (by simp) (by simp), fun _ _ => rfl⟩, ?_, ?_, by omega, by omega, Nat.zero_le _, by omega⟩⟩, ((HX0.out.touch q3 (by simp; omega)).touch t68 (by simp)), ?_, by omega, ?_⟩⟩
          · simp [List.mem_range]; omega
          · intro q hq
            have := hu.lt
            simp [List.mem_range] at hq
            omega
          · simp only [List.mem_append, List.mem_range]; omega
          · refine ⟨fun q hq => by omega, by omega⟩)
        obtain ⟨B, base, hbo⟩ := HBO.out
        have HB := Lib.hid hbo
        obtain ⟨u, hu⟩ : ∃ q, w7.heap.size = q := ⟨_, rfl⟩
        rw [hu] at HB ⊢
        obtain ⟨w8, hw8⟩ : ∃ x, w7.alloc (.cells #[.int .i64 (i : Int), .pointer (some ⟨t, 0, none⟩), .int .i64 0] 77) = x := ⟨_, rfl⟩
        rw [hw8] at HB ⊢
        obtain ⟨v, hvv⟩ : ∃ x, putW ws j = x := ⟨_, rfl⟩
        rw [hvv] at HB
        clear hvv hw8
        clear hbo hu HBO HRS HT7 HN HP5 HT5 HKK HST
        have HS2 : Hid (2 ≤ size) := Lib.hid (by omega)
        go_wp2_with fail
        have HBX := Lib.hid (HB.out.still (Touch.refl _ _).drew)
        go_region_held3 (fun w' => w'.cell? ⟨u, 1, none⟩ = some (.pointer (some ⟨t, 0, none⟩))) (first | exact HBX.out.rc.rp.tk.cell (i := 1) rfl | exact HO1.out.2.1.rp.tk.cell (i := 1) rfl | exact HO2.out.rc.rp.tk.cell (i := 1) rfl)
          ((first
            | (go_at_call 14; refine (p_call (S' := [⟨-1, [], []⟩, ⟨0, [], []⟩]) (c := 0) (-1) 0 0 (by omega) (by rw [callM_new HS2.out]) (by rw [callM_new HS2.out]) HBX.out.pc.ps).mono ?_; rintro e wa ⟨rfl, hp, hta⟩; have HO1 := Lib.hid (HBX.out.one HV0.out hp (HBX.out.pc.tk.touch hta (by have := HBX.out.pc.d; have := HBX.out.ne.2; simp; omega) (by have := HBX.out.pc.d; have := HBX.out.ne.2; simp; omega)) (hta.mono (by intro i hi; simp at hi ⊢; omega))); clear hp hta)
            | (go_at_call 32; refine (q_call (S' := [⟨-1, [], []⟩, ⟨0, [], []⟩]) (c := 0) (-1) 0 0 (by rw [callM_new HS2.out]) (by rw [callM_new HS2.out]) HO1.out.2.1.rp).mono ?_; rintro e wb ⟨rfl, H2⟩; have HO2 := Lib.hid (HBX.out.two HV0.out HO1.out.1 HO1.out.2.2 H2.out.1 H2.out.2); clear H2)))
        go_wp2_with fail
        go_loopw [22] (fun iv wr => ∃ q : Nat, q ≤ os.length ∧ iv = .int .i64 q ∧ Hid (Bo w wr (⟨a1, n1, c1, a2, n2, c2, a3, n3, c3, rg_, a5, n5, c5, a6, n6, c6, a7, n7, c7, a8, n8, c8, cl⟩ : PV) X0 b k G sb g u t rs rg B base n (n + size) size i v [⟨-1, [], os.take q⟩, ⟨0, [], []⟩])) (fun iv _ => os.length - (intOf iv).toNat)
        case atStart => exact ⟨0, by omega, rfl, HO2⟩
        case round =>
          clear HB HBX HO1 HO2
          obtain ⟨q, hq, rfl, HB⟩ := hrel
          by_cases hlt : q < os.length
          · obtain ⟨og, oo, rfl, hx⟩ := HOS.out.ix hlt
            have HXO := Lib.hid hx
            have HPA := Lib.hid (push_all (sz := size) hlt (by omega))
            obtain ⟨xx, hxx⟩ : ∃ z, os.getD q 0 = z := ⟨_, rfl⟩
            rw [hxx] at HXO HPA
            have e1 : decide ((q : Int) < (os.length : Int)) = true := dT (by omega)
            have e2 : (0 : Int) ≤ (q : Int) := by omega
            have e3 : (q : Int) < (os.length : Int) := by omega
            clear hx hxx
            go_wp2_with fail
            have HBX := Lib.hid (HB.out.still (Touch.refl _ _).drew)
            go_region_held3 (fun w' => w'.cell? ⟨u, 1, none⟩ = some (.pointer (some ⟨t, 0, none⟩)) ∧ w'.cell? ⟨og, oo + q, none⟩ = some (.int .i64 xx)) (first | exact ⟨HBX.out.rc.rp.tk.cell (i := 1) rfl, HXO.out _ HBX.out.pc.t⟩ | exact ⟨HO1.out.2.1.rp.tk.cell (i := 1) rfl, HXO.out _ HO1.out.1.t⟩ | exact ⟨HO2.out.rc.rp.tk.cell (i := 1) rfl, HXO.out _ HO2.out.pc.t⟩)
              ((first
                | (go_at_call 33; refine (p_push (S' := [⟨-1, [], os.take (q + 1)⟩, ⟨0, [], []⟩]) (c := 0) xx (by rw [HPA.out]) (by rw [HPA.out]) HBX.out.pc.ps).mono ?_; rintro e wa ⟨rfl, hp, hta⟩; have HO1 := Lib.hid (HBX.out.one HV0.out hp (HBX.out.pc.tk.touch hta (by have := HBX.out.pc.d; have := HBX.out.ne.2; simp; omega) (by have := HBX.out.pc.d; have := HBX.out.ne.2; simp; omega)) (hta.mono (by intro i hi; simp at hi ⊢; omega))); clear hp hta)
                | (go_at_call 34; refine (q_push (S' := [⟨-1, [], os.take (q + 1)⟩, ⟨0, [], []⟩]) (c := 0) xx (by rw [HPA.out]) (by rw [HPA.out]) HO1.out.2.1.rp).mono ?_; rintro e wb ⟨rfl, H2⟩; have HO2 := Lib.hid (HBX.out.two HV0.out HO1.out.1 HO1.out.2.2 H2.out.1 H2.out.2); clear H2)))
            go_wp2_with fail
            go_roundw
            case rel => exact ⟨q + 1, by omega, by go_num, HO2⟩
            case measure => simp [intOf]; omega
          · obtain rfl : q = os.length := by omega
            rw [List.take_length] at HB
            have e1 : decide ((os.length : Int) < (os.length : Int)) = false := dF (by omega)
            go_wp2_with fail
            go_loopw [23] (fun iv wr => R3 iv (Hid (Bo w wr (⟨a1, n1, c1, a2, n2, c2, a3, n3, c3, rg_, a5, n5, c5, a6, n6, c6, a7, n7, c7, a8, n8, c8, cl⟩ : PV) X0 b k G sb g u t rs rg B base n (n + size) size i v [⟨-1, [], os⟩, ⟨0, [], []⟩])) (Hid (Touch [] w wr))) (fun iv _ => 1 - (intOf iv).toNat)
            case atStart => exact .inl ⟨rfl, HB⟩
            case round =>
              clear HB
              rcases hrel with ⟨rfl, HB⟩ | ⟨rfl, HT⟩
              · have p0 := HB.out.box.cell (i := 0) rfl
                have p1 := HB.out.box.cell (i := 1) rfl
                have p2 := HB.out.box.cell (i := 2) rfl
                have p3 := HB.out.box.cell (i := 3) rfl
                have p4 := HB.out.box.cell (i := 4) rfl
                have p5 := HB.out.box.cell (i := 5) rfl
                have p6 := HB.out.box.cell (i := 6) rfl
                have p7 := HB.out.box.cell (i := 7) rfl
                have p8 := HB.out.box.cell (i := 8) rfl
                rcases HST2.out b k G sb g u t rs rg B base v with ⟨c, nx, v', S', hp, hr, F', r', rfl⟩ | ⟨hp, hr⟩
                · have HDP := Lib.hid (hp _ HB.out.pc)
                  have HRC := Lib.hid hr
                  clear hp hr
                  go_wp2_with fail
                  refine HDP.out.mono ?_
                  rintro e wa ⟨rfl, Ha⟩
                  have HO1 := Lib.hid (HB.out.one HV0.out Ha.out.1 Ha.out.2.1 Ha.out.2.2)
                  clear p0 p1 p2 p3 p4 p5 p6 p7 p8
                  have p0 := HO1.out.2.2.cell (i := 0) rfl
                  have p1 := HO1.out.2.2.cell (i := 1) rfl
                  have p2 := HO1.out.2.2.cell (i := 2) rfl
                  have p3 := HO1.out.2.2.cell (i := 3) rfl
                  have p4 := HO1.out.2.2.cell (i := 4) rfl
                  have p5 := HO1.out.2.2.cell (i := 5) rfl
                  have p6 := HO1.out.2.2.cell (i := 6) rfl
                  have p7 := HO1.out.2.2.cell (i := 7) rfl
                  have p8 := HO1.out.2.2.cell (i := 8) rfl
                  go_wp2_with fail
                  refine (HRC.out _ HO1.out.2.1).mono ?_
                  rintro e wb ⟨rfl, Hb⟩
                  have HB2 := Lib.hid (HB.out.two HV0.out (i' := if c = 0 then nx else i) ⟨HO1.out.1.t, HO1.out.1.vs, HO1.out.1.tk, HO1.out.1.ps, HO1.out.1.d⟩ HO1.out.2.2 Hb.out.1 Hb.out.2)
                  clear p0 p1 p2 p3 p4 p5 p6 p7 p8
                  clear HB Ha Hb HDP HRC HO1
                  by_cases hc0 : c = 0
                  · subst hc0
                    rw [if_pos rfl] at HB2
                    obtain ⟨HB⟩ : Nonempty (Hid (Bo w wb (⟨a1, n1, c1, a2, n2, c2, a3, n3, c3, rg_, a5, n5, c5, a6, n6, c6, a7, n7, c7, a8, n8, c8, cl⟩ : PV) X0 b k G sb g u t rs rg B base n (n + size) size nx v' (F' :: r'))) := ⟨HB2⟩
                    clear HB2
                    have HKS := Lib.hid (HB.out.pc.ps.ks)
                    obtain ⟨ff, hks, hff⟩ := HKS.out
                    have HSA := Lib.hid (same19 b k G u sb g (n + size) n size base t B ff _ _ _ _ hsz HB.out.pc.tk HB.out.rc.rp.tk hks HB.out.rc.rp.ks)
                    clear hks hff HKS
                    go_wp2_with fail
                    refine HSA.out.mono ?_
                    rintro e ws_ ⟨rfl, hts⟩
                    have HB := Lib.hid (HB.out.still hts)
                    clear hts HSA
                    go_wp2_with fail
                    go_loopw [28, 29, 30] (fun iv _ _ wr => ∃ j : Nat, j ≤ n ∧ iv = .int .i64 j ∧ Hid (Bo w wr (⟨a1, n1, c1, a2, n2, c2, a3, n3, c3, rg_, a5, n5, c5, a6, n6, c6, a7, n7, c7, a8, n8, c8, cl⟩ : PV) X0 b k G sb g u t rs rg B base n (n + size) size nx v' (F' :: r'))) (fun iv _ _ _ => n - (intOf iv).toNat)
                    case atStart => exact ⟨0, by omega, rfl, HB⟩
                    case round =>
                      clear HB
                      obtain ⟨j, hj, rfl, HB⟩ := hrel
                      by_cases hjn : j < n
                      · have e1 : decide ((j : Int) < (n : Int)) = true := dT (by omega)
                        have HG := Lib.hid (p_get j hjn rfl HB.out.pc.ps)
                        obtain ⟨fr, hst, hfr⟩ := HB.out.rc.rp.st
                        have r0 := hst.1.cell (i := 0) rfl
                        have r1 := hst.2.1.cell (rowA_get fr (n + size) j (by omega))
                        rw [hfr j hjn] at r1
                        obtain ⟨xx, hxx⟩ : ∃ q, v' j = q := ⟨_, rfl⟩
                        rw [hxx] at HG r1
                        have e2 : (xx != xx) = false := bneF rfl
                        have e3 : (0 : Int) ≤ (j : Int) := by omega
                        have e4 : (j : Int) < ((n + size : Nat) : Int) := by omega
                        clear hst hfr hxx
                        go_wp2_with fail
                        refine HG.out.mono ?_
                        rintro e wg ⟨rfl, rfl⟩
                        go_wp2_with fail
                        go_roundw
                        case rel => exact ⟨j + 1, by omega, by go_num, HB⟩
                        case measure => simp [intOf]; omega
                      · have e1 : decide ((j : Int) < (n : Int)) = false := dF (by omega)
                        go_wp2_with fail
                        go_roundw
                        case rel => exact .inr ⟨rfl, Lib.hid HB.out.pc.t⟩
                        case measure => simp [intOf]
                  · have k1 : decide (c = 0) = false := dF hc0
                    have k2 : (c != c) = false := bneF rfl
                    have k3 : (c != 0) = true := bneT hc0
                    have k4 : ¬ c = 0 := hc0
                    go_wp2_with fail
                    go_ret
                    exact ⟨rfl, HB2.out.pc.t⟩
                · have HDP := Lib.hid (hp _ HB.out.pc)
                  have HRC := Lib.hid hr
                  clear hp hr
                  go_wp2_with fail
                  refine HDP.out.mono ?_
                  rintro e wa ⟨rfl, hta⟩
                  have HB1 := Lib.hid (HB.out.still hta)
                  clear p0 p1 p2 p3 p4 p5 p6 p7 p8
                  clear hta HB
                  have p0 := HB1.out.box.cell (i := 0) rfl
                  have p1 := HB1.out.box.cell (i := 1) rfl
                  have p2 := HB1.out.box.cell (i := 2) rfl
                  have p3 := HB1.out.box.cell (i := 3) rfl
                  have p4 := HB1.out.box.cell (i := 4) rfl
                  have p5 := HB1.out.box.cell (i := 5) rfl
                  have p6 := HB1.out.box.cell (i := 6) rfl
                  have p7 := HB1.out.box.cell (i := 7) rfl
                  have p8 := HB1.out.box.cell (i := 8) rfl
                  go_wp2_with fail
                  refine (HRC.out _ HB1.out.rc).mono ?_
                  rintro e wb ⟨rfl, Hb⟩
                  obtain ⟨HB⟩ : Nonempty (Hid (Bo w wb (⟨a1, n1, c1, a2, n2, c2, a3, n3, c3, rg_, a5, n5, c5, a6, n6, c6, a7, n7, c7, a8, n8, c8, cl⟩ : PV) X0 b k G sb g u t rs rg B base n (n + size) size i v [⟨-1, [], os⟩, ⟨0, [], []⟩])) := ⟨Lib.hid (HB1.out.two HV0.out HB1.out.pc HB1.out.box Hb.out.1 Hb.out.2)⟩
                  clear p0 p1 p2 p3 p4 p5 p6 p7 p8
                  clear HB1 Hb HDP HRC
                  have HKS := Lib.hid (HB.out.pc.ps.ks)
                  obtain ⟨ff, hks, hff⟩ := HKS.out
                  have HSA := Lib.hid (same19 b k G u sb g (n + size) n size base t B ff _ _ _ _ hsz HB.out.pc.tk HB.out.rc.rp.tk hks HB.out.rc.rp.ks)
                  clear hks hff HKS
                  go_wp2_with fail
                  refine HSA.out.mono ?_
                  rintro e ws_ ⟨rfl, hts⟩
                  have HB := Lib.hid (HB.out.still hts)
                  clear hts HSA
                  go_wp2_with fail
                  go_loopw [28, 29, 30] (fun iv _ _ wr => ∃ j : Nat, j ≤ n ∧ iv = .int .i64 j ∧ Hid (Bo w wr (⟨a1, n1, c1, a2, n2, c2, a3, n3, c3, rg_, a5, n5, c5, a6, n6, c6, a7, n7, c7, a8, n8, c8, cl⟩ : PV) X0 b k G sb g u t rs rg B base n (n + size) size i v [⟨-1, [], os⟩, ⟨0, [], []⟩])) (fun iv _ _ _ => n - (intOf iv).toNat)
                  case atStart => exact ⟨0, by omega, rfl, HB⟩
                  case round =>
                    clear HB
                    obtain ⟨j, hj, rfl, HB⟩ := hrel
                    by_cases hjn : j < n
                    · have e1 : decide ((j : Int) < (n : Int)) = true := dT (by omega)
                      have HG := Lib.hid (p_get j hjn rfl HB.out.pc.ps)
                      obtain ⟨fr, hst, hfr⟩ := HB.out.rc.rp.st
                      have r0 := hst.1.cell (i := 0) rfl
                      have r1 := hst.2.1.cell (rowA_get fr (n + size) j (by omega))
                      rw [hfr j hjn] at r1
                      obtain ⟨xx, hxx⟩ : ∃ q, v j = q := ⟨_, rfl⟩
                      rw [hxx] at HG r1
                      have e2 : (xx != xx) = false := bneF rfl
                      have e3 : (0 : Int) ≤ (j : Int) := by omega
                      have e4 : (j : Int) < ((n + size : Nat) : Int) := by omega
                      clear hst hfr hxx
                      go_wp2_with fail
                      refine HG.out.mono ?_
                      rintro e wg ⟨rfl, rfl⟩
                      go_wp2_with fail
                      go_roundw
                      case rel => exact ⟨j + 1, by omega, by go_num, HB⟩
                      case measure => simp [intOf]; omega
                    · have e1 : decide ((j : Int) < (n : Int)) = false := dF (by omega)
                      go_wp2_with fail
                      go_ret
                      exact ⟨rfl, HB.out.pc.t⟩
              · go_wp2_with fail
                go_ret
                exact ⟨rfl, HT.out⟩
end Go.Proofs.YtjfnoondkgjabaaGreatDoor

set_option linter.unusedVariables false
set_option maxRecDepth 100000
namespace Go.Proofs.YtjfnoondkgjabaaGreatDoor
open Go.RowKit Go.BigFrame

def awC : Array Value := #[.int .i64 2, .int .i64 2, .int .i64 0, .int .i64 2, .int .i64 3, .int .i64 0, .int .i64 10, .int .i64 0, .int .i64 0, .int .i64 38, .int .i64 0, .int .i64 0, .int .i64 27, .int .i64 0, .int .i64 0]
def awP (Z : Nat) : PV := ⟨some ⟨Z, 0, none⟩, 5, 5, some ⟨Z + 1, 0, none⟩, 1, 1, none, 0, 0, 0, none, 0, 0, none, 0, 0, some ⟨Z + 1 + 1, 0, none⟩, 1, 1, none, 0, 0, 0⟩
def awW (w : World) : World := (((w.alloc (.cells awC 42)).alloc (.cells #[.int .i64 0, .int .i64 0, .int .i64 0] 44)).alloc (.cells #[.slice none 0 0] 25)).alloc (.cells (awP w.heap.size).c 29)
structure AwS (w0 w : World) (Z b k G sb g : Nat) (at' : Int) (S : List Frm) : Prop where
  tk : Tk w b k G at'
  ps : Ps w k sb g 10 0 10 (fun _ => 0) S
  code : Blk w Z awC 42
  prog : Blk w (Z + 1 + 1 + 1) (awP Z).c 29
  t : Touch [] w0 w
  n : w0.heap.size ≤ b ∧ w0.heap.size ≤ k ∧ w0.heap.size ≤ sb ∧ w0.heap.size ≤ g ∧ w0.heap.size ≤ G
  z : Z + 3 < b ∧ Z + 3 < k ∧ Z + 3 < sb ∧ Z + 3 < g ∧ Z + 3 < G
  d : b ≠ k ∧ b ≠ g ∧ b ≠ sb ∧ G ≠ k ∧ G ≠ g ∧ G ≠ sb ∧ b ≠ G
section
variable {w0 w w' : World} {Z b k G sb g : Nat} {at' : Int} {S : List Frm}
theorem AwS.still (h : AwS w0 w Z b k G sb g at' S) (ht : Touch [] w w') : AwS w0 w' Z b k G sb g at' S :=
  ⟨h.tk.touch ht (by simp) (by simp), h.ps.still ht, h.code.touch ht (by simp), h.prog.touch ht (by simp), h.t.trans ht, h.n, h.z, h.d⟩
theorem AwS.next (h : AwS w0 w Z b k G sb g at' S) {at2 : Int} {S2 : List Frm} (h1 : Ps w' k sb g 10 0 10 (fun _ => 0) S2) (h2 : Tk w' b k G at2) (ht : Touch [k, g, b] w w') : AwS w0 w' Z b k G sb g at2 S2 := by
  have hn := h.n
  have hz := h.z
  refine ⟨h2, h1, h.code.touch ht (by simp; omega), h.prog.touch ht (by simp; omega), h.t.transF ht (fun i hi hlt => ?_), h.n, h.z, h.d⟩
  simp at hi; omega
theorem AwS.at (h : AwS w0 w Z b k G sb g at' S) (i : Nat) (hi : i < 5) (x y z : Int) (h0 : awC[i * 3]? = some (.int .i64 x)) (h1 : awC[i * 3 + 1]? = some (.int .i64 y)) (h2 : awC[i * 3 + 2]? = some (.int .i64 z)) :
    ∀ w', Touch [] w w' → w'.cell? ⟨Z, 0 + i * 3, none⟩ = some (.int .i64 x) ∧ w'.cell? ⟨Z, 0 + i * 3 + 1, none⟩ = some (.int .i64 y) ∧ w'.cell? ⟨Z, 0 + i * 3 + 2, none⟩ = some (.int .i64 z) := fun w' t => by
  have hb := h.code.touch t (by simp)
  refine ⟨hb.cell (by rw [Nat.zero_add]; exact h0), hb.cell (by rw [Nat.zero_add]; exact h1), hb.cell (by rw [Nat.zero_add]; exact h2)⟩
theorem AwS.cells (h : AwS w0 w Z b k G sb g at' S) : w.cell? ⟨Z + 1 + 1 + 1, 0, none⟩ = some (.slice (some ⟨Z, 0, none⟩) 5 5) ∧ w.cell? ⟨Z + 1 + 1 + 1, 1, none⟩ = some (.slice (some ⟨Z + 1, 0, none⟩) 1 1) ∧ w.cell? ⟨Z + 1 + 1 + 1, 2, none⟩ = some (.slice none 0 0) ∧ w.cell? ⟨Z + 1 + 1 + 1, 3, none⟩ = some (.int .i64 0) ∧ w.cell? ⟨Z + 1 + 1 + 1, 4, none⟩ = some (.slice none 0 0) ∧ w.cell? ⟨Z + 1 + 1 + 1, 5, none⟩ = some (.slice none 0 0) ∧ w.cell? ⟨Z + 1 + 1 + 1, 6, none⟩ = some (.slice (some ⟨Z + 1 + 1, 0, none⟩) 1 1) ∧ w.cell? ⟨Z + 1 + 1 + 1, 7, none⟩ = some (.slice none 0 0) ∧ w.cell? ⟨Z + 1 + 1 + 1, 8, none⟩ = some (.int .i64 0) :=
  ⟨h.prog.cell (i := 0) rfl, h.prog.cell (i := 1) rfl, h.prog.cell (i := 2) rfl, h.prog.cell (i := 3) rfl, h.prog.cell (i := 4) rfl, h.prog.cell (i := 5) rfl, h.prog.cell (i := 6) rfl, h.prog.cell (i := 7) rfl, h.prog.cell (i := 8) rfl⟩
end
def AwD (w0 : World) (Z b k G sb g : Nat) (at' : Int) (S : List Frm) (e : Ending) (w' : World) : Prop := e = .returned (.tuple #[.bool true, .int .i64 0]) ∧ Hid (AwS w0 w' Z b k G sb g at' S)
section
variable {w0 w : World} {Z b k G sb g : Nat}
theorem aw_push {F : Frm} {r S' : List Frm} (i : Nat) (hi : i < 5) (x : Int) (h0 : awC[i * 3]? = some (.int .i64 2)) (h1 : awC[i * 3 + 1]? = some (.int .i64 x)) (h2 : awC[i * 3 + 2]? = some (.int .i64 0)) (hp : (pushM 10 x (F :: r)).1 = 0) (hS : (pushM 10 x (F :: r)).2 = S') (h : AwS w0 w Z b k G sb g i (F :: r)) :
    Calls Tryz.prog 15 #[.pointer (some ⟨b, 0, none⟩), .agg (awP Z).c, .pointer (some ⟨sb, 0, none⟩)] w (AwD w0 Z b k G sb g ((i : Int) + 1) S') := by
  obtain ⟨d1, d2, d3, d4, d5, d6, d7⟩ := h.d
  have hl := h.ps.lt
  refine (do_row (p := awP Z) (o := 2) (a := x) (bb := 0) (v' := fun _ => 0) (S' := S') (c := 0) (nx := (i : Int) + 1) hi (by show (5 : Nat) ≤ _; omega) rfl (h.at i hi 2 x 0 h0 h1 h2) (by omega) (fn := 68) rfl (by omega) h.tk h.ps d1 d2 d3 d4 d5 ?_).mono ?_
  · intro W w' hW ht hb
    exact row_push hp hS (h.tk.touch ht (by simp) (by simp)) hb (h.ps.still ht) (by omega) (by omega)
  · rintro e w' ⟨rfl, H⟩
    exact ⟨rfl, Lib.hid (h.next H.out.1 H.out.2.1 H.out.2.2)⟩
theorem aw_sub {F F1 F2 : Frm} {r S' : List Frm} (hv : Vs w) (x y z : Int) (h1 : popM (F :: r) = (y, 0, F1 :: r)) (h2 : popM (F1 :: r) = (x, 0, F2 :: r)) (ix : InI x) (iy : InI y) (hz : doV 10 x y = z) (hd : doC 10 x y = 0) (hp : (pushM 10 z (F2 :: r)).1 = 0) (hS : (pushM 10 z (F2 :: r)).2 = S') (h : AwS w0 w Z b k G sb g ((2 : Nat) : Int) (F :: r)) :
    Calls Tryz.prog 15 #[.pointer (some ⟨b, 0, none⟩), .agg (awP Z).c, .pointer (some ⟨sb, 0, none⟩)] w (AwD w0 Z b k G sb g 3 S') := by
  obtain ⟨d1, d2, d3, d4, d5, d6, d7⟩ := h.d
  have hl := h.ps.lt
  refine (do_row (p := awP Z) (i := 2) (o := 10) (a := 0) (bb := 0) (v' := fun _ => 0) (S' := S') (c := 0) (nx := 3) (by show 2 < 5; omega) (by show (5 : Nat) ≤ _; omega) rfl (h.at 2 (by omega) 10 0 0 rfl rfl rfl) (by omega) (fn := 78) rfl (by omega) h.tk h.ps d1 d2 d3 d4 d5 ?_).mono ?_
  · intro W w' hW ht hb
    refine (compute2 (c := 0) (hv.touch ht) (by rfl) h1 h2 ix iy hz hd (fun _ => hp) (fun _ => hS) (fun e => absurd rfl e) (h.tk.touch ht (by simp) (by simp)) hb (h.ps.still ht) (by omega) (by omega) d1 d2).mono ?_
    intro e w2 hc
    exact hc.row hb (by omega) (by omega)
  · rintro e w' ⟨rfl, H⟩
    exact ⟨rfl, Lib.hid (h.next H.out.1 H.out.2.1 H.out.2.2)⟩
end
set_option maxRecDepth 100000 in
set_option maxHeartbeats 16000000 in
theorem awake19 (w : World) (hv : Vs w) : Calls Tryz.prog 5 #[] w fun e w' => e = .returned (.bool true) ∧ Touch [] w w' := by
  obtain ⟨ji, hji⟩ := Option.isSome_iff_exists.1 (by kernel_rfl : (Tryz.prog.info? 88).isSome = true)
  have hpe := fun (a : Addr) (w : World) => run_eql_ptr_same w a Tryz.underlying48 hji
  clear hji
  have HV := Lib.hid hv
  have hA : Blk (awW w) w.heap.size awC 42 ∧ Blk (awW w) (w.heap.size + 1 + 1 + 1) (awP w.heap.size).c 29 ∧ Touch [] w (awW w) ∧ (awW w).heap.size = w.heap.size + 4 :=
    ⟨(((Blk.new rfl).alloc _).alloc _).alloc _, Blk.new (by simp), ((((Touch.refl [] w).alloc _).alloc _).alloc _).alloc _, by simp [awW]⟩
  have hs0 := hA.2.2.1
  go_enter Tryz.func5, Tryz.ntmps5
  go_wp2_with fail
  change Calls _ _ _ (awW w) _
  obtain ⟨W1, hW1⟩ : ∃ x, awW w = x := ⟨_, rfl⟩
  rw [hW1] at hA ⊢
  obtain ⟨Z, hZ⟩ : ∃ z, w.heap.size = z := ⟨_, rfl⟩
  have HZ := Lib.hid hZ
  rw [hZ] at hA ⊢
  have HA := Lib.hid hA
  clear hA hs0 hW1 hZ hv
  refine (snew_ok 10 (by omega) _).mono ?_
  rintro e w1 ⟨sb, g, rfl, hst, hsb, hg, ht⟩
  have HS := Lib.hid hst
  have HT := Lib.hid ht
  have HB : Hid (Z + 3 < sb ∧ Z + 3 < g) := Lib.hid (by have := HA.out.2.2.2; omega)
  clear hst ht hsb hg
  go_wp2_with fail
  refine (knew_yes sb g 10 0 10 (fun _ => 0) _ HS.out (by omega) (by omega)).mono ?_
  rintro e w2 ⟨rfl, hk, ht⟩
  have HK := Lib.hid hk
  have HKZ : Hid (Z + 3 < w1.heap.size) := Lib.hid (by have := HA.out.2.2.2; have := HT.out.size; omega)
  have HT2 := Lib.hid (HT.out.trans ht)
  obtain ⟨k, hkk⟩ : ∃ k, w1.heap.size = k := ⟨_, rfl⟩
  rw [hkk] at HK HKZ ⊢
  clear hk ht HS HT hkk
  go_wp2_with fail
  refine (tnew_any k 0 _).mono ?_
  rintro e w3 ⟨b, G, rfl, HN⟩
  have HP0 : Hid (AwS w w3 Z b k G sb g 0 [⟨0, [], []⟩]) := Lib.hid (by
    obtain ⟨n1, n2, n3, n4⟩ := HN.out
    obtain ⟨a1, a2, a3, a4⟩ := HA.out
    have hp := (ps_new HK.out)
    have hl := hp.lt
    have hz := HZ.out
    have hb := HB.out
    have hkz := HKZ.out
    have ha4 : w2.heap.size ≥ Z + 4 := by have := HT2.out.size; omega
    have hps3 := hp.still n4
    refine ⟨n1, hps3, (a1.touch HT2.out (by simp)).touch n4 (by simp), (a2.touch HT2.out (by simp)).touch n4 (by simp), (a3.trans HT2.out).trans n4, by omega, by omega, ?_⟩
    have := n1.ne
    omega)
  clear HN HK HKZ HB HA
  go_wp2_with fail
  refine (tnew_nil 0 _).mono ?_
  rintro e w4 ⟨rfl, rfl⟩
  go_wp2_with fail
  refine (p_call (S' := [⟨-1, [], []⟩, ⟨0, [], []⟩]) (c := 0) (-1) 0 0 (by omega) (by rfl) (by rfl) HP0.out.ps).mono ?_
  rintro e w4 ⟨rfl, hp, ht⟩
  have HP1 : Hid (AwS w w4 Z b k G sb g ((0 : Nat) : Int) [⟨-1, [], []⟩, ⟨0, [], []⟩]) := Lib.hid (HP0.out.next hp (HP0.out.tk.touch ht (by have := HP0.out.d; simp; omega) (by have := HP0.out.d; simp; omega)) (ht.mono (by intro i hi; simp at hi ⊢; omega)))
  clear hp ht HP0
  obtain ⟨x0, x1, x2, x3, x4, x5, x6, x7, x8⟩ := HP1.out.cells
  go_wp2_with fail
  change Calls _ _ #[_, .agg (awP Z).c, _] _ _
  refine (aw_push (S' := [⟨-1, [], [2]⟩, ⟨0, [], []⟩]) 0 (by omega) 2 rfl rfl rfl (by rfl) (by rfl) HP1.out).mono ?_
  rintro e w5 ⟨rfl, HP2⟩
  clear x0 x1 x2 x3 x4 x5 x6 x7 x8
  obtain ⟨x0, x1, x2, x3, x4, x5, x6, x7, x8⟩ := HP2.out.cells
  go_wp2_with fail
  change Calls _ _ #[_, .agg (awP Z).c, _] _ _
  refine (aw_push (S' := [⟨-1, [], [2, 3]⟩, ⟨0, [], []⟩]) 1 (by omega) 3 rfl rfl rfl (by rfl) (by rfl) HP2.out).mono ?_
  rintro e w6 ⟨rfl, HP3⟩
  clear x0 x1 x2 x3 x4 x5 x6 x7 x8
  obtain ⟨x0, x1, x2, x3, x4, x5, x6, x7, x8⟩ := HP3.out.cells
  go_wp2_with fail
  change Calls _ _ #[_, .agg (awP Z).c, _] _ _
  refine (aw_sub (F1 := ⟨-1, [], [2]⟩) (F2 := ⟨-1, [], []⟩) (S' := [⟨-1, [], [-1]⟩, ⟨0, [], []⟩]) (HV.out.touch HP3.out.t) 2 3 (-1) rfl rfl (by decide) (by decide) (by decide) (by decide) (by rfl) (by rfl) HP3.out).mono ?_
  rintro e w7 ⟨rfl, HP4⟩
  clear x0 x1 x2 x3 x4 x5 x6 x7 x8
  go_wp2_with fail
  refine (p_top (F := ⟨-1, [], [-1]⟩) (r := [⟨0, [], []⟩]) (x := -1) (b := true) 0 (by rfl) (by rfl) HP4.out.ps).mono ?_
  rintro e w8 ⟨rfl, ht⟩
  have HP5 := Lib.hid (HP4.out.still ht)
  clear ht
  obtain ⟨x0, x1, x2, x3, x4, x5, x6, x7, x8⟩ := HP5.out.cells
  go_wp2_with fail
  change Calls _ _ #[_, .agg (awP Z).c, _] _ _
  refine (do_kern (p := awP Z) (i := 3) (o := 38) (a := 0) (bb := 0) (g1 := Z) (o1 := 0) (by show 3 < 5; omega) (by show (5 : Nat) ≤ _; omega) rfl (HP5.out.at 3 (by omega) 38 0 0 rfl rfl rfl) (by omega) HP5.out.tk HP5.out.ps).mono ?_
  rintro e w9 ⟨rfl, ht⟩
  have HP6 := Lib.hid (HP5.out.still ht)
  clear ht x0 x1 x2 x3 x4 x5 x6 x7 x8
  go_wp2_with fail
  refine (at_any b k G 3 _ HP6.out.tk).mono ?_
  rintro e w10 ⟨rfl, rfl⟩
  go_wp2_with fail
  refine (goto_any b k G 3 1 _ HP6.out.tk).mono ?_
  rintro e w10 ⟨rfl, htk, ht⟩
  have HP7 := Lib.hid (HP6.out.next (HP6.out.ps.touch ht (by have := HP6.out.d; simp; omega) (by have := HP6.out.d; simp; omega) (by have := HP6.out.d; simp; omega)) htk (ht.mono (by intro i hi; simp at hi ⊢; omega)))
  clear htk ht
  go_wp2_with fail
  refine (at_any b k G 1 _ HP7.out.tk).mono ?_
  rintro e w11 ⟨rfl, rfl⟩
  go_wp2_with fail
  refine (stack_any b k G 1 _ HP7.out.tk).mono ?_
  rintro e w11 ⟨rfl, rfl⟩
  go_wp2_with fail
  go_ret
  exact ⟨rfl, HP7.out.t⟩
end Go.Proofs.YtjfnoondkgjabaaGreatDoor
