/-
  The reference's Decode: the walk.
-/
import Derived.Test.YtoedkomckgidiaaCQ5
import Derived.Deep.Cut
import Derived.Deep.RegionLaw
set_option linter.unusedVariables false
namespace Go.Proofs.Ytoedkomckgidiaa
open Go Go.RowKit

theorem step_append_run {P : Program} {ops : Array Oper} {o : Oper} {a : Act} {w : World} {K : Act → World → Prop} {Q : Exit → Act → World → Prop} {E : Prop} (hgd : o.guard = none) (s x : Operand) (t tx : TypeId)
    (ho : o.op = .call { callee := .builtin .append, args := #[s, x], argTypes := #[t, tx] }) (vs vx : Value) (hs : a.eval s = vs) (hx : a.eval x = vx) (v' : Value) (w' : World)
    (hr : (Builtin.append_ #[t, tx] o.type #[vs, vx]).run P w = .ok v' w') (h : K (a.put o.dst v') w') : if Region.wanted o (yielded ops a.tmps) = true then Oper.wp P o a w K Q else E := by
  have hw : Region.wanted o (yielded ops a.tmps) = true := by simp [Region.wanted, hgd]
  rw [if_pos hw]
  unfold Oper.wp execOp
  simp only [ho, resolve, invoke, builtin, Sem.run_bind, Sem.run_pure, Result.andThen_ok, List.map_toArray, List.map_cons, List.map_nil, hs, hx, hr]
  exact h
theorem take2 {D : List Nat} (h : 2 ≤ D.length) : D.take 2 = [D.getD 0 0, D.getD 1 0] := by
  cases D with
  | nil => simp at h
  | cons a l => cases l with
    | nil => simp at h
    | cons b l => simp
theorem nums0 (D : List Nat) (s : Option Nat) : nums_ D s 0 = [] := by unfold nums_; simp
theorem rows0 (D : List Nat) (s : Option Nat) (c : Nat) : rows_ D s c 0 = [] := by unfold rows_; simp
theorem cn_go (D : List Nat) (m : Nat) (st : Option Nat) : cn_ D m st = go_ D 2 st ∨ ct_ D m st = 0 := by
  cases hc : cn_ D m st with
  | none => exact .inr (by unfold ct_; rw [hc]; rfl)
  | some q =>
    left
    unfold cn_ at hc
    cases hg : go_ D 2 st with
    | none => rw [hg] at hc; cases hc
    | some o =>
      rw [hg] at hc
      dsimp only at hc
      split at hc
      · exact hc.symm
      · cases hc
theorem ct_rl {D : List Nat} (hDb : ∀ x ∈ D, x < 256) {m q : Nat} {st : Option Nat} (h : rl_ D m 65535 st = some q) : ct_ D m st = un_ D 2 st := by
  rw [← rr_rl hDb] at h
  cases hc : cn_ D m st with
  | none => rw [hc] at h; cases h
  | some o => exact ct_un hc
set_option maxHeartbeats 64000000 in
set_option maxRecDepth 100000 in
theorem rdec_any (D : List Nat) (v : Value) (w : World) (hv : Bs w v D) (hD : D.length ≤ 1000000) (hDb : ∀ x ∈ D, x < 256) :
    Calls Try.prog 17 #[v] w (DecR D w) := by
  have HD := Lib.hid hD
  have HDB := Lib.hid hDb
  obtain ⟨a, c, rfl⟩ := hv.form
  obtain ⟨L, hL⟩ : ∃ L, D.length = L := ⟨_, rfl⟩
  have HL := Lib.hid hL
  rw [hL] at hD hv
  have HBS := Lib.hid hv
  have hown : 2 ≤ L → ∀ k, (Value.slice a L c).ownBlock = some k → k < w.heap.size := by
    intro h2
    obtain ⟨a', c', he, hc, h | ⟨g, off, rfl, hg, _⟩⟩ := hv
    · subst h; simp at hL; omega
    · cases he; intro k hk; simp [Value.ownBlock] at hk; subst hk; exact hg
  have HOWN := Lib.hid hown
  rw [hL]
  have ht0 : Touch [] w (w.alloc (.cells #[.slice none 0 0, .slice none 0 0, .slice none 0 0, .int .i64 0, .slice none 0 0, .slice none 0 0, .slice none 0 0, .slice none 0 0, .int .i64 0] 29)) := (Touch.refl [] w).alloc _
  have hb0 : Blk (w.alloc (.cells #[.slice none 0 0, .slice none 0 0, .slice none 0 0, .int .i64 0, .slice none 0 0, .slice none 0 0, .slice none 0 0, .slice none 0 0, .int .i64 0] 29)) w.heap.size #[.slice none 0 0, .slice none 0 0, .slice none 0 0, .int .i64 0, .slice none 0 0, .slice none 0 0, .slice none 0 0, .slice none 0 0, .int .i64 0] 29 := Blk.new rfl
  obtain ⟨RB, hRB⟩ : ∃ b, w.heap.size = b := ⟨_, rfl⟩
  have hs1 : (w.alloc (.cells #[.slice none 0 0, .slice none 0 0, .slice none 0 0, .int .i64 0, .slice none 0 0, .slice none 0 0, .slice none 0 0, .slice none 0 0, .int .i64 0] 29)).heap.size = RB + 1 := by rw [← hRB]; simp
  obtain ⟨w1, hw1⟩ : ∃ x, w.alloc (.cells #[.slice none 0 0, .slice none 0 0, .slice none 0 0, .int .i64 0, .slice none 0 0, .slice none 0 0, .slice none 0 0, .slice none 0 0, .int .i64 0] 29) = x := ⟨_, rfl⟩
  rw [hw1, hRB] at hb0
  rw [hw1] at ht0 hs1
  have HRB := Lib.hid hRB
  have HB0 := Lib.hid hb0
  have HT0 := Lib.hid ht0
  have HV1 : Hid (Bs w1 (.slice a L c) D) := Lib.hid (HBS.out.touch ht0 (by simp))
  clear hv hDb hL hown hb0 ht0
  by_cases hl2 : L < 2
  · skip
    have hl3 : decide ((L : Int) < 2) = true := dT (by omega)
    have HNO : Hid (¬ DecOk D) := Lib.hid (fun h => by have := congrArg List.length h.1; rw [List.length_take, HL.out] at this; simp at this; omega)
    have zz := HB0.out
    have r0_ := zz.cell (i := 0) rfl
    have g0_ := zz.free 0
    have r1_ := zz.cell (i := 1) rfl
    have g1_ := zz.free 1
    have r2_ := zz.cell (i := 2) rfl
    have g2_ := zz.free 2
    have r3_ := zz.cell (i := 3) rfl
    have g3_ := zz.free 3
    have r4_ := zz.cell (i := 4) rfl
    have g4_ := zz.free 4
    have r5_ := zz.cell (i := 5) rfl
    have g5_ := zz.free 5
    have r6_ := zz.cell (i := 6) rfl
    have g6_ := zz.free 6
    have r7_ := zz.cell (i := 7) rfl
    have g7_ := zz.free 7
    have r8_ := zz.cell (i := 8) rfl
    have g8_ := zz.free 8
    have HTT : Hid (Touch [RB, RB + 1, RB + 1 + 1] w w1) := Lib.hid (HT0.out.mono (by simp))
    (try clear HCX); (try clear HPX); (try clear HN3); (try clear HN8); (try clear HK1); (try clear HK2); (try clear HK3); (try clear HK5); (try clear HK6); (try clear HK7); (try clear HK8); (try clear HE1); (try clear HE2); (try clear HE3); (try clear HE5); (try clear HE6); (try clear HE7); (try clear HE8); (try clear HL1); (try clear HL2); (try clear HL3); (try clear HL5); (try clear HL6); (try clear HL7); (try clear HL8); (try clear HZ1); (try clear HZ2); (try clear HZ3); (try clear HZ5); (try clear HZ6); (try clear HZ7); (try clear HZ8); (try clear HN3); (try clear HN8); (try clear HRX); (try clear HPX); (try clear HCC); (try clear HCH); (try clear HO9); (try clear HD); (try clear HDB); (try clear HBS); (try clear HL); (try clear HOWN); (try clear HV1); (try clear HOW); (try clear HSB); (try clear HPG); (try clear HPM); (try clear hs); (try clear hTX); (try clear HTX); (try clear HTW); (try clear HB1); (try clear HB0); (try clear HT0); (try clear HBM); (try clear HTM); (try clear hmay); (try clear hown)
    go_enter Try.func17, Try.ntmps17
    go_wp2_with fail
    have hbF : Blk _ RB #[.slice none 0 0, .slice none 0 0, .slice none 0 0, .int .i64 0, .slice none 0 0, .slice none 0 0, .slice none 0 0, .slice none 0 0, .int .i64 0] 29 := (((((((((zz.set 0 (.slice none 0 0)).set 1 (.slice none 0 0)).set 2 (.slice none 0 0)).set 3 (.int .i64 0)).set 4 (.slice none 0 0)).set 5 (.slice none 0 0)).set 6 (.slice none 0 0)).set 7 (.slice none 0 0)).set 8 (.int .i64 0))
    have htF : Touch [] w _ := Touch.fresh (S := [RB, RB + 1, RB + 1 + 1]) (HTT.out.trans (((((((((((Touch.refl [RB] w1).setCell (p := ⟨RB, 0, none⟩) (by simp) (.slice none 0 0)).setCell (p := ⟨RB, 1, none⟩) (by simp) (.slice none 0 0)).setCell (p := ⟨RB, 2, none⟩) (by simp) (.slice none 0 0)).setCell (p := ⟨RB, 3, none⟩) (by simp) (.int .i64 0)).setCell (p := ⟨RB, 4, none⟩) (by simp) (.slice none 0 0)).setCell (p := ⟨RB, 5, none⟩) (by simp) (.slice none 0 0)).setCell (p := ⟨RB, 6, none⟩) (by simp) (.slice none 0 0)).setCell (p := ⟨RB, 7, none⟩) (by simp) (.slice none 0 0)).setCell (p := ⟨RB, 8, none⟩) (by simp) (.int .i64 0)).mono (by simp))) (fun k hk hlt => by have := HRB.out; simp at hk; omega)
    obtain ⟨W, hW⟩ : ∃ W, (((((((((w1.setCell ⟨RB, 0, none⟩ (.slice none 0 0)).setCell ⟨RB, 1, none⟩ (.slice none 0 0)).setCell ⟨RB, 2, none⟩ (.slice none 0 0)).setCell ⟨RB, 3, none⟩ (.int .i64 0)).setCell ⟨RB, 4, none⟩ (.slice none 0 0)).setCell ⟨RB, 5, none⟩ (.slice none 0 0)).setCell ⟨RB, 6, none⟩ (.slice none 0 0)).setCell ⟨RB, 7, none⟩ (.slice none 0 0)).setCell ⟨RB, 8, none⟩ (.int .i64 0)) = W := ⟨_, rfl⟩
    rw [hW] at hbF htF ⊢
    have HTF := Lib.hid htF
    have q0_ := hbF.cell (i := 0) rfl
    have q1_ := hbF.cell (i := 1) rfl
    have q2_ := hbF.cell (i := 2) rfl
    have q3_ := hbF.cell (i := 3) rfl
    have q4_ := hbF.cell (i := 4) rfl
    have q5_ := hbF.cell (i := 5) rfl
    have q6_ := hbF.cell (i := 6) rfl
    have q7_ := hbF.cell (i := 7) rfl
    have q8_ := hbF.cell (i := 8) rfl
    clear r0_ g0_ r1_ g1_ r2_ g2_ r3_ g3_ r4_ g4_ r5_ g5_ r6_ g6_ r7_ g7_ r8_ g8_ zz hbF htF hW
    (try simp only [Exit.inBlock, Exit.then]); refine bodyPost_ret (by simp [results, Try.results17, go_sem, q0_, q1_, q2_, q3_, q4_, q5_, q6_, q7_, q8_]; try rfl) rfl ?_
    exact ⟨_, 5, rfl, HTF.out, .inr ⟨HNO.out, rfl, zero_pg _⟩⟩
  have hl3 : decide ((L : Int) < 2) = false := dF (by omega)
  obtain ⟨g, off, rfl, hg, hc0⟩ := HV1.out.ix (i := 0) (by rw [HL.out]; omega)
  obtain ⟨g', off', he, hg', hc1⟩ := HV1.out.ix (i := 1) (by rw [HL.out]; omega)
  cases he
  have x0_ := hc0 [] w1 (Touch.refl [] w1) (by simp)
  have x1_ := hc1 [] w1 (Touch.refl [] w1) (by simp)
  rw [Nat.add_zero] at x0_
  have HTK : Hid (D.take 2 = [D.getD 0 0, D.getD 1 0]) := Lib.hid (take2 (by rw [HL.out]; omega))
  obtain ⟨y0, hy0⟩ : ∃ y, D.getD 0 0 = y := ⟨_, rfl⟩
  obtain ⟨y1, hy1⟩ : ∃ y, D.getD 1 0 = y := ⟨_, rfl⟩
  rw [hy0] at x0_ HTK
  rw [hy1] at x1_ HTK
  have HOW := Lib.hid (HOWN.out (by omega))
  have h0i : (0 : Int) < (L : Int) := by omega
  have h1i : (1 : Int) < (L : Int) := by omega
  clear hc0 hc1 hy0 hy1 hg'
  by_cases e0 : y0 = 83
  case neg =>
    have n0 : ((y0 : Int) != 83) = true := by simp; omega
    have HNO : Hid (¬ DecOk D) := Lib.hid (fun h => by have := h.1; rw [HTK.out] at this; simp at this; omega)
    have zz := HB0.out
    have r0_ := zz.cell (i := 0) rfl
    have g0_ := zz.free 0
    have r1_ := zz.cell (i := 1) rfl
    have g1_ := zz.free 1
    have r2_ := zz.cell (i := 2) rfl
    have g2_ := zz.free 2
    have r3_ := zz.cell (i := 3) rfl
    have g3_ := zz.free 3
    have r4_ := zz.cell (i := 4) rfl
    have g4_ := zz.free 4
    have r5_ := zz.cell (i := 5) rfl
    have g5_ := zz.free 5
    have r6_ := zz.cell (i := 6) rfl
    have g6_ := zz.free 6
    have r7_ := zz.cell (i := 7) rfl
    have g7_ := zz.free 7
    have r8_ := zz.cell (i := 8) rfl
    have g8_ := zz.free 8
    have HTT : Hid (Touch [RB, RB + 1, RB + 1 + 1] w w1) := Lib.hid (HT0.out.mono (by simp))
    (try clear HCX); (try clear HPX); (try clear HN3); (try clear HN8); (try clear HK1); (try clear HK2); (try clear HK3); (try clear HK5); (try clear HK6); (try clear HK7); (try clear HK8); (try clear HE1); (try clear HE2); (try clear HE3); (try clear HE5); (try clear HE6); (try clear HE7); (try clear HE8); (try clear HL1); (try clear HL2); (try clear HL3); (try clear HL5); (try clear HL6); (try clear HL7); (try clear HL8); (try clear HZ1); (try clear HZ2); (try clear HZ3); (try clear HZ5); (try clear HZ6); (try clear HZ7); (try clear HZ8); (try clear HN3); (try clear HN8); (try clear HRX); (try clear HPX); (try clear HCC); (try clear HCH); (try clear HO9); (try clear HD); (try clear HDB); (try clear HBS); (try clear HL); (try clear HOWN); (try clear HV1); (try clear HOW); (try clear HSB); (try clear HPG); (try clear HPM); (try clear hs); (try clear hTX); (try clear HTX); (try clear HTW); (try clear HB1); (try clear HB0); (try clear HT0); (try clear HBM); (try clear HTM); (try clear hmay); (try clear hown)
    go_enter Try.func17, Try.ntmps17
    go_wp2_with fail
    have hbF : Blk _ RB #[.slice none 0 0, .slice none 0 0, .slice none 0 0, .int .i64 0, .slice none 0 0, .slice none 0 0, .slice none 0 0, .slice none 0 0, .int .i64 0] 29 := (((((((((zz.set 0 (.slice none 0 0)).set 1 (.slice none 0 0)).set 2 (.slice none 0 0)).set 3 (.int .i64 0)).set 4 (.slice none 0 0)).set 5 (.slice none 0 0)).set 6 (.slice none 0 0)).set 7 (.slice none 0 0)).set 8 (.int .i64 0))
    have htF : Touch [] w _ := Touch.fresh (S := [RB, RB + 1, RB + 1 + 1]) (HTT.out.trans (((((((((((Touch.refl [RB] w1).setCell (p := ⟨RB, 0, none⟩) (by simp) (.slice none 0 0)).setCell (p := ⟨RB, 1, none⟩) (by simp) (.slice none 0 0)).setCell (p := ⟨RB, 2, none⟩) (by simp) (.slice none 0 0)).setCell (p := ⟨RB, 3, none⟩) (by simp) (.int .i64 0)).setCell (p := ⟨RB, 4, none⟩) (by simp) (.slice none 0 0)).setCell (p := ⟨RB, 5, none⟩) (by simp) (.slice none 0 0)).setCell (p := ⟨RB, 6, none⟩) (by simp) (.slice none 0 0)).setCell (p := ⟨RB, 7, none⟩) (by simp) (.slice none 0 0)).setCell (p := ⟨RB, 8, none⟩) (by simp) (.int .i64 0)).mono (by simp))) (fun k hk hlt => by have := HRB.out; simp at hk; omega)
    obtain ⟨W, hW⟩ : ∃ W, (((((((((w1.setCell ⟨RB, 0, none⟩ (.slice none 0 0)).setCell ⟨RB, 1, none⟩ (.slice none 0 0)).setCell ⟨RB, 2, none⟩ (.slice none 0 0)).setCell ⟨RB, 3, none⟩ (.int .i64 0)).setCell ⟨RB, 4, none⟩ (.slice none 0 0)).setCell ⟨RB, 5, none⟩ (.slice none 0 0)).setCell ⟨RB, 6, none⟩ (.slice none 0 0)).setCell ⟨RB, 7, none⟩ (.slice none 0 0)).setCell ⟨RB, 8, none⟩ (.int .i64 0)) = W := ⟨_, rfl⟩
    rw [hW] at hbF htF ⊢
    have HTF := Lib.hid htF
    have q0_ := hbF.cell (i := 0) rfl
    have q1_ := hbF.cell (i := 1) rfl
    have q2_ := hbF.cell (i := 2) rfl
    have q3_ := hbF.cell (i := 3) rfl
    have q4_ := hbF.cell (i := 4) rfl
    have q5_ := hbF.cell (i := 5) rfl
    have q6_ := hbF.cell (i := 6) rfl
    have q7_ := hbF.cell (i := 7) rfl
    have q8_ := hbF.cell (i := 8) rfl
    clear r0_ g0_ r1_ g1_ r2_ g2_ r3_ g3_ r4_ g4_ r5_ g5_ r6_ g6_ r7_ g7_ r8_ g8_ zz hbF htF hW
    (try simp only [Exit.inBlock, Exit.then]); refine bodyPost_ret (by simp [results, Try.results17, go_sem, q0_, q1_, q2_, q3_, q4_, q5_, q6_, q7_, q8_]; try rfl) rfl ?_
    exact ⟨_, 5, rfl, HTF.out, .inr ⟨HNO.out, rfl, zero_pg _⟩⟩
  subst e0
  by_cases e1 : y1 = 66
  case neg =>
    have n1 : ((y1 : Int) != 66) = true := by simp; omega
    have HNO : Hid (¬ DecOk D) := Lib.hid (fun h => by have := h.1; rw [HTK.out] at this; simp at this; omega)
    have zz := HB0.out
    have r0_ := zz.cell (i := 0) rfl
    have g0_ := zz.free 0
    have r1_ := zz.cell (i := 1) rfl
    have g1_ := zz.free 1
    have r2_ := zz.cell (i := 2) rfl
    have g2_ := zz.free 2
    have r3_ := zz.cell (i := 3) rfl
    have g3_ := zz.free 3
    have r4_ := zz.cell (i := 4) rfl
    have g4_ := zz.free 4
    have r5_ := zz.cell (i := 5) rfl
    have g5_ := zz.free 5
    have r6_ := zz.cell (i := 6) rfl
    have g6_ := zz.free 6
    have r7_ := zz.cell (i := 7) rfl
    have g7_ := zz.free 7
    have r8_ := zz.cell (i := 8) rfl
    have g8_ := zz.free 8
    have HTT : Hid (Touch [RB, RB + 1, RB + 1 + 1] w w1) := Lib.hid (HT0.out.mono (by simp))
    (try clear HCX); (try clear HPX); (try clear HN3); (try clear HN8); (try clear HK1); (try clear HK2); (try clear HK3); (try clear HK5); (try clear HK6); (try clear HK7); (try clear HK8); (try clear HE1); (try clear HE2); (try clear HE3); (try clear HE5); (try clear HE6); (try clear HE7); (try clear HE8); (try clear HL1); (try clear HL2); (try clear HL3); (try clear HL5); (try clear HL6); (try clear HL7); (try clear HL8); (try clear HZ1); (try clear HZ2); (try clear HZ3); (try clear HZ5); (try clear HZ6); (try clear HZ7); (try clear HZ8); (try clear HN3); (try clear HN8); (try clear HRX); (try clear HPX); (try clear HCC); (try clear HCH); (try clear HO9); (try clear HD); (try clear HDB); (try clear HBS); (try clear HL); (try clear HOWN); (try clear HV1); (try clear HOW); (try clear HSB); (try clear HPG); (try clear HPM); (try clear hs); (try clear hTX); (try clear HTX); (try clear HTW); (try clear HB1); (try clear HB0); (try clear HT0); (try clear HBM); (try clear HTM); (try clear hmay); (try clear hown)
    go_enter Try.func17, Try.ntmps17
    go_wp2_with fail
    have hbF : Blk _ RB #[.slice none 0 0, .slice none 0 0, .slice none 0 0, .int .i64 0, .slice none 0 0, .slice none 0 0, .slice none 0 0, .slice none 0 0, .int .i64 0] 29 := (((((((((zz.set 0 (.slice none 0 0)).set 1 (.slice none 0 0)).set 2 (.slice none 0 0)).set 3 (.int .i64 0)).set 4 (.slice none 0 0)).set 5 (.slice none 0 0)).set 6 (.slice none 0 0)).set 7 (.slice none 0 0)).set 8 (.int .i64 0))
    have htF : Touch [] w _ := Touch.fresh (S := [RB, RB + 1, RB + 1 + 1]) (HTT.out.trans (((((((((((Touch.refl [RB] w1).setCell (p := ⟨RB, 0, none⟩) (by simp) (.slice none 0 0)).setCell (p := ⟨RB, 1, none⟩) (by simp) (.slice none 0 0)).setCell (p := ⟨RB, 2, none⟩) (by simp) (.slice none 0 0)).setCell (p := ⟨RB, 3, none⟩) (by simp) (.int .i64 0)).setCell (p := ⟨RB, 4, none⟩) (by simp) (.slice none 0 0)).setCell (p := ⟨RB, 5, none⟩) (by simp) (.slice none 0 0)).setCell (p := ⟨RB, 6, none⟩) (by simp) (.slice none 0 0)).setCell (p := ⟨RB, 7, none⟩) (by simp) (.slice none 0 0)).setCell (p := ⟨RB, 8, none⟩) (by simp) (.int .i64 0)).mono (by simp))) (fun k hk hlt => by have := HRB.out; simp at hk; omega)
    obtain ⟨W, hW⟩ : ∃ W, (((((((((w1.setCell ⟨RB, 0, none⟩ (.slice none 0 0)).setCell ⟨RB, 1, none⟩ (.slice none 0 0)).setCell ⟨RB, 2, none⟩ (.slice none 0 0)).setCell ⟨RB, 3, none⟩ (.int .i64 0)).setCell ⟨RB, 4, none⟩ (.slice none 0 0)).setCell ⟨RB, 5, none⟩ (.slice none 0 0)).setCell ⟨RB, 6, none⟩ (.slice none 0 0)).setCell ⟨RB, 7, none⟩ (.slice none 0 0)).setCell ⟨RB, 8, none⟩ (.int .i64 0)) = W := ⟨_, rfl⟩
    rw [hW] at hbF htF ⊢
    have HTF := Lib.hid htF
    have q0_ := hbF.cell (i := 0) rfl
    have q1_ := hbF.cell (i := 1) rfl
    have q2_ := hbF.cell (i := 2) rfl
    have q3_ := hbF.cell (i := 3) rfl
    have q4_ := hbF.cell (i := 4) rfl
    have q5_ := hbF.cell (i := 5) rfl
    have q6_ := hbF.cell (i := 6) rfl
    have q7_ := hbF.cell (i := 7) rfl
    have q8_ := hbF.cell (i := 8) rfl
    clear r0_ g0_ r1_ g1_ r2_ g2_ r3_ g3_ r4_ g4_ r5_ g5_ r6_ g6_ r7_ g7_ r8_ g8_ zz hbF htF hW
    (try simp only [Exit.inBlock, Exit.then]); refine bodyPost_ret (by simp [results, Try.results17, go_sem, q0_, q1_, q2_, q3_, q4_, q5_, q6_, q7_, q8_]; try rfl) rfl ?_
    exact ⟨_, 5, rfl, HTF.out, .inr ⟨HNO.out, rfl, zero_pg _⟩⟩
  subst e1
  have HSB := HTK
  clear HTK
  have hb : Blk (w1.alloc (.cells #[.slice (some ⟨g, off, none⟩) L c, .int .i64 2, .bool false] 97)) (RB + 1) #[.slice (some ⟨g, off, none⟩) L c, .int .i64 2, .bool false] 97 := Blk.new hs1.symm
  have tb : Touch [] w1 (w1.alloc (.cells #[.slice (some ⟨g, off, none⟩) L c, .int .i64 2, .bool false] 97)) := (Touch.refl [] w1).alloc _
  have hs2 : (w1.alloc (.cells #[.slice (some ⟨g, off, none⟩) L c, .int .i64 2, .bool false] 97)).heap.size = RB + 1 + 1 := by simp [hs1]
  have hp : Blk ((w1.alloc (.cells #[.slice (some ⟨g, off, none⟩) L c, .int .i64 2, .bool false] 97)).alloc (.cells #[.slice none 0 0, .slice none 0 0, .slice none 0 0, .int .i64 0, .slice none 0 0, .slice none 0 0, .slice none 0 0, .slice none 0 0, .int .i64 0] 29)) (RB + 1 + 1) #[.slice none 0 0, .slice none 0 0, .slice none 0 0, .int .i64 0, .slice none 0 0, .slice none 0 0, .slice none 0 0, .slice none 0 0, .int .i64 0] 29 := Blk.new hs2.symm
  have tp : Touch [] (w1.alloc (.cells #[.slice (some ⟨g, off, none⟩) L c, .int .i64 2, .bool false] 97)) ((w1.alloc (.cells #[.slice (some ⟨g, off, none⟩) L c, .int .i64 2, .bool false] 97)).alloc (.cells #[.slice none 0 0, .slice none 0 0, .slice none 0 0, .int .i64 0, .slice none 0 0, .slice none 0 0, .slice none 0 0, .slice none 0 0, .int .i64 0] 29)) := (Touch.refl [] _).alloc _
  have hc : Cu D ((w1.alloc (.cells #[.slice (some ⟨g, off, none⟩) L c, .int .i64 2, .bool false] 97)).alloc (.cells #[.slice none 0 0, .slice none 0 0, .slice none 0 0, .int .i64 0, .slice none 0 0, .slice none 0 0, .slice none 0 0, .slice none 0 0, .int .i64 0] 29)) (RB + 1) (some 2) := ⟨by have := HL.out; omega, _, hb.touch tp (by simp), (HV1.out.touch tb (by simp)).touch tp (by simp), fun k hk => by have := HOW.out k hk; have := HRB.out; omega⟩
  have hB1 : Blk ((w1.alloc (.cells #[.slice (some ⟨g, off, none⟩) L c, .int .i64 2, .bool false] 97)).alloc (.cells #[.slice none 0 0, .slice none 0 0, .slice none 0 0, .int .i64 0, .slice none 0 0, .slice none 0 0, .slice none 0 0, .slice none 0 0, .int .i64 0] 29)) RB #[.slice none 0 0, .slice none 0 0, .slice none 0 0, .int .i64 0, .slice none 0 0, .slice none 0 0, .slice none 0 0, .slice none 0 0, .int .i64 0] 29 := ((HB0.out.touch tb (by simp)).touch tp (by simp))
  have hTW : Touch [] w ((w1.alloc (.cells #[.slice (some ⟨g, off, none⟩) L c, .int .i64 2, .bool false] 97)).alloc (.cells #[.slice none 0 0, .slice none 0 0, .slice none 0 0, .int .i64 0, .slice none 0 0, .slice none 0 0, .slice none 0 0, .slice none 0 0, .int .i64 0] 29)) := ((HT0.out.trans tb).trans tp)
  have HCX := Lib.hid hc
  have HPX := Lib.hid hp
  have HB1 := Lib.hid hB1
  have HTW := Lib.hid hTW
  clear hb tb hp tp hc hB1 hTW
  go_enter Try.func17, Try.ntmps17
  go_wp2_with fail
  clear hs1 hs2 hl3 x0_ x1_ h0i h1i hw1 hl2
  obtain ⟨wA, hwA⟩ : ∃ x, ((w1.alloc (.cells #[.slice (some ⟨g, off, none⟩) L c, .int .i64 2, .bool false] 97)).alloc (.cells #[.slice none 0 0, .slice none 0 0, .slice none 0 0, .int .i64 0, .slice none 0 0, .slice none 0 0, .slice none 0 0, .slice none 0 0, .int .i64 0] 29)) = x := ⟨_, rfl⟩
  rw [hwA] at HCX HPX HB1 HTW ⊢
  clear hwA
  have HTX : Hid (Touch [RB + 1, RB + 1 + 1] wA wA) := Lib.hid (Touch.refl _ _)
  refine (rcount_any D (RB + 1) 3 (some 2) _ HCX.out (by omega) HD.out HDB.out).mono ?_
  rintro e wE1 ⟨rfl, hc, ht⟩
  have hu1 : ct_ D 3 (some 2) < 65536 := by
    have := un_lt D 2 (some 2) (by omega) HDB.out
    unfold ct_; split
    · exact this
    · omega
  obtain ⟨u1, hue⟩ : ∃ u, ct_ D 3 (some 2) = u := ⟨_, rfl⟩
  obtain ⟨s1, hse⟩ : ∃ s, cn_ D 3 (some 2) = s := ⟨_, rfl⟩
  rw [hue] at hu1 ⊢
  rw [hse] at hc
  have HU1 := Lib.hid hue
  have HS1 := Lib.hid hse
  replace HPX := Lib.hid (HPX.out.touch ht (by simp))
  replace HCX := Lib.hid hc
  have HZ1 : Hid (RB + 1 + 1 < wE1.heap.size) := Lib.hid HPX.out.lt
  replace HTX := Lib.hid (HTX.out.trans (ht.mono (by simp) : Touch [RB + 1, RB + 1 + 1] _ _))
  clear hc ht hue hse
  have hue1 := hu1
  go_wp2_with fail
  go_loopw [7] (fun iv wr => ∃ i : Nat, i ≤ u1 ∧ iv = .int .i64 (i : Int) ∧ ∃ vl, Blk wr (RB + 1 + 1) #[vl, .slice none 0 0, .slice none 0 0, .int .i64 0, .slice none 0 0, .slice none 0 0, .slice none 0 0, .slice none 0 0, .int .i64 0] 29 ∧ Ar wr wE1.heap.size 44 3 vl i (fun a j => nvA D s1 (a * 3 + j)) ∧ Cu D wr (RB + 1) (go_ D (8 * (3 * i)) s1) ∧ Touch [RB + 1, RB + 1 + 1] wE1 wr) (fun iv _ => u1 + 1 - (intOf iv).toNat)
  case atStart => exact ⟨0, by omega, rfl, .slice none 0 0, HPX.out, Ar.nil _ _ _ _ _, by rw [show 8 * (3 * 0) = 0 from rfl, cu_zero HCX.out]; exact HCX.out, Touch.refl _ _⟩
  case round =>
    obtain ⟨i, hi, rfl, vl, hP, hA, hR, ht⟩ := hrel
    clear HCX HPX
    have HP := Lib.hid hP
    have HA := Lib.hid hA
    have HR := Lib.hid hR
    have HT := Lib.hid ht
    have hsr : wE1.heap.size ≤ wr.heap.size := ht.size
    obtain ⟨la, lc, rfl, hlm⟩ := hA.form
    clear hP hA hR ht
    by_cases hlt : i < u1
    case pos =>
      obtain ⟨f, hf⟩ : ∃ f : Nat → Int, (fun j => nvA D (go_ D (8 * (3 * i)) s1) j) = f := ⟨_, rfl⟩
      have HF := Lib.hid hf
      go_wp2_with fail
      refine (rnum_any D (RB + 1) 8 (go_ D (8 * (3 * i)) s1) _ HR.out (by omega) (by omega) HD.out HDB.out).mono ?_
      rintro e wn0 ⟨rfl, hR2, ht2⟩
      have hf0 : sgn (un_ D 8 (go_ D (8 * (3 * i)) s1)) = f 0 := by have := congrFun HF.out 0; rw [← this]; rw [show nvA D (go_ D (8 * (3 * i)) s1) 0 = nv D (go_ D 0 (go_ D (8 * (3 * i)) s1)) from rfl, cu_zero HR.out]; rfl
      rw [hf0]
      clear hf0
      replace HR := Lib.hid hR2
      replace HA := Lib.hid (HA.out.touch ht2 (fun k hk => by have := (HA.out.own k hk).1; have := HZ1.out; simp; omega))
      replace HP := Lib.hid (HP.out.touch ht2 (by simp))
      replace HT := Lib.hid (HT.out.trans (ht2.mono (by simp)))
      replace hsr : wE1.heap.size ≤ wn0.heap.size := Nat.le_trans hsr ht2.size
      clear hR2 ht2 hf
      go_wp2_with fail
      refine (rnum_any D (RB + 1) 8 (go_ D 8 (go_ D (8 * (3 * i)) s1)) _ HR.out (by omega) (by omega) HD.out HDB.out).mono ?_
      rintro e wn1 ⟨rfl, hR2, ht2⟩
      have hf1 : sgn (un_ D 8 (go_ D 8 (go_ D (8 * (3 * i)) s1))) = f 1 := by have := congrFun HF.out 1; rw [← this]; rfl
      rw [hf1]
      clear hf1
      rw [go_go] at hR2
      replace HR := Lib.hid hR2
      replace HA := Lib.hid (HA.out.touch ht2 (fun k hk => by have := (HA.out.own k hk).1; have := HZ1.out; simp; omega))
      replace HP := Lib.hid (HP.out.touch ht2 (by simp))
      replace HT := Lib.hid (HT.out.trans (ht2.mono (by simp)))
      replace hsr : wE1.heap.size ≤ wn1.heap.size := Nat.le_trans hsr ht2.size
      clear hR2 ht2 
      go_wp2_with fail
      have z1 := HP.out.cell (i := 0) rfl
      go_region_law
        ((first
          | (go_simp; go_at_call 56
             refine (rnum_any D (RB + 1) 8 (go_ D 16 (go_ D (8 * (3 * i)) s1)) _ (by first | exact HR.out.grown ((Touch.refl [] wn1).drew : Touch [] wn1 (World.drew wn1)) (by simp) | exact HR.out) (by omega) (by omega) HD.out HDB.out).mono ?_
             rintro e wq ⟨rfl, hR2, ht2⟩
             have hf2 : sgn (un_ D 8 (go_ D 16 (go_ D (8 * (3 * i)) s1))) = f 2 := by have := congrFun HF.out 2; rw [← this]; rfl
             rw [hf2]
             rw [go_go] at hR2
             have HQ : Hid (Touch [RB + 1] wn1 wq) := Lib.hid (((Touch.refl [RB + 1] wn1).drew).trans ht2)
             have hAq := HA.out.touch HQ.out (fun k hk => by have := (HA.out.own k hk).1; have := HZ1.out; simp; omega)
             have hPq := HP.out.touch HQ.out (by simp)
             have hsq : wE1.heap.size ≤ wq.heap.size := Nat.le_trans hsr HQ.out.size
             obtain ⟨v3, w3, hr3, hA3, ht3⟩ := app_instr wq wE1.heap.size i _ _ f hAq hsq (by omega)
             obtain ⟨ax, cx, rfl, hlm3⟩ := hA3.form
             have HRUN := Lib.hid hr3
             have HRQ := Lib.hid hR2
             have HAQ := Lib.hid hAq
             have HA3 := Lib.hid hA3
             have HT3 := Lib.hid ht3
             have HPQ := Lib.hid hPq
             have HPN := Lib.hid (hPq.touch ht3 (fun hm => by have := (hAq.own _ (by simpa using hm)).1; have := HZ1.out; omega))
             have z4 := hPq.cell (i := 0) rfl
             have z5 := (hPq.alloc (.cells #[.int .i64 (f 0), .int .i64 (f 1), .int .i64 (f 2)] 44)).cell (i := 0) rfl
             have z2 := HPN.out.cell (i := 0) rfl
             have z3 := HPN.out.free 0
             clear hR2 ht2 hf2 hAq hPq hr3 hA3 ht3)
          | (refine step_append_run (by rfl) _ _ _ _ (by rfl) _ _ (by rfl) (by rfl) _ _ (HRUN.out _) ?_)))
      all_goals
        have tt : Touch [RB + 1 + 1] w3 (w3.setCell ⟨RB + 1 + 1, 0, none⟩ (.slice ax (i + 1) cx)) := (Touch.refl [RB + 1 + 1] w3).setCell (by simp) _
        have HPW : Hid (Blk (w3.setCell ⟨RB + 1 + 1, 0, none⟩ (.slice ax (i + 1) cx)) (RB + 1 + 1) #[.slice ax (i + 1) cx, .slice none 0 0, .slice none 0 0, .int .i64 0, .slice none 0 0, .slice none 0 0, .slice none 0 0, .slice none 0 0, .int .i64 0] 29) := Lib.hid (by have := HPN.out.set 0 (.slice ax (i + 1) cx); simpa using this)
        have HAW : Hid (Ar (w3.setCell ⟨RB + 1 + 1, 0, none⟩ (.slice ax (i + 1) cx)) wE1.heap.size 44 3 (.slice ax (i + 1) cx) (i + 1) (fun a j => nvA D s1 (a * 3 + j))) := Lib.hid ((HA3.out.congr (fun a ha j hj => by
          by_cases e : a = i
          · subst e; rw [addP_new, ← HF.out]; show nvA D (go_ D (8 * (3 * a)) s1) j = _; rw [nvA_add, Nat.mul_comm]
          · rw [addP_old _ _ _ e])).touch tt (fun k hk => by have := (HA3.out.own k hk).1; have := HZ1.out; simp; omega))
        have HRW : Hid (Cu D (w3.setCell ⟨RB + 1 + 1, 0, none⟩ (.slice ax (i + 1) cx)) (RB + 1) (go_ D (8 * (3 * (i + 1))) s1)) := Lib.hid (by
          have := (HRQ.out.grown HT3.out (fun k hk => by have := (HA.out.own k (by simpa using hk)).1; have := HZ1.out; omega)).grown tt (by simp)
          rw [go_go] at this
          rw [show 8 * (3 * (i + 1)) = 8 * (3 * i) + 24 from by omega]
          exact this)
        have HTW2 : Hid (Touch [RB + 1, RB + 1 + 1] wE1 (w3.setCell ⟨RB + 1 + 1, 0, none⟩ (.slice ax (i + 1) cx))) := Lib.hid (((HT.out.trans (HQ.out.mono (by simp))).transF HT3.out (fun k hk hlt => by have := (HA.out.own k (by simpa using hk)).1; omega)).trans (tt.mono (by simp)))
        clear tt z1 z2 z3 z4 z5 hsq
        go_wp2_with fail
        go_roundw
        case rel => exact ⟨i + 1, by omega, by go_num, _, HPW.out, HAW.out, HRW.out, HTW2.out⟩
        case measure => simp [intOf]; omega
    obtain rfl : u1 = i := by omega
    clear hi hlt
    replace HA := Lib.hid (HA.out.congr (qs := fun a j => nvA D (go_ D 2 (some 2)) (a * 3 + j)) (fun a ha j hj => by
      rcases cn_go D 3 (some 2) with e | e
      · rw [← HS1.out, e]
      · rw [HU1.out] at e; omega))
    have HE1 : Hid (∀ o, rl_ D 3 65535 (some 2) = some o → u1 = un_ D 2 (some 2)) := Lib.hid (fun o ho => by rw [← HU1.out]; exact ct_rl HDB.out ho)
    have HCX : Hid (Cu D wr (RB + 1) (t1_ D)) := Lib.hid (by have := HR.out; rw [← HU1.out, ← HS1.out, rr_rl HDB.out] at this; exact this)
    have HPX := HP
    replace HTX := Lib.hid (HTX.out.trans (HT.out.mono (by simp) : Touch [RB + 1, RB + 1 + 1] _ _))
    obtain ⟨wL1, rfl⟩ : ∃ x, x = wr := ⟨_, rfl⟩
    have HK1 := HA
    clear HA HP HR HT hsr
    obtain ⟨b1, rfl⟩ : ∃ b, b = la := ⟨_, rfl⟩
    obtain ⟨c1, rfl⟩ : ∃ c, c = lc := ⟨_, rfl⟩
    clear hlm
    go_wp2_with fail
    refine (rcount_any D (RB + 1) 3 (t1_ D) _ HCX.out (by omega) HD.out HDB.out).mono ?_
    rintro e wE2 ⟨rfl, hc, ht⟩
    have hu2 : ct_ D 3 (t1_ D) < 65536 := by
      have := un_lt D 2 (t1_ D) (by omega) HDB.out
      unfold ct_; split
      · exact this
      · omega
    obtain ⟨u2, hue⟩ : ∃ u, ct_ D 3 (t1_ D) = u := ⟨_, rfl⟩
    obtain ⟨s2, hse⟩ : ∃ s, cn_ D 3 (t1_ D) = s := ⟨_, rfl⟩
    rw [hue] at hu2 ⊢
    rw [hse] at hc
    have HU2 := Lib.hid hue
    have HS2 := Lib.hid hse
    replace HPX := Lib.hid (HPX.out.touch ht (by simp))
    replace HCX := Lib.hid hc
    have HZ2 : Hid (RB + 1 + 1 < wE2.heap.size) := Lib.hid HPX.out.lt
    replace HTX := Lib.hid (HTX.out.trans (ht.mono (by simp) : Touch [RB + 1, RB + 1 + 1] _ _))
    replace HK1 := Lib.hid (HK1.out.touch ht (fun k hk => by have := (HK1.out.own k hk).1; have := HZ1.out; simp; omega))
    clear hc ht hue hse
    have hue2 := hu2
    go_wp2_with fail
    go_loopw [10] (fun iv wr => ∃ i : Nat, i ≤ u2 ∧ iv = .int .i64 (i : Int) ∧ ∃ vl, Blk wr (RB + 1 + 1) #[.slice b1 u1 c1, vl, .slice none 0 0, .int .i64 0, .slice none 0 0, .slice none 0 0, .slice none 0 0, .slice none 0 0, .int .i64 0] 29 ∧ Ar wr wE2.heap.size 46 3 vl i (fun a j => nvA D s2 (a * 3 + j)) ∧ Cu D wr (RB + 1) (go_ D (8 * (3 * i)) s2) ∧ Touch [RB + 1, RB + 1 + 1] wE2 wr) (fun iv _ => u2 + 1 - (intOf iv).toNat)
    case atStart => exact ⟨0, by omega, rfl, .slice none 0 0, HPX.out, Ar.nil _ _ _ _ _, by rw [show 8 * (3 * 0) = 0 from rfl, cu_zero HCX.out]; exact HCX.out, Touch.refl _ _⟩
    case round =>
      obtain ⟨i, hi, rfl, vl, hP, hA, hR, ht⟩ := hrel
      clear HCX HPX
      have HP := Lib.hid hP
      have HA := Lib.hid hA
      have HR := Lib.hid hR
      have HT := Lib.hid ht
      have hsr : wE2.heap.size ≤ wr.heap.size := ht.size
      obtain ⟨la, lc, rfl, hlm⟩ := hA.form
      clear hP hA hR ht
      by_cases hlt : i < u2
      case pos =>
        obtain ⟨f, hf⟩ : ∃ f : Nat → Int, (fun j => nvA D (go_ D (8 * (3 * i)) s2) j) = f := ⟨_, rfl⟩
        have HF := Lib.hid hf
        go_wp2_with fail
        refine (rnum_any D (RB + 1) 8 (go_ D (8 * (3 * i)) s2) _ HR.out (by omega) (by omega) HD.out HDB.out).mono ?_
        rintro e wn0 ⟨rfl, hR2, ht2⟩
        have hf0 : sgn (un_ D 8 (go_ D (8 * (3 * i)) s2)) = f 0 := by have := congrFun HF.out 0; rw [← this]; rw [show nvA D (go_ D (8 * (3 * i)) s2) 0 = nv D (go_ D 0 (go_ D (8 * (3 * i)) s2)) from rfl, cu_zero HR.out]; rfl
        rw [hf0]
        clear hf0
        replace HR := Lib.hid hR2
        replace HA := Lib.hid (HA.out.touch ht2 (fun k hk => by have := (HA.out.own k hk).1; have := HZ2.out; simp; omega))
        replace HP := Lib.hid (HP.out.touch ht2 (by simp))
        replace HT := Lib.hid (HT.out.trans (ht2.mono (by simp)))
        replace hsr : wE2.heap.size ≤ wn0.heap.size := Nat.le_trans hsr ht2.size
        clear hR2 ht2 hf
        go_wp2_with fail
        refine (rnum_any D (RB + 1) 8 (go_ D 8 (go_ D (8 * (3 * i)) s2)) _ HR.out (by omega) (by omega) HD.out HDB.out).mono ?_
        rintro e wn1 ⟨rfl, hR2, ht2⟩
        have hf1 : sgn (un_ D 8 (go_ D 8 (go_ D (8 * (3 * i)) s2))) = f 1 := by have := congrFun HF.out 1; rw [← this]; rfl
        rw [hf1]
        clear hf1
        rw [go_go] at hR2
        replace HR := Lib.hid hR2
        replace HA := Lib.hid (HA.out.touch ht2 (fun k hk => by have := (HA.out.own k hk).1; have := HZ2.out; simp; omega))
        replace HP := Lib.hid (HP.out.touch ht2 (by simp))
        replace HT := Lib.hid (HT.out.trans (ht2.mono (by simp)))
        replace hsr : wE2.heap.size ≤ wn1.heap.size := Nat.le_trans hsr ht2.size
        clear hR2 ht2 
        go_wp2_with fail
        have z1 := HP.out.cell (i := 1) rfl
        go_region_law
          ((first
            | (go_simp; go_at_call 56
               refine (rnum_any D (RB + 1) 8 (go_ D 16 (go_ D (8 * (3 * i)) s2)) _ (by first | exact HR.out.grown ((Touch.refl [] wn1).drew : Touch [] wn1 (World.drew wn1)) (by simp) | exact HR.out) (by omega) (by omega) HD.out HDB.out).mono ?_
               rintro e wq ⟨rfl, hR2, ht2⟩
               have hf2 : sgn (un_ D 8 (go_ D 16 (go_ D (8 * (3 * i)) s2))) = f 2 := by have := congrFun HF.out 2; rw [← this]; rfl
               rw [hf2]
               rw [go_go] at hR2
               have HQ : Hid (Touch [RB + 1] wn1 wq) := Lib.hid (((Touch.refl [RB + 1] wn1).drew).trans ht2)
               have hAq := HA.out.touch HQ.out (fun k hk => by have := (HA.out.own k hk).1; have := HZ2.out; simp; omega)
               have hPq := HP.out.touch HQ.out (by simp)
               have hsq : wE2.heap.size ≤ wq.heap.size := Nat.le_trans hsr HQ.out.size
               obtain ⟨v3, w3, hr3, hA3, ht3⟩ := app_entry wq wE2.heap.size i _ _ f hAq hsq (by omega)
               obtain ⟨ax, cx, rfl, hlm3⟩ := hA3.form
               have HRUN := Lib.hid hr3
               have HRQ := Lib.hid hR2
               have HAQ := Lib.hid hAq
               have HA3 := Lib.hid hA3
               have HT3 := Lib.hid ht3
               have HPQ := Lib.hid hPq
               have HPN := Lib.hid (hPq.touch ht3 (fun hm => by have := (hAq.own _ (by simpa using hm)).1; have := HZ2.out; omega))
               have z4 := hPq.cell (i := 1) rfl
               have z5 := (hPq.alloc (.cells #[.int .i64 (f 0), .int .i64 (f 1), .int .i64 (f 2)] 46)).cell (i := 1) rfl
               have z2 := HPN.out.cell (i := 1) rfl
               have z3 := HPN.out.free 1
               clear hR2 ht2 hf2 hAq hPq hr3 hA3 ht3)
            | (refine step_append_run (by rfl) _ _ _ _ (by rfl) _ _ (by rfl) (by rfl) _ _ (HRUN.out _) ?_)))
        all_goals
          have tt : Touch [RB + 1 + 1] w3 (w3.setCell ⟨RB + 1 + 1, 1, none⟩ (.slice ax (i + 1) cx)) := (Touch.refl [RB + 1 + 1] w3).setCell (by simp) _
          have HPW : Hid (Blk (w3.setCell ⟨RB + 1 + 1, 1, none⟩ (.slice ax (i + 1) cx)) (RB + 1 + 1) #[.slice b1 u1 c1, .slice ax (i + 1) cx, .slice none 0 0, .int .i64 0, .slice none 0 0, .slice none 0 0, .slice none 0 0, .slice none 0 0, .int .i64 0] 29) := Lib.hid (by have := HPN.out.set 1 (.slice ax (i + 1) cx); simpa using this)
          have HAW : Hid (Ar (w3.setCell ⟨RB + 1 + 1, 1, none⟩ (.slice ax (i + 1) cx)) wE2.heap.size 46 3 (.slice ax (i + 1) cx) (i + 1) (fun a j => nvA D s2 (a * 3 + j))) := Lib.hid ((HA3.out.congr (fun a ha j hj => by
            by_cases e : a = i
            · subst e; rw [addP_new, ← HF.out]; show nvA D (go_ D (8 * (3 * a)) s2) j = _; rw [nvA_add, Nat.mul_comm]
            · rw [addP_old _ _ _ e])).touch tt (fun k hk => by have := (HA3.out.own k hk).1; have := HZ2.out; simp; omega))
          have HRW : Hid (Cu D (w3.setCell ⟨RB + 1 + 1, 1, none⟩ (.slice ax (i + 1) cx)) (RB + 1) (go_ D (8 * (3 * (i + 1))) s2)) := Lib.hid (by
            have := (HRQ.out.grown HT3.out (fun k hk => by have := (HA.out.own k (by simpa using hk)).1; have := HZ2.out; omega)).grown tt (by simp)
            rw [go_go] at this
            rw [show 8 * (3 * (i + 1)) = 8 * (3 * i) + 24 from by omega]
            exact this)
          have HTW2 : Hid (Touch [RB + 1, RB + 1 + 1] wE2 (w3.setCell ⟨RB + 1 + 1, 1, none⟩ (.slice ax (i + 1) cx))) := Lib.hid (((HT.out.trans (HQ.out.mono (by simp))).transF HT3.out (fun k hk hlt => by have := (HA.out.own k (by simpa using hk)).1; omega)).trans (tt.mono (by simp)))
          clear tt z1 z2 z3 z4 z5 hsq
          go_wp2_with fail
          go_roundw
          case rel => exact ⟨i + 1, by omega, by go_num, _, HPW.out, HAW.out, HRW.out, HTW2.out⟩
          case measure => simp [intOf]; omega
      obtain rfl : u2 = i := by omega
      clear hi hlt
      replace HA := Lib.hid (HA.out.congr (qs := fun a j => nvA D (go_ D 2 (t1_ D)) (a * 3 + j)) (fun a ha j hj => by
        rcases cn_go D 3 (t1_ D) with e | e
        · rw [← HS2.out, e]
        · rw [HU2.out] at e; omega))
      have HE2 : Hid (∀ o, rl_ D 3 65535 (t1_ D) = some o → u2 = un_ D 2 (t1_ D)) := Lib.hid (fun o ho => by rw [← HU2.out]; exact ct_rl HDB.out ho)
      have HCX : Hid (Cu D wr (RB + 1) (t2_ D)) := Lib.hid (by have := HR.out; rw [← HU2.out, ← HS2.out, rr_rl HDB.out] at this; exact this)
      have HPX := HP
      replace HTX := Lib.hid (HTX.out.trans (HT.out.mono (by simp) : Touch [RB + 1, RB + 1 + 1] _ _))
      replace HK1 := Lib.hid (HK1.out.touch HT.out (fun k hk => by have := (HK1.out.own k hk).1; have := HZ1.out; simp; omega))
      obtain ⟨wL2, rfl⟩ : ∃ x, x = wr := ⟨_, rfl⟩
      have HK2 := HA
      clear HA HP HR HT hsr
      obtain ⟨b2, rfl⟩ : ∃ b, b = la := ⟨_, rfl⟩
      obtain ⟨c2, rfl⟩ : ∃ c, c = lc := ⟨_, rfl⟩
      clear hlm
      go_wp2_with fail
      refine (rcount_any D (RB + 1) 2 (t2_ D) _ HCX.out (by omega) HD.out HDB.out).mono ?_
      rintro e wE3 ⟨rfl, hc, ht⟩
      have hu3 : ct_ D 2 (t2_ D) < 65536 := by
        have := un_lt D 2 (t2_ D) (by omega) HDB.out
        unfold ct_; split
        · exact this
        · omega
      obtain ⟨u3, hue⟩ : ∃ u, ct_ D 2 (t2_ D) = u := ⟨_, rfl⟩
      obtain ⟨s3, hse⟩ : ∃ s, cn_ D 2 (t2_ D) = s := ⟨_, rfl⟩
      rw [hue] at hu3 ⊢
      rw [hse] at hc
      have HU3 := Lib.hid hue
      have HS3 := Lib.hid hse
      replace HPX := Lib.hid (HPX.out.touch ht (by simp))
      replace HCX := Lib.hid hc
      have HZ3 : Hid (RB + 1 + 1 < wE3.heap.size) := Lib.hid HPX.out.lt
      replace HTX := Lib.hid (HTX.out.trans (ht.mono (by simp) : Touch [RB + 1, RB + 1 + 1] _ _))
      replace HK1 := Lib.hid (HK1.out.touch ht (fun k hk => by have := (HK1.out.own k hk).1; have := HZ1.out; simp; omega))
      replace HK2 := Lib.hid (HK2.out.touch ht (fun k hk => by have := (HK2.out.own k hk).1; have := HZ2.out; simp; omega))
      clear hc ht hue hse
      have hue3 := hu3
      go_wp2_with fail
      go_loopw [13] (fun iv wr => ∃ i : Nat, i ≤ u3 ∧ iv = .int .i64 (i : Int) ∧ ∃ vl, Blk wr (RB + 1 + 1) #[.slice b1 u1 c1, .slice b2 u2 c2, vl, .int .i64 0, .slice none 0 0, .slice none 0 0, .slice none 0 0, .slice none 0 0, .int .i64 0] 29 ∧ Ar wr wE3.heap.size 53 2 vl i (fun a j => nvA D s3 (a * 2 + j)) ∧ Cu D wr (RB + 1) (go_ D (8 * (2 * i)) s3) ∧ Touch [RB + 1, RB + 1 + 1] wE3 wr) (fun iv _ => u3 + 1 - (intOf iv).toNat)
      case atStart => exact ⟨0, by omega, rfl, .slice none 0 0, HPX.out, Ar.nil _ _ _ _ _, by rw [show 8 * (2 * 0) = 0 from rfl, cu_zero HCX.out]; exact HCX.out, Touch.refl _ _⟩
      case round =>
        obtain ⟨i, hi, rfl, vl, hP, hA, hR, ht⟩ := hrel
        clear HCX HPX
        have HP := Lib.hid hP
        have HA := Lib.hid hA
        have HR := Lib.hid hR
        have HT := Lib.hid ht
        have hsr : wE3.heap.size ≤ wr.heap.size := ht.size
        obtain ⟨la, lc, rfl, hlm⟩ := hA.form
        clear hP hA hR ht
        by_cases hlt : i < u3
        case pos =>
          obtain ⟨f, hf⟩ : ∃ f : Nat → Int, (fun j => nvA D (go_ D (8 * (2 * i)) s3) j) = f := ⟨_, rfl⟩
          have HF := Lib.hid hf
          go_wp2_with fail
          refine (rnum_any D (RB + 1) 8 (go_ D (8 * (2 * i)) s3) _ HR.out (by omega) (by omega) HD.out HDB.out).mono ?_
          rintro e wn0 ⟨rfl, hR2, ht2⟩
          have hf0 : sgn (un_ D 8 (go_ D (8 * (2 * i)) s3)) = f 0 := by have := congrFun HF.out 0; rw [← this]; rw [show nvA D (go_ D (8 * (2 * i)) s3) 0 = nv D (go_ D 0 (go_ D (8 * (2 * i)) s3)) from rfl, cu_zero HR.out]; rfl
          rw [hf0]
          clear hf0
          replace HR := Lib.hid hR2
          replace HA := Lib.hid (HA.out.touch ht2 (fun k hk => by have := (HA.out.own k hk).1; have := HZ3.out; simp; omega))
          replace HP := Lib.hid (HP.out.touch ht2 (by simp))
          replace HT := Lib.hid (HT.out.trans (ht2.mono (by simp)))
          replace hsr : wE3.heap.size ≤ wn0.heap.size := Nat.le_trans hsr ht2.size
          clear hR2 ht2 hf
          go_wp2_with fail
          have z1 := HP.out.cell (i := 2) rfl
          go_region_law
            ((first
              | (go_simp; go_at_call 56
                 refine (rnum_any D (RB + 1) 8 (go_ D 8 (go_ D (8 * (2 * i)) s3)) _ (by first | exact HR.out.grown ((Touch.refl [] wn0).drew : Touch [] wn0 (World.drew wn0)) (by simp) | exact HR.out) (by omega) (by omega) HD.out HDB.out).mono ?_
                 rintro e wq ⟨rfl, hR2, ht2⟩
                 have hf2 : sgn (un_ D 8 (go_ D 8 (go_ D (8 * (2 * i)) s3))) = f 1 := by have := congrFun HF.out 1; rw [← this]; rfl
                 rw [hf2]
                 rw [go_go] at hR2
                 have HQ : Hid (Touch [RB + 1] wn0 wq) := Lib.hid (((Touch.refl [RB + 1] wn0).drew).trans ht2)
                 have hAq := HA.out.touch HQ.out (fun k hk => by have := (HA.out.own k hk).1; have := HZ3.out; simp; omega)
                 have hPq := HP.out.touch HQ.out (by simp)
                 have hsq : wE3.heap.size ≤ wq.heap.size := Nat.le_trans hsr HQ.out.size
                 obtain ⟨v3, w3, hr3, hA3, ht3⟩ := app_cell wq wE3.heap.size i _ _ f hAq hsq (by omega)
                 obtain ⟨ax, cx, rfl, hlm3⟩ := hA3.form
                 have HRUN := Lib.hid hr3
                 have HRQ := Lib.hid hR2
                 have HAQ := Lib.hid hAq
                 have HA3 := Lib.hid hA3
                 have HT3 := Lib.hid ht3
                 have HPQ := Lib.hid hPq
                 have HPN := Lib.hid (hPq.touch ht3 (fun hm => by have := (hAq.own _ (by simpa using hm)).1; have := HZ3.out; omega))
                 have z4 := hPq.cell (i := 2) rfl
                 have z5 := (hPq.alloc (.cells #[.int .i64 (f 0), .int .i64 (f 1)] 53)).cell (i := 2) rfl
                 have z2 := HPN.out.cell (i := 2) rfl
                 have z3 := HPN.out.free 2
                 clear hR2 ht2 hf2 hAq hPq hr3 hA3 ht3)
              | (refine step_append_run (by rfl) _ _ _ _ (by rfl) _ _ (by rfl) (by rfl) _ _ (HRUN.out _) ?_)))
          all_goals
            have tt : Touch [RB + 1 + 1] w3 (w3.setCell ⟨RB + 1 + 1, 2, none⟩ (.slice ax (i + 1) cx)) := (Touch.refl [RB + 1 + 1] w3).setCell (by simp) _
            have HPW : Hid (Blk (w3.setCell ⟨RB + 1 + 1, 2, none⟩ (.slice ax (i + 1) cx)) (RB + 1 + 1) #[.slice b1 u1 c1, .slice b2 u2 c2, .slice ax (i + 1) cx, .int .i64 0, .slice none 0 0, .slice none 0 0, .slice none 0 0, .slice none 0 0, .int .i64 0] 29) := Lib.hid (by have := HPN.out.set 2 (.slice ax (i + 1) cx); simpa using this)
            have HAW : Hid (Ar (w3.setCell ⟨RB + 1 + 1, 2, none⟩ (.slice ax (i + 1) cx)) wE3.heap.size 53 2 (.slice ax (i + 1) cx) (i + 1) (fun a j => nvA D s3 (a * 2 + j))) := Lib.hid ((HA3.out.congr (fun a ha j hj => by
              by_cases e : a = i
              · subst e; rw [addP_new, ← HF.out]; show nvA D (go_ D (8 * (2 * a)) s3) j = _; rw [nvA_add, Nat.mul_comm]
              · rw [addP_old _ _ _ e])).touch tt (fun k hk => by have := (HA3.out.own k hk).1; have := HZ3.out; simp; omega))
            have HRW : Hid (Cu D (w3.setCell ⟨RB + 1 + 1, 2, none⟩ (.slice ax (i + 1) cx)) (RB + 1) (go_ D (8 * (2 * (i + 1))) s3)) := Lib.hid (by
              have := (HRQ.out.grown HT3.out (fun k hk => by have := (HA.out.own k (by simpa using hk)).1; have := HZ3.out; omega)).grown tt (by simp)
              rw [go_go] at this
              rw [show 8 * (2 * (i + 1)) = 8 * (2 * i) + 16 from by omega]
              exact this)
            have HTW2 : Hid (Touch [RB + 1, RB + 1 + 1] wE3 (w3.setCell ⟨RB + 1 + 1, 2, none⟩ (.slice ax (i + 1) cx))) := Lib.hid (((HT.out.trans (HQ.out.mono (by simp))).transF HT3.out (fun k hk hlt => by have := (HA.out.own k (by simpa using hk)).1; omega)).trans (tt.mono (by simp)))
            clear tt z1 z2 z3 z4 z5 hsq
            go_wp2_with fail
            go_roundw
            case rel => exact ⟨i + 1, by omega, by go_num, _, HPW.out, HAW.out, HRW.out, HTW2.out⟩
            case measure => simp [intOf]; omega
        obtain rfl : u3 = i := by omega
        clear hi hlt
        replace HA := Lib.hid (HA.out.congr (qs := fun a j => nvA D (go_ D 2 (t2_ D)) (a * 2 + j)) (fun a ha j hj => by
          rcases cn_go D 2 (t2_ D) with e | e
          · rw [← HS3.out, e]
          · rw [HU3.out] at e; omega))
        have HE3 : Hid (∀ o, rl_ D 2 65535 (t2_ D) = some o → u3 = un_ D 2 (t2_ D)) := Lib.hid (fun o ho => by rw [← HU3.out]; exact ct_rl HDB.out ho)
        have HCX : Hid (Cu D wr (RB + 1) (t3_ D)) := Lib.hid (by have := HR.out; rw [← HU3.out, ← HS3.out, rr_rl HDB.out] at this; exact this)
        have HPX := HP
        replace HTX := Lib.hid (HTX.out.trans (HT.out.mono (by simp) : Touch [RB + 1, RB + 1 + 1] _ _))
        replace HK1 := Lib.hid (HK1.out.touch HT.out (fun k hk => by have := (HK1.out.own k hk).1; have := HZ1.out; simp; omega))
        replace HK2 := Lib.hid (HK2.out.touch HT.out (fun k hk => by have := (HK2.out.own k hk).1; have := HZ2.out; simp; omega))
        obtain ⟨wL3, rfl⟩ : ∃ x, x = wr := ⟨_, rfl⟩
        have HK3 := HA
        clear HA HP HR HT hsr
        obtain ⟨b3, rfl⟩ : ∃ b, b = la := ⟨_, rfl⟩
        obtain ⟨c3, rfl⟩ : ∃ c, c = lc := ⟨_, rfl⟩
        clear hlm
        go_wp2_with fail
        refine (rnum_any D (RB + 1) 8 (t3_ D) _ HCX.out (by omega) (by omega) HD.out HDB.out).mono ?_
        rintro e wE4 ⟨rfl, hc, ht⟩
        have hpx := HPX.out.touch ht (by simp)
        obtain ⟨n3, hn3⟩ : ∃ x, sgn (un_ D 8 (t3_ D)) = x := ⟨_, rfl⟩
        rw [hn3]
        have HN3 : Hid (nv D (t3_ D) = n3) := Lib.hid hn3
        replace HTX := Lib.hid (HTX.out.trans (ht.mono (by simp) : Touch [RB + 1, RB + 1 + 1] _ _))
        replace HK1 := Lib.hid (HK1.out.touch ht (fun k hk => by have := (HK1.out.own k hk).1; have := HZ1.out; simp; omega))
        replace HK2 := Lib.hid (HK2.out.touch ht (fun k hk => by have := (HK2.out.own k hk).1; have := HZ2.out; simp; omega))
        replace HK3 := Lib.hid (HK3.out.touch ht (fun k hk => by have := (HK3.out.own k hk).1; have := HZ3.out; simp; omega))
        have p_ := hpx.cell (i := 3) rfl
        have f_ := hpx.free 3
        have tt : Touch [RB + 1 + 1] wE4 (wE4.setCell ⟨RB + 1 + 1, 3, none⟩ (.int .i64 n3)) := (Touch.refl [RB + 1 + 1] wE4).setCell (by simp) _
        have hcw := hc.grown tt (by simp)
        have hpw : Blk (wE4.setCell ⟨RB + 1 + 1, 3, none⟩ (.int .i64 n3)) (RB + 1 + 1) #[.slice b1 u1 c1, .slice b2 u2 c2, .slice b3 u3 c3, .int .i64 n3, .slice none 0 0, .slice none 0 0, .slice none 0 0, .slice none 0 0, .int .i64 0] 29 := by have := hpx.set 3 (.int .i64 n3); simpa using this
        replace HCX := Lib.hid hcw
        replace HPX := Lib.hid hpw
        replace HTX := Lib.hid (HTX.out.trans (tt.mono (by simp) : Touch [RB + 1, RB + 1 + 1] _ _))
        replace HK1 := Lib.hid (HK1.out.touch tt (fun k hk => by have := (HK1.out.own k hk).1; have := HZ1.out; simp; omega))
        replace HK2 := Lib.hid (HK2.out.touch tt (fun k hk => by have := (HK2.out.own k hk).1; have := HZ2.out; simp; omega))
        replace HK3 := Lib.hid (HK3.out.touch tt (fun k hk => by have := (HK3.out.own k hk).1; have := HZ3.out; simp; omega))
        clear hc hpx tt hcw hpw
        go_wp2_with fail
        obtain ⟨wS4, hwS⟩ : ∃ x, (wE4.setCell ⟨RB + 1 + 1, 3, none⟩ (.int .i64 n3)) = x := ⟨_, rfl⟩
        rw [hwS] at HCX HPX HTX HK1 HK2 HK3 ⊢
        clear hwS p_ f_
        clear hn3 ht
        refine (rnums_any D (RB + 1) (t4_ D) _ HCX.out HD.out HDB.out).mono ?_
        rintro e wE5 ⟨v5, rfl, hA, hc, ht⟩
        have hpx := HPX.out.touch ht (by simp)
        have HZ5 : Hid (RB + 1 + 1 < wS4.heap.size) := Lib.hid HPX.out.lt
        have hu5 : ct_ D 1 (t4_ D) < 65536 := by
          have := un_lt D 2 (t4_ D) (by omega) HDB.out
          unfold ct_; split
          · exact this
          · omega
        have hq : nums_ D (cn_ D 1 (t4_ D)) (ct_ D 1 (t4_ D)) = nums_ D (go_ D 2 (t4_ D)) (ct_ D 1 (t4_ D)) := by
          rcases cn_go D 1 (t4_ D) with e | e
          · rw [e]
          · rw [e, nums0, nums0]
        rw [hq] at hA
        have hr := rr_rl HDB.out 1 (t4_ D)
        rw [Nat.one_mul] at hr
        rw [hr] at hc
        have he : ∀ o, rl_ D 1 65535 (t4_ D) = some o → ct_ D 1 (t4_ D) = un_ D 2 (t4_ D) := fun o ho => ct_rl HDB.out ho
        obtain ⟨u5, hue⟩ : ∃ u, ct_ D 1 (t4_ D) = u := ⟨_, rfl⟩
        rw [hue] at hu5 hA he
        obtain ⟨b5, c5, hform, _⟩ := Qu.shape hA
        rw [List.length_map, nums_len] at hform
        subst hform
        have HK5 := Lib.hid hA
        have HE5 := Lib.hid he
        clear hue hq hr hA he
        replace HTX := Lib.hid (HTX.out.trans (ht.mono (by simp) : Touch [RB + 1, RB + 1 + 1] _ _))
        replace HK1 := Lib.hid (HK1.out.touch ht (fun k hk => by have := (HK1.out.own k hk).1; have := HZ1.out; simp; omega))
        replace HK2 := Lib.hid (HK2.out.touch ht (fun k hk => by have := (HK2.out.own k hk).1; have := HZ2.out; simp; omega))
        replace HK3 := Lib.hid (HK3.out.touch ht (fun k hk => by have := (HK3.out.own k hk).1; have := HZ3.out; simp; omega))
        have p_ := hpx.cell (i := 4) rfl
        have f_ := hpx.free 4
        have tt : Touch [RB + 1 + 1] wE5 (wE5.setCell ⟨RB + 1 + 1, 4, none⟩ (.slice b5 u5 c5)) := (Touch.refl [RB + 1 + 1] wE5).setCell (by simp) _
        have hcw := hc.grown tt (by simp)
        have hpw : Blk (wE5.setCell ⟨RB + 1 + 1, 4, none⟩ (.slice b5 u5 c5)) (RB + 1 + 1) #[.slice b1 u1 c1, .slice b2 u2 c2, .slice b3 u3 c3, .int .i64 n3, .slice b5 u5 c5, .slice none 0 0, .slice none 0 0, .slice none 0 0, .int .i64 0] 29 := by have := hpx.set 4 (.slice b5 u5 c5); simpa using this
        replace HCX := Lib.hid hcw
        replace HPX := Lib.hid hpw
        replace HTX := Lib.hid (HTX.out.trans (tt.mono (by simp) : Touch [RB + 1, RB + 1 + 1] _ _))
        replace HK1 := Lib.hid (HK1.out.touch tt (fun k hk => by have := (HK1.out.own k hk).1; have := HZ1.out; simp; omega))
        replace HK2 := Lib.hid (HK2.out.touch tt (fun k hk => by have := (HK2.out.own k hk).1; have := HZ2.out; simp; omega))
        replace HK3 := Lib.hid (HK3.out.touch tt (fun k hk => by have := (HK3.out.own k hk).1; have := HZ3.out; simp; omega))
        replace HK5 := Lib.hid (Qu.touch HK5.out tt (fun k hk => by have := (Qu.own HK5.out k hk).1; have := HZ5.out; simp; omega))
        clear hc hpx tt hcw hpw
        go_wp2_with fail
        obtain ⟨wS5, hwS⟩ : ∃ x, (wE5.setCell ⟨RB + 1 + 1, 4, none⟩ (.slice b5 u5 c5)) = x := ⟨_, rfl⟩
        rw [hwS] at HCX HPX HTX HK1 HK2 HK3 HK5 ⊢
        clear hwS p_ f_
        clear ht
        refine (rnums_any D (RB + 1) (t5_ D) _ HCX.out HD.out HDB.out).mono ?_
        rintro e wE6 ⟨v6, rfl, hA, hc, ht⟩
        have hpx := HPX.out.touch ht (by simp)
        have HZ6 : Hid (RB + 1 + 1 < wS5.heap.size) := Lib.hid HPX.out.lt
        have hu6 : ct_ D 1 (t5_ D) < 65536 := by
          have := un_lt D 2 (t5_ D) (by omega) HDB.out
          unfold ct_; split
          · exact this
          · omega
        have hq : nums_ D (cn_ D 1 (t5_ D)) (ct_ D 1 (t5_ D)) = nums_ D (go_ D 2 (t5_ D)) (ct_ D 1 (t5_ D)) := by
          rcases cn_go D 1 (t5_ D) with e | e
          · rw [e]
          · rw [e, nums0, nums0]
        rw [hq] at hA
        have hr := rr_rl HDB.out 1 (t5_ D)
        rw [Nat.one_mul] at hr
        rw [hr] at hc
        have he : ∀ o, rl_ D 1 65535 (t5_ D) = some o → ct_ D 1 (t5_ D) = un_ D 2 (t5_ D) := fun o ho => ct_rl HDB.out ho
        obtain ⟨u6, hue⟩ : ∃ u, ct_ D 1 (t5_ D) = u := ⟨_, rfl⟩
        rw [hue] at hu6 hA he
        obtain ⟨b6, c6, hform, _⟩ := Qu.shape hA
        rw [List.length_map, nums_len] at hform
        subst hform
        have HK6 := Lib.hid hA
        have HE6 := Lib.hid he
        clear hue hq hr hA he
        replace HTX := Lib.hid (HTX.out.trans (ht.mono (by simp) : Touch [RB + 1, RB + 1 + 1] _ _))
        replace HK1 := Lib.hid (HK1.out.touch ht (fun k hk => by have := (HK1.out.own k hk).1; have := HZ1.out; simp; omega))
        replace HK2 := Lib.hid (HK2.out.touch ht (fun k hk => by have := (HK2.out.own k hk).1; have := HZ2.out; simp; omega))
        replace HK3 := Lib.hid (HK3.out.touch ht (fun k hk => by have := (HK3.out.own k hk).1; have := HZ3.out; simp; omega))
        replace HK5 := Lib.hid (Qu.touch HK5.out ht (fun k hk => by have := (Qu.own HK5.out k hk).1; have := HZ5.out; simp; omega))
        have p_ := hpx.cell (i := 5) rfl
        have f_ := hpx.free 5
        have tt : Touch [RB + 1 + 1] wE6 (wE6.setCell ⟨RB + 1 + 1, 5, none⟩ (.slice b6 u6 c6)) := (Touch.refl [RB + 1 + 1] wE6).setCell (by simp) _
        have hcw := hc.grown tt (by simp)
        have hpw : Blk (wE6.setCell ⟨RB + 1 + 1, 5, none⟩ (.slice b6 u6 c6)) (RB + 1 + 1) #[.slice b1 u1 c1, .slice b2 u2 c2, .slice b3 u3 c3, .int .i64 n3, .slice b5 u5 c5, .slice b6 u6 c6, .slice none 0 0, .slice none 0 0, .int .i64 0] 29 := by have := hpx.set 5 (.slice b6 u6 c6); simpa using this
        replace HCX := Lib.hid hcw
        replace HPX := Lib.hid hpw
        replace HTX := Lib.hid (HTX.out.trans (tt.mono (by simp) : Touch [RB + 1, RB + 1 + 1] _ _))
        replace HK1 := Lib.hid (HK1.out.touch tt (fun k hk => by have := (HK1.out.own k hk).1; have := HZ1.out; simp; omega))
        replace HK2 := Lib.hid (HK2.out.touch tt (fun k hk => by have := (HK2.out.own k hk).1; have := HZ2.out; simp; omega))
        replace HK3 := Lib.hid (HK3.out.touch tt (fun k hk => by have := (HK3.out.own k hk).1; have := HZ3.out; simp; omega))
        replace HK5 := Lib.hid (Qu.touch HK5.out tt (fun k hk => by have := (Qu.own HK5.out k hk).1; have := HZ5.out; simp; omega))
        replace HK6 := Lib.hid (Qu.touch HK6.out tt (fun k hk => by have := (Qu.own HK6.out k hk).1; have := HZ6.out; simp; omega))
        clear hc hpx tt hcw hpw
        go_wp2_with fail
        obtain ⟨wS6, hwS⟩ : ∃ x, (wE6.setCell ⟨RB + 1 + 1, 5, none⟩ (.slice b6 u6 c6)) = x := ⟨_, rfl⟩
        rw [hwS] at HCX HPX HTX HK1 HK2 HK3 HK5 HK6 ⊢
        clear hwS p_ f_
        clear ht
        refine (rcount_any D (RB + 1) u6 (t6_ D) _ HCX.out (by omega) HD.out HDB.out).mono ?_
        rintro e wE7 ⟨rfl, hc, ht⟩
        have hu7 : ct_ D u6 (t6_ D) < 65536 := by
          have := un_lt D 2 (t6_ D) (by omega) HDB.out
          unfold ct_; split
          · exact this
          · omega
        obtain ⟨u7, hue⟩ : ∃ u, ct_ D u6 (t6_ D) = u := ⟨_, rfl⟩
        obtain ⟨s7, hse⟩ : ∃ s, cn_ D u6 (t6_ D) = s := ⟨_, rfl⟩
        rw [hue] at hu7 ⊢
        rw [hse] at hc
        have HU7 := Lib.hid hue
        have HS7 := Lib.hid hse
        replace HPX := Lib.hid (HPX.out.touch ht (by simp))
        replace HCX := Lib.hid hc
        have HZ7 : Hid (RB + 1 + 1 < wE7.heap.size) := Lib.hid HPX.out.lt
        replace HTX := Lib.hid (HTX.out.trans (ht.mono (by simp) : Touch [RB + 1, RB + 1 + 1] _ _))
        replace HK1 := Lib.hid (HK1.out.touch ht (fun k hk => by have := (HK1.out.own k hk).1; have := HZ1.out; simp; omega))
        replace HK2 := Lib.hid (HK2.out.touch ht (fun k hk => by have := (HK2.out.own k hk).1; have := HZ2.out; simp; omega))
        replace HK3 := Lib.hid (HK3.out.touch ht (fun k hk => by have := (HK3.out.own k hk).1; have := HZ3.out; simp; omega))
        replace HK5 := Lib.hid (Qu.touch HK5.out ht (fun k hk => by have := (Qu.own HK5.out k hk).1; have := HZ5.out; simp; omega))
        replace HK6 := Lib.hid (Qu.touch HK6.out ht (fun k hk => by have := (Qu.own HK6.out k hk).1; have := HZ6.out; simp; omega))
        clear hc ht hue hse
        have hue7 := hu7
        go_wp2_with fail
        go_loopw [15] (fun iv wr => ∃ i : Nat, i ≤ u7 ∧ iv = .int .i64 (i : Int) ∧ ∃ vl, Blk wr (RB + 1 + 1) #[.slice b1 u1 c1, .slice b2 u2 c2, .slice b3 u3 c3, .int .i64 n3, .slice b5 u5 c5, .slice b6 u6 c6, vl, .slice none 0 0, .int .i64 0] 29 ∧ Lv wr wE7.heap.size vl (rows_ D s7 u6 i) ∧ Cu D wr (RB + 1) (go_ D (8 * (u6 * i)) s7) ∧ Touch [RB + 1, RB + 1 + 1] wE7 wr) (fun iv _ => u7 + 1 - (intOf iv).toNat)
        case atStart => exact ⟨0, by omega, rfl, .slice none 0 0, HPX.out, Lv.nil _ _, by rw [show 8 * (u6 * 0) = 0 from by simp, cu_zero HCX.out]; exact HCX.out, Touch.refl _ _⟩
        case round =>
          obtain ⟨i, hi, rfl, vl, hP, hA, hR, ht⟩ := hrel
          clear HCX HPX
          have HP := Lib.hid hP
          have HA := Lib.hid hA
          have HR := Lib.hid hR
          have HT := Lib.hid ht
          have hsr : wE7.heap.size ≤ wr.heap.size := ht.size
          obtain ⟨la, lc, hform⟩ := hA.rws.form
          rw [rows_len] at hform
          subst hform
          clear hP hA hR ht
          by_cases hlt : i < u7
          case pos =>
            obtain ⟨wO, hwO⟩ : ∃ x, x = wr := ⟨_, rfl⟩
            subst hwO
            have ta : Touch [] wO (wO.alloc (.cells #[] 3)) := (Touch.refl [] wO).alloc _
            have HQ0 : Hid (Qu (wO.alloc (.cells #[] 3)) wO.heap.size 3 (.slice (some ⟨wO.heap.size, 0, none⟩) 0 0) []) := Lib.hid (Qu.made (c := #[]) rfl (Nat.le_refl _) rfl (Nat.zero_le _))
            have HR0 := Lib.hid (HR.out.grown ta (by simp))
            have HTa : Hid (Touch [RB + 1] wO (wO.alloc (.cells #[] 3))) := Lib.hid (ta.mono (by simp))
            obtain ⟨sI, hsI⟩ : ∃ s, go_ D (8 * (u6 * i)) s7 = s := ⟨_, rfl⟩
            have HSI := Lib.hid hsI
            rw [hsI] at HR0
            clear hsI ta
            go_wp2_with fail
            go_loopw [16, 17] (fun lv kv wr => ∃ k : Nat, k ≤ u6 ∧ kv = .int .i64 (k : Int) ∧ Qu wr wO.heap.size 3 lv ((nums_ D sI k).map (Value.int .i64)) ∧ Cu D wr (RB + 1) (go_ D (8 * k) sI) ∧ Touch [RB + 1] wO wr) (fun _ kv _ => u6 + 1 - (intOf kv).toNat)
            case atStart => exact ⟨0, by omega, rfl, HQ0.out, by rw [Nat.mul_zero, cu_zero HR0.out]; exact HR0.out, HTa.out⟩
            case round =>
              obtain ⟨k, hk, rfl, hQ, hRk, htk⟩ := hrel
              clear HQ0 HR0 HTa
              have HQ := Lib.hid hQ
              have HRK := Lib.hid hRk
              have HTK := Lib.hid htk
              have hsk : wO.heap.size ≤ wr.heap.size := htk.size
              obtain ⟨qa, qc, hform, _⟩ := Qu.shape hQ
              rw [List.length_map, nums_len] at hform
              subst hform
              have x5 := (HP.out.touch htk (by simp)).cell (i := 5) rfl
              clear hQ hRk htk
              by_cases hkl : k < u6
              case pos =>
                go_wp2_with fail
                refine (rnum_any D (RB + 1) 8 (go_ D (8 * k) sI) _ HRK.out (by omega) (by omega) HD.out HDB.out).mono ?_
                rintro e w2 ⟨rfl, hR2, ht2⟩
                rw [go_go] at hR2
                have HAo := Lib.hid (Qu.touch HQ.out ht2 (fun k hk => by have := (Qu.own HQ.out k hk).1; have := HP.out.lt; simp; omega))
                have hs2r : wO.heap.size ≤ w2.heap.size := Nat.le_trans hsk ht2.size
                obtain ⟨x, hx⟩ : ∃ x, sgn (un_ D 8 (go_ D (8 * k) sI)) = x := ⟨_, rfl⟩
                have hx2 : nvA D sI k = x := hx
                rw [hx]
                obtain ⟨v3, w3, hr3, hA3, ht3⟩ := app_int w2 wO.heap.size _ _ x HAo.out hs2r (by rw [nums_len]; omega)
                have HA3 : Hid (Qu w3 wO.heap.size 3 v3 ((nums_ D sI (k + 1)).map (Value.int .i64))) := Lib.hid (by rw [nums_succ, hx2]; exact hA3)
                have HR3 : Hid (Cu D w3 (RB + 1) (go_ D (8 * (k + 1)) sI)) := Lib.hid (by
                  have := hR2.grown ht3 (fun k hk => by have := (Qu.own HQ.out k (by simpa using hk)).1; have := HP.out.lt; omega)
                  rw [show 8 * k + 8 = 8 * (k + 1) from by omega] at this
                  exact this)
                have HT3 : Hid (Touch [RB + 1] wO w3) := Lib.hid ((HTK.out.trans ht2).transF ht3 (fun k hk hlt => by have := (Qu.own HQ.out k (by simpa using hk)).1; omega))
                clear hR2 ht2 hA3 ht3 hx hx2 HAo
                go_wp2_with (at_builtin; refine Lib.wpList_append_run _ rfl _ _ _ _ rfl _ _ rfl rfl _ _ (hr3 _) ?_; clear hr3)
                go_roundw
                case rel => exact ⟨k + 1, by omega, by go_num, HA3.out, HR3.out, HT3.out⟩
                case measure => simp [intOf]; omega
              obtain rfl : u6 = k := by omega
              have hPk := HP.out.touch HTK.out (by simp)
              have hAk := HA.out.touch HTK.out (by have := HZ7.out; simp; omega)
              have hro := Qu.own HQ.out
              obtain ⟨v3, w3, hr3, hA3, ht3⟩ := app_row wr wE7.heap.size _ (.slice qa u6 qc) _ _ hAk (Nat.le_trans hsr hsk) (Qu.sl HQ.out) (fun k hk => ⟨Nat.le_trans hsr (hro k hk).1, (hro k hk).2, fun e => by have := (HA.out.own k e).2; have := (hro k hk).1; omega⟩) rfl (by rw [rows_len]; omega)
              rw [← HSI.out, ← rows_succ] at hA3
              obtain ⟨ax, cx, hform⟩ := hA3.rws.form
              rw [rows_len] at hform
              subst hform
              have hPn := hPk.touch ht3 (fun hm => by have := (HA.out.own _ (by simpa using hm)).1; have := HZ7.out; omega)
              have z1 := hPk.cell (i := 6) rfl
              have z2 := hPn.cell (i := 6) rfl
              have z3 := hPn.free 6
              have HRUN := Lib.hid hr3
              have tt : Touch [RB + 1 + 1] w3 (w3.setCell ⟨RB + 1 + 1, 6, none⟩ (.slice ax (i + 1) cx)) := (Touch.refl [RB + 1 + 1] w3).setCell (by simp) _
              have HPW : Hid (Blk (w3.setCell ⟨RB + 1 + 1, 6, none⟩ (.slice ax (i + 1) cx)) (RB + 1 + 1) #[.slice b1 u1 c1, .slice b2 u2 c2, .slice b3 u3 c3, .int .i64 n3, .slice b5 u5 c5, .slice b6 u6 c6, .slice ax (i + 1) cx, .slice none 0 0, .int .i64 0] 29) := Lib.hid (by have := hPn.set 6 (.slice ax (i + 1) cx); simpa using this)
              have HAW : Hid (Lv (w3.setCell ⟨RB + 1 + 1, 6, none⟩ (.slice ax (i + 1) cx)) wE7.heap.size (.slice ax (i + 1) cx) (rows_ D s7 u6 (i + 1))) := Lib.hid (hA3.touch tt (by have := HZ7.out; simp; omega))
              have HRW : Hid (Cu D (w3.setCell ⟨RB + 1 + 1, 6, none⟩ (.slice ax (i + 1) cx)) (RB + 1) (go_ D (8 * (u6 * (i + 1))) s7)) := Lib.hid (by
                have := (HRK.out.grown ht3 (fun k hk => by have := (HA.out.own k (by simpa using hk)).1; have := HZ7.out; omega)).grown tt (by simp)
                rw [← HSI.out, go_go] at this
                rw [show 8 * (u6 * (i + 1)) = 8 * (u6 * i) + 8 * u6 from by rw [Nat.mul_succ]; omega]
                exact this)
              have HTW2 : Hid (Touch [RB + 1, RB + 1 + 1] wE7 (w3.setCell ⟨RB + 1 + 1, 6, none⟩ (.slice ax (i + 1) cx))) := Lib.hid (((HT.out.trans (HTK.out.mono (by simp))).transF ht3 (fun k hk hlt => by have := (HA.out.own k (by simpa using hk)).1; omega)).trans (tt.mono (by simp)))
              clear tt hPn hPk hAk hro hr3 hA3 ht3
              go_wp2_with (at_builtin; refine Lib.wpList_append_run _ rfl _ _ _ _ rfl _ _ rfl rfl _ _ (HRUN.out _) ?_; clear HRUN)
              go_roundw
              case rel => exact ⟨i + 1, by omega, by go_num, _, HPW.out, HAW.out, HRW.out, HTW2.out⟩
              case measure => simp [intOf]; omega
          obtain rfl : u7 = i := by omega
          clear hi hlt
          have hrw : rows_ D s7 u6 u7 = rows_ D (go_ D 2 (t6_ D)) u6 u7 := by
            rcases cn_go D u6 (t6_ D) with e | e
            · rw [← HS7.out, e]
            · rw [HU7.out] at e; rw [e, rows0, rows0]
          rw [hrw] at HA
          clear hrw
          have HE7 : Hid (∀ o, rl_ D u6 65535 (t6_ D) = some o → u7 = un_ D 2 (t6_ D)) := Lib.hid (fun o ho => by rw [← HU7.out]; exact ct_rl HDB.out ho)
          have HCX : Hid (Cu D wr (RB + 1) (t7_ D u6)) := Lib.hid (by have := HR.out; rw [← HU7.out, ← HS7.out, rr_rl HDB.out] at this; exact this)
          have HPX := HP
          replace HTX := Lib.hid (HTX.out.trans (HT.out.mono (by simp) : Touch [RB + 1, RB + 1 + 1] _ _))
          replace HK1 := Lib.hid (HK1.out.touch HT.out (fun k hk => by have := (HK1.out.own k hk).1; have := HZ1.out; simp; omega))
          replace HK2 := Lib.hid (HK2.out.touch HT.out (fun k hk => by have := (HK2.out.own k hk).1; have := HZ2.out; simp; omega))
          replace HK3 := Lib.hid (HK3.out.touch HT.out (fun k hk => by have := (HK3.out.own k hk).1; have := HZ3.out; simp; omega))
          replace HK5 := Lib.hid (Qu.touch HK5.out HT.out (fun k hk => by have := (Qu.own HK5.out k hk).1; have := HZ5.out; simp; omega))
          replace HK6 := Lib.hid (Qu.touch HK6.out HT.out (fun k hk => by have := (Qu.own HK6.out k hk).1; have := HZ6.out; simp; omega))
          obtain ⟨wL7, rfl⟩ : ∃ x, x = wr := ⟨_, rfl⟩
          have HK7 := HA
          clear HA HP HR HT hsr
          obtain ⟨b7, rfl⟩ : ∃ b, b = la := ⟨_, rfl⟩
          obtain ⟨c7, rfl⟩ : ∃ c, c = lc := ⟨_, rfl⟩
          go_wp2_with fail
          refine (rcount_any D (RB + 1) 2 (t7_ D u6) _ HCX.out (by omega) HD.out HDB.out).mono ?_
          rintro e wE8 ⟨rfl, hc, ht⟩
          have hu8 : ct_ D 2 (t7_ D u6) < 65536 := by
            have := un_lt D 2 (t7_ D u6) (by omega) HDB.out
            unfold ct_; split
            · exact this
            · omega
          obtain ⟨u8, hue⟩ : ∃ u, ct_ D 2 (t7_ D u6) = u := ⟨_, rfl⟩
          obtain ⟨s8, hse⟩ : ∃ s, cn_ D 2 (t7_ D u6) = s := ⟨_, rfl⟩
          rw [hue] at hu8 ⊢
          rw [hse] at hc
          have HU8 := Lib.hid hue
          have HS8 := Lib.hid hse
          replace HPX := Lib.hid (HPX.out.touch ht (by simp))
          replace HCX := Lib.hid hc
          have HZ8 : Hid (RB + 1 + 1 < wE8.heap.size) := Lib.hid HPX.out.lt
          replace HTX := Lib.hid (HTX.out.trans (ht.mono (by simp) : Touch [RB + 1, RB + 1 + 1] _ _))
          replace HK1 := Lib.hid (HK1.out.touch ht (fun k hk => by have := (HK1.out.own k hk).1; have := HZ1.out; simp; omega))
          replace HK2 := Lib.hid (HK2.out.touch ht (fun k hk => by have := (HK2.out.own k hk).1; have := HZ2.out; simp; omega))
          replace HK3 := Lib.hid (HK3.out.touch ht (fun k hk => by have := (HK3.out.own k hk).1; have := HZ3.out; simp; omega))
          replace HK5 := Lib.hid (Qu.touch HK5.out ht (fun k hk => by have := (Qu.own HK5.out k hk).1; have := HZ5.out; simp; omega))
          replace HK6 := Lib.hid (Qu.touch HK6.out ht (fun k hk => by have := (Qu.own HK6.out k hk).1; have := HZ6.out; simp; omega))
          replace HK7 := Lib.hid (HK7.out.touch ht (fun k hk => by have := HZ7.out; simp at hk; omega))
          clear hc ht hue hse
          have hue8 := hu8
          go_wp2_with fail
          go_loopw [18] (fun iv wr => ∃ i : Nat, i ≤ u8 ∧ iv = .int .i64 (i : Int) ∧ ∃ vl, Blk wr (RB + 1 + 1) #[.slice b1 u1 c1, .slice b2 u2 c2, .slice b3 u3 c3, .int .i64 n3, .slice b5 u5 c5, .slice b6 u6 c6, .slice b7 u7 c7, vl, .int .i64 0] 29 ∧ Ar wr wE8.heap.size 62 2 vl i (fun a j => nvA D s8 (a * 2 + j)) ∧ Cu D wr (RB + 1) (go_ D (8 * (2 * i)) s8) ∧ Touch [RB + 1, RB + 1 + 1] wE8 wr) (fun iv _ => u8 + 1 - (intOf iv).toNat)
          case atStart => exact ⟨0, by omega, rfl, .slice none 0 0, HPX.out, Ar.nil _ _ _ _ _, by rw [show 8 * (2 * 0) = 0 from rfl, cu_zero HCX.out]; exact HCX.out, Touch.refl _ _⟩
          case round =>
            obtain ⟨i, hi, rfl, vl, hP, hA, hR, ht⟩ := hrel
            clear HCX HPX
            have HP := Lib.hid hP
            have HA := Lib.hid hA
            have HR := Lib.hid hR
            have HT := Lib.hid ht
            have hsr : wE8.heap.size ≤ wr.heap.size := ht.size
            obtain ⟨la, lc, rfl, hlm⟩ := hA.form
            clear hP hA hR ht
            by_cases hlt : i < u8
            case pos =>
              obtain ⟨f, hf⟩ : ∃ f : Nat → Int, (fun j => nvA D (go_ D (8 * (2 * i)) s8) j) = f := ⟨_, rfl⟩
              have HF := Lib.hid hf
              go_wp2_with fail
              refine (rnum_any D (RB + 1) 8 (go_ D (8 * (2 * i)) s8) _ HR.out (by omega) (by omega) HD.out HDB.out).mono ?_
              rintro e wn0 ⟨rfl, hR2, ht2⟩
              have hf0 : sgn (un_ D 8 (go_ D (8 * (2 * i)) s8)) = f 0 := by have := congrFun HF.out 0; rw [← this]; rw [show nvA D (go_ D (8 * (2 * i)) s8) 0 = nv D (go_ D 0 (go_ D (8 * (2 * i)) s8)) from rfl, cu_zero HR.out]; rfl
              rw [hf0]
              clear hf0
              replace HR := Lib.hid hR2
              replace HA := Lib.hid (HA.out.touch ht2 (fun k hk => by have := (HA.out.own k hk).1; have := HZ8.out; simp; omega))
              replace HP := Lib.hid (HP.out.touch ht2 (by simp))
              replace HT := Lib.hid (HT.out.trans (ht2.mono (by simp)))
              replace hsr : wE8.heap.size ≤ wn0.heap.size := Nat.le_trans hsr ht2.size
              clear hR2 ht2 hf
              go_wp2_with fail
              have z1 := HP.out.cell (i := 7) rfl
              go_region_law
                ((first
                  | (go_simp; go_at_call 56
                     refine (rnum_any D (RB + 1) 8 (go_ D 8 (go_ D (8 * (2 * i)) s8)) _ (by first | exact HR.out.grown ((Touch.refl [] wn0).drew : Touch [] wn0 (World.drew wn0)) (by simp) | exact HR.out) (by omega) (by omega) HD.out HDB.out).mono ?_
                     rintro e wq ⟨rfl, hR2, ht2⟩
                     have hf2 : sgn (un_ D 8 (go_ D 8 (go_ D (8 * (2 * i)) s8))) = f 1 := by have := congrFun HF.out 1; rw [← this]; rfl
                     rw [hf2]
                     rw [go_go] at hR2
                     have HQ : Hid (Touch [RB + 1] wn0 wq) := Lib.hid (((Touch.refl [RB + 1] wn0).drew).trans ht2)
                     have hAq := HA.out.touch HQ.out (fun k hk => by have := (HA.out.own k hk).1; have := HZ8.out; simp; omega)
                     have hPq := HP.out.touch HQ.out (by simp)
                     have hsq : wE8.heap.size ≤ wq.heap.size := Nat.le_trans hsr HQ.out.size
                     obtain ⟨v3, w3, hr3, hA3, ht3⟩ := app_spawn wq wE8.heap.size i _ _ f hAq hsq (by omega)
                     obtain ⟨ax, cx, rfl, hlm3⟩ := hA3.form
                     have HRUN := Lib.hid hr3
                     have HRQ := Lib.hid hR2
                     have HAQ := Lib.hid hAq
                     have HA3 := Lib.hid hA3
                     have HT3 := Lib.hid ht3
                     have HPQ := Lib.hid hPq
                     have HPN := Lib.hid (hPq.touch ht3 (fun hm => by have := (hAq.own _ (by simpa using hm)).1; have := HZ8.out; omega))
                     have z4 := hPq.cell (i := 7) rfl
                     have z5 := (hPq.alloc (.cells #[.int .i64 (f 0), .int .i64 (f 1)] 62)).cell (i := 7) rfl
                     have z2 := HPN.out.cell (i := 7) rfl
                     have z3 := HPN.out.free 7
                     clear hR2 ht2 hf2 hAq hPq hr3 hA3 ht3)
                  | (refine step_append_run (by rfl) _ _ _ _ (by rfl) _ _ (by rfl) (by rfl) _ _ (HRUN.out _) ?_)))
              all_goals
                have tt : Touch [RB + 1 + 1] w3 (w3.setCell ⟨RB + 1 + 1, 7, none⟩ (.slice ax (i + 1) cx)) := (Touch.refl [RB + 1 + 1] w3).setCell (by simp) _
                have HPW : Hid (Blk (w3.setCell ⟨RB + 1 + 1, 7, none⟩ (.slice ax (i + 1) cx)) (RB + 1 + 1) #[.slice b1 u1 c1, .slice b2 u2 c2, .slice b3 u3 c3, .int .i64 n3, .slice b5 u5 c5, .slice b6 u6 c6, .slice b7 u7 c7, .slice ax (i + 1) cx, .int .i64 0] 29) := Lib.hid (by have := HPN.out.set 7 (.slice ax (i + 1) cx); simpa using this)
                have HAW : Hid (Ar (w3.setCell ⟨RB + 1 + 1, 7, none⟩ (.slice ax (i + 1) cx)) wE8.heap.size 62 2 (.slice ax (i + 1) cx) (i + 1) (fun a j => nvA D s8 (a * 2 + j))) := Lib.hid ((HA3.out.congr (fun a ha j hj => by
                  by_cases e : a = i
                  · subst e; rw [addP_new, ← HF.out]; show nvA D (go_ D (8 * (2 * a)) s8) j = _; rw [nvA_add, Nat.mul_comm]
                  · rw [addP_old _ _ _ e])).touch tt (fun k hk => by have := (HA3.out.own k hk).1; have := HZ8.out; simp; omega))
                have HRW : Hid (Cu D (w3.setCell ⟨RB + 1 + 1, 7, none⟩ (.slice ax (i + 1) cx)) (RB + 1) (go_ D (8 * (2 * (i + 1))) s8)) := Lib.hid (by
                  have := (HRQ.out.grown HT3.out (fun k hk => by have := (HA.out.own k (by simpa using hk)).1; have := HZ8.out; omega)).grown tt (by simp)
                  rw [go_go] at this
                  rw [show 8 * (2 * (i + 1)) = 8 * (2 * i) + 16 from by omega]
                  exact this)
                have HTW2 : Hid (Touch [RB + 1, RB + 1 + 1] wE8 (w3.setCell ⟨RB + 1 + 1, 7, none⟩ (.slice ax (i + 1) cx))) := Lib.hid (((HT.out.trans (HQ.out.mono (by simp))).transF HT3.out (fun k hk hlt => by have := (HA.out.own k (by simpa using hk)).1; omega)).trans (tt.mono (by simp)))
                clear tt z1 z2 z3 z4 z5 hsq
                go_wp2_with fail
                go_roundw
                case rel => exact ⟨i + 1, by omega, by go_num, _, HPW.out, HAW.out, HRW.out, HTW2.out⟩
                case measure => simp [intOf]; omega
            obtain rfl : u8 = i := by omega
            clear hi hlt
            replace HA := Lib.hid (HA.out.congr (qs := fun a j => nvA D (go_ D 2 (t7_ D u6)) (a * 2 + j)) (fun a ha j hj => by
              rcases cn_go D 2 (t7_ D u6) with e | e
              · rw [← HS8.out, e]
              · rw [HU8.out] at e; omega))
            have HE8 : Hid (∀ o, rl_ D 2 65535 (t7_ D u6) = some o → u8 = un_ D 2 (t7_ D u6)) := Lib.hid (fun o ho => by rw [← HU8.out]; exact ct_rl HDB.out ho)
            have HCX : Hid (Cu D wr (RB + 1) (t8_ D u6)) := Lib.hid (by have := HR.out; rw [← HU8.out, ← HS8.out, rr_rl HDB.out] at this; exact this)
            have HPX := HP
            replace HTX := Lib.hid (HTX.out.trans (HT.out.mono (by simp) : Touch [RB + 1, RB + 1 + 1] _ _))
            replace HK1 := Lib.hid (HK1.out.touch HT.out (fun k hk => by have := (HK1.out.own k hk).1; have := HZ1.out; simp; omega))
            replace HK2 := Lib.hid (HK2.out.touch HT.out (fun k hk => by have := (HK2.out.own k hk).1; have := HZ2.out; simp; omega))
            replace HK3 := Lib.hid (HK3.out.touch HT.out (fun k hk => by have := (HK3.out.own k hk).1; have := HZ3.out; simp; omega))
            replace HK5 := Lib.hid (Qu.touch HK5.out HT.out (fun k hk => by have := (Qu.own HK5.out k hk).1; have := HZ5.out; simp; omega))
            replace HK6 := Lib.hid (Qu.touch HK6.out HT.out (fun k hk => by have := (Qu.own HK6.out k hk).1; have := HZ6.out; simp; omega))
            replace HK7 := Lib.hid (HK7.out.touch HT.out (fun k hk => by have := HZ7.out; simp at hk; omega))
            obtain ⟨wL8, rfl⟩ : ∃ x, x = wr := ⟨_, rfl⟩
            have HK8 := HA
            clear HA HP HR HT hsr
            obtain ⟨b8, rfl⟩ : ∃ b, b = la := ⟨_, rfl⟩
            obtain ⟨c8, rfl⟩ : ∃ c, c = lc := ⟨_, rfl⟩
            clear hlm
            go_wp2_with fail
            refine (rnum_any D (RB + 1) 8 (t8_ D u6) _ HCX.out (by omega) (by omega) HD.out HDB.out).mono ?_
            rintro e wE9 ⟨rfl, hc, ht⟩
            have hpx := HPX.out.touch ht (by simp)
            obtain ⟨n8, hn8⟩ : ∃ x, sgn (un_ D 8 (t8_ D u6)) = x := ⟨_, rfl⟩
            rw [hn8]
            have HN8 : Hid (nv D (t8_ D u6) = n8) := Lib.hid hn8
            replace HTX := Lib.hid (HTX.out.trans (ht.mono (by simp) : Touch [RB + 1, RB + 1 + 1] _ _))
            replace HK1 := Lib.hid (HK1.out.touch ht (fun k hk => by have := (HK1.out.own k hk).1; have := HZ1.out; simp; omega))
            replace HK2 := Lib.hid (HK2.out.touch ht (fun k hk => by have := (HK2.out.own k hk).1; have := HZ2.out; simp; omega))
            replace HK3 := Lib.hid (HK3.out.touch ht (fun k hk => by have := (HK3.out.own k hk).1; have := HZ3.out; simp; omega))
            replace HK5 := Lib.hid (Qu.touch HK5.out ht (fun k hk => by have := (Qu.own HK5.out k hk).1; have := HZ5.out; simp; omega))
            replace HK6 := Lib.hid (Qu.touch HK6.out ht (fun k hk => by have := (Qu.own HK6.out k hk).1; have := HZ6.out; simp; omega))
            replace HK7 := Lib.hid (HK7.out.touch ht (fun k hk => by have := HZ7.out; simp at hk; omega))
            replace HK8 := Lib.hid (HK8.out.touch ht (fun k hk => by have := (HK8.out.own k hk).1; have := HZ8.out; simp; omega))
            have p_ := hpx.cell (i := 8) rfl
            have f_ := hpx.free 8
            have tt : Touch [RB + 1 + 1] wE9 (wE9.setCell ⟨RB + 1 + 1, 8, none⟩ (.int .i64 n8)) := (Touch.refl [RB + 1 + 1] wE9).setCell (by simp) _
            have hcw := hc.grown tt (by simp)
            have hpw : Blk (wE9.setCell ⟨RB + 1 + 1, 8, none⟩ (.int .i64 n8)) (RB + 1 + 1) #[.slice b1 u1 c1, .slice b2 u2 c2, .slice b3 u3 c3, .int .i64 n3, .slice b5 u5 c5, .slice b6 u6 c6, .slice b7 u7 c7, .slice b8 u8 c8, .int .i64 n8] 29 := by have := hpx.set 8 (.int .i64 n8); simpa using this
            replace HCX := Lib.hid hcw
            replace HPX := Lib.hid hpw
            replace HTX := Lib.hid (HTX.out.trans (tt.mono (by simp) : Touch [RB + 1, RB + 1 + 1] _ _))
            replace HK1 := Lib.hid (HK1.out.touch tt (fun k hk => by have := (HK1.out.own k hk).1; have := HZ1.out; simp; omega))
            replace HK2 := Lib.hid (HK2.out.touch tt (fun k hk => by have := (HK2.out.own k hk).1; have := HZ2.out; simp; omega))
            replace HK3 := Lib.hid (HK3.out.touch tt (fun k hk => by have := (HK3.out.own k hk).1; have := HZ3.out; simp; omega))
            replace HK5 := Lib.hid (Qu.touch HK5.out tt (fun k hk => by have := (Qu.own HK5.out k hk).1; have := HZ5.out; simp; omega))
            replace HK6 := Lib.hid (Qu.touch HK6.out tt (fun k hk => by have := (Qu.own HK6.out k hk).1; have := HZ6.out; simp; omega))
            replace HK7 := Lib.hid (HK7.out.touch tt (fun k hk => by have := HZ7.out; simp at hk; omega))
            replace HK8 := Lib.hid (HK8.out.touch tt (fun k hk => by have := (HK8.out.own k hk).1; have := HZ8.out; simp; omega))
            clear hc hpx tt hcw hpw
            go_upto_region 45 with fail
            obtain ⟨wS9, hwS⟩ : ∃ x, (wE9.setCell ⟨RB + 1 + 1, 8, none⟩ (.int .i64 n8)) = x := ⟨_, rfl⟩
            rw [hwS] at HCX HPX HTX HK1 HK2 HK3 HK5 HK6 HK7 HK8 ⊢
            clear hwS p_ f_
            clear hn8 ht
            have HC6 : Hid (∀ q, t6_ D = some q → u6 = un_ D 2 (t5_ D)) := Lib.hid HE6.out
            cases hst : t9_ D u6 with
            | none =>
              have hrx := HCX.out
              rw [show go_ D 8 (t8_ D u6) = none from hst] at hrx
              obtain ⟨v, R, hbk, hbs, hown⟩ := hrx
              have x2_ := hbk.cell (i := 2) rfl
              clear hbk hbs hown
              have HNO : Hid (¬ DecOk D) := Lib.hid (fun h => by have := chain_decT HC6.out h; rw [hst] at this; cases this)
              have zz := HB1.out.touch HTX.out (by simp; omega)
              have r0_ := zz.cell (i := 0) rfl
              have g0_ := zz.free 0
              have r1_ := zz.cell (i := 1) rfl
              have g1_ := zz.free 1
              have r2_ := zz.cell (i := 2) rfl
              have g2_ := zz.free 2
              have r3_ := zz.cell (i := 3) rfl
              have g3_ := zz.free 3
              have r4_ := zz.cell (i := 4) rfl
              have g4_ := zz.free 4
              have r5_ := zz.cell (i := 5) rfl
              have g5_ := zz.free 5
              have r6_ := zz.cell (i := 6) rfl
              have g6_ := zz.free 6
              have r7_ := zz.cell (i := 7) rfl
              have g7_ := zz.free 7
              have r8_ := zz.cell (i := 8) rfl
              have g8_ := zz.free 8
              have HTT : Hid (Touch [RB, RB + 1, RB + 1 + 1] w wS9) := Lib.hid ((HTW.out.mono (by simp)).trans (HTX.out.mono (by simp)))
              (try clear HCX); (try clear HPX); (try clear HN3); (try clear HN8); (try clear HK1); (try clear HK2); (try clear HK3); (try clear HK5); (try clear HK6); (try clear HK7); (try clear HK8); (try clear HE1); (try clear HE2); (try clear HE3); (try clear HE5); (try clear HE6); (try clear HE7); (try clear HE8); (try clear HL1); (try clear HL2); (try clear HL3); (try clear HL5); (try clear HL6); (try clear HL7); (try clear HL8); (try clear HZ1); (try clear HZ2); (try clear HZ3); (try clear HZ5); (try clear HZ6); (try clear HZ7); (try clear HZ8); (try clear HN3); (try clear HN8); (try clear HRX); (try clear HPX); (try clear HCC); (try clear HCH); (try clear HO9); (try clear HD); (try clear HDB); (try clear HBS); (try clear HL); (try clear HOWN); (try clear HV1); (try clear HOW); (try clear HSB); (try clear HPG); (try clear HPM); (try clear hs); (try clear hTX); (try clear HTX); (try clear HTW); (try clear HB1); (try clear HB0); (try clear HT0); (try clear HBM); (try clear HTM); (try clear hmay); (try clear hown)
              go_wp2_with fail
              have hbF : Blk _ RB #[.slice none 0 0, .slice none 0 0, .slice none 0 0, .int .i64 0, .slice none 0 0, .slice none 0 0, .slice none 0 0, .slice none 0 0, .int .i64 0] 29 := (((((((((zz.set 0 (.slice none 0 0)).set 1 (.slice none 0 0)).set 2 (.slice none 0 0)).set 3 (.int .i64 0)).set 4 (.slice none 0 0)).set 5 (.slice none 0 0)).set 6 (.slice none 0 0)).set 7 (.slice none 0 0)).set 8 (.int .i64 0))
              have htF : Touch [] w _ := Touch.fresh (S := [RB, RB + 1, RB + 1 + 1]) (HTT.out.trans (((((((((((Touch.refl [RB] wS9).setCell (p := ⟨RB, 0, none⟩) (by simp) (.slice none 0 0)).setCell (p := ⟨RB, 1, none⟩) (by simp) (.slice none 0 0)).setCell (p := ⟨RB, 2, none⟩) (by simp) (.slice none 0 0)).setCell (p := ⟨RB, 3, none⟩) (by simp) (.int .i64 0)).setCell (p := ⟨RB, 4, none⟩) (by simp) (.slice none 0 0)).setCell (p := ⟨RB, 5, none⟩) (by simp) (.slice none 0 0)).setCell (p := ⟨RB, 6, none⟩) (by simp) (.slice none 0 0)).setCell (p := ⟨RB, 7, none⟩) (by simp) (.slice none 0 0)).setCell (p := ⟨RB, 8, none⟩) (by simp) (.int .i64 0)).mono (by simp))) (fun k hk hlt => by have := HRB.out; simp at hk; omega)
              obtain ⟨W, hW⟩ : ∃ W, (((((((((wS9.setCell ⟨RB, 0, none⟩ (.slice none 0 0)).setCell ⟨RB, 1, none⟩ (.slice none 0 0)).setCell ⟨RB, 2, none⟩ (.slice none 0 0)).setCell ⟨RB, 3, none⟩ (.int .i64 0)).setCell ⟨RB, 4, none⟩ (.slice none 0 0)).setCell ⟨RB, 5, none⟩ (.slice none 0 0)).setCell ⟨RB, 6, none⟩ (.slice none 0 0)).setCell ⟨RB, 7, none⟩ (.slice none 0 0)).setCell ⟨RB, 8, none⟩ (.int .i64 0)) = W := ⟨_, rfl⟩
              rw [hW] at hbF htF ⊢
              have HTF := Lib.hid htF
              have q0_ := hbF.cell (i := 0) rfl
              have q1_ := hbF.cell (i := 1) rfl
              have q2_ := hbF.cell (i := 2) rfl
              have q3_ := hbF.cell (i := 3) rfl
              have q4_ := hbF.cell (i := 4) rfl
              have q5_ := hbF.cell (i := 5) rfl
              have q6_ := hbF.cell (i := 6) rfl
              have q7_ := hbF.cell (i := 7) rfl
              have q8_ := hbF.cell (i := 8) rfl
              clear r0_ g0_ r1_ g1_ r2_ g2_ r3_ g3_ r4_ g4_ r5_ g5_ r6_ g6_ r7_ g7_ r8_ g8_ zz hbF htF hW
              (try simp only [Exit.inBlock, Exit.then]); refine bodyPost_ret (by simp [results, Try.results17, go_sem, q0_, q1_, q2_, q3_, q4_, q5_, q6_, q7_, q8_]; try rfl) rfl ?_
              exact ⟨_, 5, rfl, HTF.out, .inr ⟨HNO.out, rfl, zero_pg _⟩⟩
            | some o =>
              obtain ⟨ho9, hch⟩ := chain_ofT HC6.out hst
              have HCH := Lib.hid hch
              have hrx := HCX.out
              rw [show go_ D 8 (t8_ D u6) = some o from hst] at hrx
              obtain ⟨hol, v, hbk, hbs, hown⟩ := hrx
              have HO9 := Lib.hid ho9
              have x2_ := hbk.cell (i := 2) rfl
              have x1_ := hbk.cell (i := 1) rfl
              have hoL : o ≤ L := by have := HL.out; omega
              clear hbk hbs hown hst hch ho9
              by_cases hrest : o = L
              case neg =>
                have hr0 : ((o : Int) != (L : Int)) = true := by simp; omega
                have hr1 : (o != L) = true := by simp; omega
                have hr2 : ¬ o = L := hrest
                have HNO : Hid (¬ DecOk D) := Lib.hid (fun h => by have h1 := h.2.1; have h2 := HO9.out; have h3 := HL.out; omega)
                have zz := HB1.out.touch HTX.out (by simp; omega)
                have r0_ := zz.cell (i := 0) rfl
                have g0_ := zz.free 0
                have r1_ := zz.cell (i := 1) rfl
                have g1_ := zz.free 1
                have r2_ := zz.cell (i := 2) rfl
                have g2_ := zz.free 2
                have r3_ := zz.cell (i := 3) rfl
                have g3_ := zz.free 3
                have r4_ := zz.cell (i := 4) rfl
                have g4_ := zz.free 4
                have r5_ := zz.cell (i := 5) rfl
                have g5_ := zz.free 5
                have r6_ := zz.cell (i := 6) rfl
                have g6_ := zz.free 6
                have r7_ := zz.cell (i := 7) rfl
                have g7_ := zz.free 7
                have r8_ := zz.cell (i := 8) rfl
                have g8_ := zz.free 8
                have HTT : Hid (Touch [RB, RB + 1, RB + 1 + 1] w wS9) := Lib.hid ((HTW.out.mono (by simp)).trans (HTX.out.mono (by simp)))
                (try clear HCX); (try clear HPX); (try clear HN3); (try clear HN8); (try clear HK1); (try clear HK2); (try clear HK3); (try clear HK5); (try clear HK6); (try clear HK7); (try clear HK8); (try clear HE1); (try clear HE2); (try clear HE3); (try clear HE5); (try clear HE6); (try clear HE7); (try clear HE8); (try clear HL1); (try clear HL2); (try clear HL3); (try clear HL5); (try clear HL6); (try clear HL7); (try clear HL8); (try clear HZ1); (try clear HZ2); (try clear HZ3); (try clear HZ5); (try clear HZ6); (try clear HZ7); (try clear HZ8); (try clear HN3); (try clear HN8); (try clear HRX); (try clear HPX); (try clear HCC); (try clear HCH); (try clear HO9); (try clear HD); (try clear HDB); (try clear HBS); (try clear HL); (try clear HOWN); (try clear HV1); (try clear HOW); (try clear HSB); (try clear HPG); (try clear HPM); (try clear hs); (try clear hTX); (try clear HTX); (try clear HTW); (try clear HB1); (try clear HB0); (try clear HT0); (try clear HBM); (try clear HTM); (try clear hmay); (try clear hown)
                go_wp2_with fail
                have hbF : Blk _ RB #[.slice none 0 0, .slice none 0 0, .slice none 0 0, .int .i64 0, .slice none 0 0, .slice none 0 0, .slice none 0 0, .slice none 0 0, .int .i64 0] 29 := (((((((((zz.set 0 (.slice none 0 0)).set 1 (.slice none 0 0)).set 2 (.slice none 0 0)).set 3 (.int .i64 0)).set 4 (.slice none 0 0)).set 5 (.slice none 0 0)).set 6 (.slice none 0 0)).set 7 (.slice none 0 0)).set 8 (.int .i64 0))
                have htF : Touch [] w _ := Touch.fresh (S := [RB, RB + 1, RB + 1 + 1]) (HTT.out.trans (((((((((((Touch.refl [RB] wS9).setCell (p := ⟨RB, 0, none⟩) (by simp) (.slice none 0 0)).setCell (p := ⟨RB, 1, none⟩) (by simp) (.slice none 0 0)).setCell (p := ⟨RB, 2, none⟩) (by simp) (.slice none 0 0)).setCell (p := ⟨RB, 3, none⟩) (by simp) (.int .i64 0)).setCell (p := ⟨RB, 4, none⟩) (by simp) (.slice none 0 0)).setCell (p := ⟨RB, 5, none⟩) (by simp) (.slice none 0 0)).setCell (p := ⟨RB, 6, none⟩) (by simp) (.slice none 0 0)).setCell (p := ⟨RB, 7, none⟩) (by simp) (.slice none 0 0)).setCell (p := ⟨RB, 8, none⟩) (by simp) (.int .i64 0)).mono (by simp))) (fun k hk hlt => by have := HRB.out; simp at hk; omega)
                obtain ⟨W, hW⟩ : ∃ W, (((((((((wS9.setCell ⟨RB, 0, none⟩ (.slice none 0 0)).setCell ⟨RB, 1, none⟩ (.slice none 0 0)).setCell ⟨RB, 2, none⟩ (.slice none 0 0)).setCell ⟨RB, 3, none⟩ (.int .i64 0)).setCell ⟨RB, 4, none⟩ (.slice none 0 0)).setCell ⟨RB, 5, none⟩ (.slice none 0 0)).setCell ⟨RB, 6, none⟩ (.slice none 0 0)).setCell ⟨RB, 7, none⟩ (.slice none 0 0)).setCell ⟨RB, 8, none⟩ (.int .i64 0)) = W := ⟨_, rfl⟩
                rw [hW] at hbF htF ⊢
                have HTF := Lib.hid htF
                have q0_ := hbF.cell (i := 0) rfl
                have q1_ := hbF.cell (i := 1) rfl
                have q2_ := hbF.cell (i := 2) rfl
                have q3_ := hbF.cell (i := 3) rfl
                have q4_ := hbF.cell (i := 4) rfl
                have q5_ := hbF.cell (i := 5) rfl
                have q6_ := hbF.cell (i := 6) rfl
                have q7_ := hbF.cell (i := 7) rfl
                have q8_ := hbF.cell (i := 8) rfl
                clear r0_ g0_ r1_ g1_ r2_ g2_ r3_ g3_ r4_ g4_ r5_ g5_ r6_ g6_ r7_ g7_ r8_ g8_ zz hbF htF hW
                (try simp only [Exit.inBlock, Exit.then]); refine bodyPost_ret (by simp [results, Try.results17, go_sem, q0_, q1_, q2_, q3_, q4_, q5_, q6_, q7_, q8_]; try rfl) rfl ?_
                exact ⟨_, 5, rfl, HTF.out, .inr ⟨HNO.out, rfl, zero_pg _⟩⟩
              subst hrest
              have p0_ := HPX.out.cell (i := 0) rfl
              have p1_ := HPX.out.cell (i := 1) rfl
              have p2_ := HPX.out.cell (i := 2) rfl
              have p3_ := HPX.out.cell (i := 3) rfl
              have p4_ := HPX.out.cell (i := 4) rfl
              have p5_ := HPX.out.cell (i := 5) rfl
              have p6_ := HPX.out.cell (i := 6) rfl
              have p7_ := HPX.out.cell (i := 7) rfl
              have p8_ := HPX.out.cell (i := 8) rfl
              have hpg := pg_ofT HCH.out HK1.out HK2.out HK3.out HK5.out HK6.out HK7.out HK8.out HE1.out HE2.out HE3.out HE5.out HE6.out HE7.out HE8.out
              rw [HN3.out, HN8.out] at hpg
              have HPG := Lib.hid hpg
              clear hpg
              go_wp2_with fail
              refine (rmay_any _ (decP D) _ HPG.out).mono ?_
              rintro e wM ⟨rfl, htM⟩
              have HPM := Lib.hid (HPX.out.touch htM (by simp))
              have HBM := Lib.hid ((HB1.out.touch HTX.out (by simp; omega)).touch htM (by simp))
              have HTM : Hid (Touch [RB, RB + 1, RB + 1 + 1] w wM) := Lib.hid (((HTW.out.mono (by simp)).trans (HTX.out.mono (by simp))).trans (htM.mono (by simp)))
              replace HK1 := Lib.hid (HK1.out.touch htM (by simp))
              replace HK2 := Lib.hid (HK2.out.touch htM (by simp))
              replace HK3 := Lib.hid (HK3.out.touch htM (by simp))
              replace HK5 := Lib.hid (Qu.touch HK5.out htM (by simp))
              replace HK6 := Lib.hid (Qu.touch HK6.out htM (by simp))
              replace HK7 := Lib.hid (HK7.out.touch htM (by simp))
              replace HK8 := Lib.hid (HK8.out.touch htM (by simp))
              clear htM x1_ x2_ p0_ p1_ p2_ p3_ p4_ p5_ p6_ p7_ p8_
              by_cases hmay : MayP (decP D)
              case neg =>
                rw [show decide (MayP (decP D)) = false from decide_eq_false hmay]
                have HNO : Hid (¬ DecOk D) := Lib.hid (fun h => hmay h.2.2)
                have zz := HBM.out
                have r0_ := zz.cell (i := 0) rfl
                have g0_ := zz.free 0
                have r1_ := zz.cell (i := 1) rfl
                have g1_ := zz.free 1
                have r2_ := zz.cell (i := 2) rfl
                have g2_ := zz.free 2
                have r3_ := zz.cell (i := 3) rfl
                have g3_ := zz.free 3
                have r4_ := zz.cell (i := 4) rfl
                have g4_ := zz.free 4
                have r5_ := zz.cell (i := 5) rfl
                have g5_ := zz.free 5
                have r6_ := zz.cell (i := 6) rfl
                have g6_ := zz.free 6
                have r7_ := zz.cell (i := 7) rfl
                have g7_ := zz.free 7
                have r8_ := zz.cell (i := 8) rfl
                have g8_ := zz.free 8
                have HTT : Hid (Touch [RB, RB + 1, RB + 1 + 1] w wM) := Lib.hid (HTM.out)
                (try clear HCX); (try clear HPX); (try clear HN3); (try clear HN8); (try clear HK1); (try clear HK2); (try clear HK3); (try clear HK5); (try clear HK6); (try clear HK7); (try clear HK8); (try clear HE1); (try clear HE2); (try clear HE3); (try clear HE5); (try clear HE6); (try clear HE7); (try clear HE8); (try clear HL1); (try clear HL2); (try clear HL3); (try clear HL5); (try clear HL6); (try clear HL7); (try clear HL8); (try clear HZ1); (try clear HZ2); (try clear HZ3); (try clear HZ5); (try clear HZ6); (try clear HZ7); (try clear HZ8); (try clear HN3); (try clear HN8); (try clear HRX); (try clear HPX); (try clear HCC); (try clear HCH); (try clear HO9); (try clear HD); (try clear HDB); (try clear HBS); (try clear HL); (try clear HOWN); (try clear HV1); (try clear HOW); (try clear HSB); (try clear HPG); (try clear HPM); (try clear hs); (try clear hTX); (try clear HTX); (try clear HTW); (try clear HB1); (try clear HB0); (try clear HT0); (try clear HBM); (try clear HTM); (try clear hmay); (try clear hown)
                go_wp2_with fail
                have hbF : Blk _ RB #[.slice none 0 0, .slice none 0 0, .slice none 0 0, .int .i64 0, .slice none 0 0, .slice none 0 0, .slice none 0 0, .slice none 0 0, .int .i64 0] 29 := (((((((((zz.set 0 (.slice none 0 0)).set 1 (.slice none 0 0)).set 2 (.slice none 0 0)).set 3 (.int .i64 0)).set 4 (.slice none 0 0)).set 5 (.slice none 0 0)).set 6 (.slice none 0 0)).set 7 (.slice none 0 0)).set 8 (.int .i64 0))
                have htF : Touch [] w _ := Touch.fresh (S := [RB, RB + 1, RB + 1 + 1]) (HTT.out.trans (((((((((((Touch.refl [RB] wM).setCell (p := ⟨RB, 0, none⟩) (by simp) (.slice none 0 0)).setCell (p := ⟨RB, 1, none⟩) (by simp) (.slice none 0 0)).setCell (p := ⟨RB, 2, none⟩) (by simp) (.slice none 0 0)).setCell (p := ⟨RB, 3, none⟩) (by simp) (.int .i64 0)).setCell (p := ⟨RB, 4, none⟩) (by simp) (.slice none 0 0)).setCell (p := ⟨RB, 5, none⟩) (by simp) (.slice none 0 0)).setCell (p := ⟨RB, 6, none⟩) (by simp) (.slice none 0 0)).setCell (p := ⟨RB, 7, none⟩) (by simp) (.slice none 0 0)).setCell (p := ⟨RB, 8, none⟩) (by simp) (.int .i64 0)).mono (by simp))) (fun k hk hlt => by have := HRB.out; simp at hk; omega)
                obtain ⟨W, hW⟩ : ∃ W, (((((((((wM.setCell ⟨RB, 0, none⟩ (.slice none 0 0)).setCell ⟨RB, 1, none⟩ (.slice none 0 0)).setCell ⟨RB, 2, none⟩ (.slice none 0 0)).setCell ⟨RB, 3, none⟩ (.int .i64 0)).setCell ⟨RB, 4, none⟩ (.slice none 0 0)).setCell ⟨RB, 5, none⟩ (.slice none 0 0)).setCell ⟨RB, 6, none⟩ (.slice none 0 0)).setCell ⟨RB, 7, none⟩ (.slice none 0 0)).setCell ⟨RB, 8, none⟩ (.int .i64 0)) = W := ⟨_, rfl⟩
                rw [hW] at hbF htF ⊢
                have HTF := Lib.hid htF
                have q0_ := hbF.cell (i := 0) rfl
                have q1_ := hbF.cell (i := 1) rfl
                have q2_ := hbF.cell (i := 2) rfl
                have q3_ := hbF.cell (i := 3) rfl
                have q4_ := hbF.cell (i := 4) rfl
                have q5_ := hbF.cell (i := 5) rfl
                have q6_ := hbF.cell (i := 6) rfl
                have q7_ := hbF.cell (i := 7) rfl
                have q8_ := hbF.cell (i := 8) rfl
                clear r0_ g0_ r1_ g1_ r2_ g2_ r3_ g3_ r4_ g4_ r5_ g5_ r6_ g6_ r7_ g7_ r8_ g8_ zz hbF htF hW
                (try simp only [Exit.inBlock, Exit.then]); refine bodyPost_ret (by simp [results, Try.results17, go_sem, q0_, q1_, q2_, q3_, q4_, q5_, q6_, q7_, q8_]; try rfl) rfl ?_
                exact ⟨_, 5, rfl, HTF.out, .inr ⟨HNO.out, rfl, zero_pg _⟩⟩
              rw [show decide (MayP (decP D)) = true from decide_eq_true hmay]
              have HOK : Hid (DecOk D) := Lib.hid ⟨HSB.out, by rw [← HO9.out]; exact HL.out.symm, hmay⟩
              clear hmay
              have p0_ := HPM.out.cell (i := 0) rfl
              have p1_ := HPM.out.cell (i := 1) rfl
              have p2_ := HPM.out.cell (i := 2) rfl
              have p3_ := HPM.out.cell (i := 3) rfl
              have p4_ := HPM.out.cell (i := 4) rfl
              have p5_ := HPM.out.cell (i := 5) rfl
              have p6_ := HPM.out.cell (i := 6) rfl
              have p7_ := HPM.out.cell (i := 7) rfl
              have p8_ := HPM.out.cell (i := 8) rfl
              have zz := HBM.out
              have r0_ := zz.cell (i := 0) rfl
              have g0_ := zz.free 0
              have r1_ := zz.cell (i := 1) rfl
              have g1_ := zz.free 1
              have r2_ := zz.cell (i := 2) rfl
              have g2_ := zz.free 2
              have r3_ := zz.cell (i := 3) rfl
              have g3_ := zz.free 3
              have r4_ := zz.cell (i := 4) rfl
              have g4_ := zz.free 4
              have r5_ := zz.cell (i := 5) rfl
              have g5_ := zz.free 5
              have r6_ := zz.cell (i := 6) rfl
              have g6_ := zz.free 6
              have r7_ := zz.cell (i := 7) rfl
              have g7_ := zz.free 7
              have r8_ := zz.cell (i := 8) rfl
              have g8_ := zz.free 8
              go_wp2_with fail
              have hbF : Blk (((((((((wM.setCell ⟨RB, 0, none⟩ (.slice b1 u1 c1)).setCell ⟨RB, 1, none⟩ (.slice b2 u2 c2)).setCell ⟨RB, 2, none⟩ (.slice b3 u3 c3)).setCell ⟨RB, 3, none⟩ (.int .i64 n3)).setCell ⟨RB, 4, none⟩ (.slice b5 u5 c5)).setCell ⟨RB, 5, none⟩ (.slice b6 u6 c6)).setCell ⟨RB, 6, none⟩ (.slice b7 u7 c7)).setCell ⟨RB, 7, none⟩ (.slice b8 u8 c8)).setCell ⟨RB, 8, none⟩ (.int .i64 n8)) RB #[.slice b1 u1 c1, .slice b2 u2 c2, .slice b3 u3 c3, .int .i64 n3, .slice b5 u5 c5, .slice b6 u6 c6, .slice b7 u7 c7, .slice b8 u8 c8, .int .i64 n8] 29 := by have := (((((((((zz.set 0 (.slice b1 u1 c1)).set 1 (.slice b2 u2 c2)).set 2 (.slice b3 u3 c3)).set 3 (.int .i64 n3)).set 4 (.slice b5 u5 c5)).set 5 (.slice b6 u6 c6)).set 6 (.slice b7 u7 c7)).set 7 (.slice b8 u8 c8)).set 8 (.int .i64 n8)); simpa using this
              have ttF : Touch [RB] wM _ := ((((((((((Touch.refl [RB] wM).setCell (p := ⟨RB, 0, none⟩) (by simp) (.slice b1 u1 c1)).setCell (p := ⟨RB, 1, none⟩) (by simp) (.slice b2 u2 c2)).setCell (p := ⟨RB, 2, none⟩) (by simp) (.slice b3 u3 c3)).setCell (p := ⟨RB, 3, none⟩) (by simp) (.int .i64 n3)).setCell (p := ⟨RB, 4, none⟩) (by simp) (.slice b5 u5 c5)).setCell (p := ⟨RB, 5, none⟩) (by simp) (.slice b6 u6 c6)).setCell (p := ⟨RB, 6, none⟩) (by simp) (.slice b7 u7 c7)).setCell (p := ⟨RB, 7, none⟩) (by simp) (.slice b8 u8 c8)).setCell (p := ⟨RB, 8, none⟩) (by simp) (.int .i64 n8))
              have htF : Touch [] w _ := Touch.fresh (S := [RB, RB + 1, RB + 1 + 1]) (HTM.out.trans (ttF.mono (by simp))) (fun k hk hlt => by have := HRB.out; simp at hk; omega)
              obtain ⟨W, hW⟩ : ∃ W, (((((((((wM.setCell ⟨RB, 0, none⟩ (.slice b1 u1 c1)).setCell ⟨RB, 1, none⟩ (.slice b2 u2 c2)).setCell ⟨RB, 2, none⟩ (.slice b3 u3 c3)).setCell ⟨RB, 3, none⟩ (.int .i64 n3)).setCell ⟨RB, 4, none⟩ (.slice b5 u5 c5)).setCell ⟨RB, 5, none⟩ (.slice b6 u6 c6)).setCell ⟨RB, 6, none⟩ (.slice b7 u7 c7)).setCell ⟨RB, 7, none⟩ (.slice b8 u8 c8)).setCell ⟨RB, 8, none⟩ (.int .i64 n8)) = W := ⟨_, rfl⟩
              rw [hW] at hbF htF ttF ⊢
              have HTF := Lib.hid htF
              replace HK1 := Lib.hid (HK1.out.touch ttF (fun k hk => by have := (HK1.out.own k hk).1; have := HZ1.out; simp; omega))
              replace HK2 := Lib.hid (HK2.out.touch ttF (fun k hk => by have := (HK2.out.own k hk).1; have := HZ2.out; simp; omega))
              replace HK3 := Lib.hid (HK3.out.touch ttF (fun k hk => by have := (HK3.out.own k hk).1; have := HZ3.out; simp; omega))
              replace HK5 := Lib.hid (Qu.touch HK5.out ttF (fun k hk => by have := (Qu.own HK5.out k hk).1; have := HZ5.out; simp; omega))
              replace HK6 := Lib.hid (Qu.touch HK6.out ttF (fun k hk => by have := (Qu.own HK6.out k hk).1; have := HZ6.out; simp; omega))
              replace HK7 := Lib.hid (HK7.out.touch ttF (fun k hk => by have := HZ7.out; simp only [List.mem_singleton] at hk; omega))
              replace HK8 := Lib.hid (HK8.out.touch ttF (fun k hk => by have := (HK8.out.own k hk).1; have := HZ8.out; simp; omega))
              have hpg := pg_ofT HCH.out HK1.out HK2.out HK3.out HK5.out HK6.out HK7.out HK8.out HE1.out HE2.out HE3.out HE5.out HE6.out HE7.out HE8.out
              rw [HN3.out, HN8.out] at hpg
              have HPG := Lib.hid hpg
              have q0_ := hbF.cell (i := 0) rfl
              have q1_ := hbF.cell (i := 1) rfl
              have q2_ := hbF.cell (i := 2) rfl
              have q3_ := hbF.cell (i := 3) rfl
              have q4_ := hbF.cell (i := 4) rfl
              have q5_ := hbF.cell (i := 5) rfl
              have q6_ := hbF.cell (i := 6) rfl
              have q7_ := hbF.cell (i := 7) rfl
              have q8_ := hbF.cell (i := 8) rfl
              clear r0_ g0_ p0_ r1_ g1_ p1_ r2_ g2_ p2_ r3_ g3_ p3_ r4_ g4_ p4_ r5_ g5_ p5_ r6_ g6_ p6_ r7_ g7_ p7_ r8_ g8_ p8_ zz hbF htF hW hpg ttF
              (try simp only [Exit.inBlock, Exit.then]); refine bodyPost_ret (by simp [results, Try.results17, go_sem, q0_, q1_, q2_, q3_, q4_, q5_, q6_, q7_, q8_]; try rfl) rfl ?_
              exact ⟨_, 0, rfl, HTF.out, .inl ⟨HOK.out, rfl, HPG.out⟩⟩
end Go.Proofs.Ytoedkomckgidiaa
