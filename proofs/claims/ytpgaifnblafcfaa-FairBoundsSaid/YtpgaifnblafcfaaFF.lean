/-
  The steps, as the reference has them.
-/
import Derived.Test.YtpgaifnblafcfaaFE
import Derived.Deep.RegionLaw
set_option linter.unusedVariables false
namespace Go.Proofs.Ytpgaifnblafcfaa
open Go.RowKit Go.BigFrame

/-- An append whose run is known, at a step of a region that draws its order. -/
theorem step_append_run {P : Program} {ops : Array Oper} {o : Oper} {a : Act} {w : World} {K : Act → World → Prop} {Q : Exit → Act → World → Prop} {E : Prop} (hgd : o.guard = none) (s x : Operand) (t tx : TypeId)
    (ho : o.op = .call { callee := .builtin .append, args := #[s, x], argTypes := #[t, tx] }) (vs vx : Value) (hs : a.eval s = vs) (hx : a.eval x = vx) (v' : Value) (w' : World)
    (hr : (Builtin.append_ #[t, tx] o.type #[vs, vx]).run P w = .ok v' w') (h : K (a.put o.dst v') w') : if Region.wanted o (yielded ops a.tmps) = true then Oper.wp P o a w K Q else E := by
  have hw : Region.wanted o (yielded ops a.tmps) = true := by simp [Region.wanted, hgd]
  rw [if_pos hw]
  unfold Oper.wp execOp
  simp only [ho, resolve, invoke, builtin, Sem.run_bind, Sem.run_pure, Result.andThen_ok, List.map_toArray, List.map_cons, List.map_nil, hs, hx, hr]
  exact h
theorem infoS : ∃ (i : TypeInfo) (z : Value), Try.prog.info? 37 = some i ∧ i.zero = some z ∧ i.size = 3 ∧ z.cells.size = 3 ∧ i.bytes ≤ 64 := by
  obtain ⟨i, hi⟩ := Option.isSome_iff_exists.mp (show (Try.prog.info? 37).isSome = true from by kernel_rfl)
  have h2 : (Try.prog.info? 37).map (fun i => (i.zero.isSome, i.size, decide (i.bytes ≤ 64), (i.zero.map fun z => z.cells.size))) = some (true, 3, true, some 3) := by kernel_rfl
  rw [hi] at h2
  simp at h2
  obtain ⟨h3, h4, h5, h6⟩ := h2
  obtain ⟨z, hz, hz2⟩ := h6
  exact ⟨i, z, hi, hz, h4, hz2, h5⟩
def stV (c0 c1 : Value) (p : Int) : Nat → Value := fun j => if j = 0 then c0 else if j = 1 then c1 else .int .i64 p
theorem step_born (w0 wd : World) (v : Value) (n : Nat) (ps : Nat → Nat → Value) (a0 : Option Addr) (l0 n0 : Nat) (a1 : Option Addr) (l1 n1 : Nat) (p : Int) (h : Av wd w0.heap.size 37 3 v n ps) (ht : Touch [] w0 wd) (hn : n ≤ 100000) :
    ∃ v' w2, (∀ ty, (Builtin.append_ #[27, 27] ty #[v, .slice (some ⟨wd.heap.size, 0, none⟩) 1 1]).run Try.prog (wd.alloc (.cells #[.slice a0 l0 n0, .slice a1 l1 n1, .int .i64 p] 37)) = .ok v' w2) ∧
      Av w2 w0.heap.size 37 3 v' (n + 1) (addV ps n (stV (.slice a0 l0 n0) (.slice a1 l1 n1) p)) ∧ Touch [] w0 w2 ∧ ∃ a c, v' = .slice a (n + 1) c := by
  obtain ⟨i, z, hi, hz, h5, hz5, h64⟩ := infoS
  have bp : Blk (wd.alloc (.cells #[.slice a0 l0 n0, .slice a1 l1 n1, .int .i64 p] 37)) wd.heap.size #[.slice a0 l0 n0, .slice a1 l1 n1, .int .i64 p] 37 := Blk.new rfl
  have t3 : Touch [] wd (wd.alloc (.cells #[.slice a0 l0 n0, .slice a1 l1 n1, .int .i64 p] 37)) := (Touch.refl _ _).alloc _
  have hs1 := ht.size
  obtain ⟨v2, w2, r2, A2, g2, o2⟩ := Av.append (t := 27) Try.underlying27 hi hz h5 rfl hz5 (h.touch t3 (fun _ _ => by simp)) (by simp; omega) ⟨wd.heap.size, 0, none⟩ 1 (stV (.slice a0 l0 n0) (.slice a1 l1 n1) p) (fun j hj => by
    rw [Addr.add_lit, Nat.zero_add]
    have : j = 0 ∨ j = 1 ∨ j = 2 := by omega
    rcases this with rfl | rfl | rfl <;> exact bp.cell rfl) (fun j hj => by
    have : j = 0 ∨ j = 1 ∨ j = 2 := by omega
    rcases this with rfl | rfl | rfl <;> rfl) (by have := Nat.mul_le_mul_left (n + 1) h64; omega) (by omega)
  refine ⟨v2, w2, r2, A2, (ht.trans t3).transF (Touch.grown (S := v.ownBlock.toList) (Touch.refl _ _) g2 (fun k hk _ => by simp [hk])) (fun k hk hl => by have := (h.own k (by simpa using hk)).1; omega), ?_⟩
  obtain ⟨a2, c2, e2, _⟩ := A2.form
  exact ⟨a2, c2, e2⟩
def StepsP (l : List Stp) (w : World) (e : Ending) (w' : World) : Prop := ∃ v, e = .returned v ∧ Sts w' v l ∧ Touch [] w w'
set_option maxHeartbeats 16000000 in
theorem steps_q (v : Value) (l : List Stp) (w : World) (h : Sts w v l) (hl : l.length ≤ 1000) : Calls Try.prog 6 #[v] w (StepsP l w) := by
  obtain ⟨a, cap, rfl⟩ := h.form
  have HS := Lib.hid h
  obtain ⟨L, hL⟩ : ∃ L, l.length = L := ⟨_, rfl⟩
  have HL := Lib.hid hL
  rw [hL] at hl ⊢
  clear h hL
  go_enter Try.func6, Try.ntmps6
  go_wp2
  go_loopw [3, 4] (fun ov iv wr => ∃ (j : Nat) (ps : Nat → Nat → Value), j ≤ L ∧ iv = .int .i64 j ∧ Av wr w.heap.size 37 3 ov j ps ∧ (∀ i, i < j → StC w (ps i) (stp l i)) ∧ Touch [] w wr) (fun _ iv _ => L + 1 - (intOf iv).toNat)
  case atStart => exact ⟨0, fun _ _ => .int .i64 0, by omega, rfl, .inr ⟨w.heap.size, 0, #[], rfl, Nat.le_refl _, Blk.new rfl, Nat.le_refl _, Nat.zero_le _, Nat.zero_le _, fun i hi => by omega⟩, fun i hi => by omega, (Touch.refl _ _).alloc _⟩
  case round =>
    obtain ⟨j, ps, hj, rfl, ha, hc, ht⟩ := hrel
    have HA := Lib.hid ha
    have HC := Lib.hid hc
    have HT := Lib.hid ht
    obtain ⟨va, vc, hv, _⟩ := ha.form
    subst hv
    by_cases hjn : j < L
    · have hlt : (j : Int) < (L : Int) := by omega
      obtain ⟨g, off, hga, c0, c1, s0, s1, hcc⟩ := HS.out.at (i := j) (by rw [HL.out]; exact hjn)
      obtain ⟨d0, d1, d2⟩ := hcc _ ht
      obtain ⟨a0, n0, rfl⟩ := s0.form
      obtain ⟨a1, n1, rfl⟩ := s1.form
      have HS0 := Lib.hid s0
      have HS1 := Lib.hid s1
      obtain ⟨l0, hl0⟩ : ∃ n, (stp l j).rd.length = n := ⟨_, rfl⟩
      obtain ⟨l1, hl1⟩ : ∃ n, (stp l j).ho.length = n := ⟨_, rfl⟩
      obtain ⟨pd, hpd⟩ : ∃ n, (stp l j).pid = n := ⟨_, rfl⟩
      have HP := Lib.hid hpd
      have HL0 := Lib.hid hl0
      have HL1 := Lib.hid hl1
      subst hga
      rw [hl0] at d0
      rw [hl1] at d1
      rw [hpd] at d2
      obtain ⟨v', w2, hr, hA2, hT2, a2, c2, hv'⟩ := step_born w wr.drew (.slice va j vc) j ps a0 l0 n0 a1 l1 n1 pd (ha.touch (Touch.refl [] wr).drew (by simp)) ht.drew (by omega)
      subst hv'
      have HR := Lib.hid hr
      have HA2 := Lib.hid hA2
      have HT2 := Lib.hid hT2
      clear ha hc ht hcc s0 s1 hl0 hl1 hpd hr hA2 hT2
      go_wp2_with fail
      go_region_law (first
        | ((refine step_append_run (by rfl) _ _ _ _ (by rfl) _ _ (by rfl) (by rfl) _ _ (HR.out _) ?_)))
      all_goals
        go_wp2
        go_roundw
        case rel =>
          refine ⟨j + 1, _, by omega, by go_num, HA2.out, fun i hi => ?_, HT2.out⟩
          by_cases e : i = j
          · subst e
            refine ⟨?_, ?_, ?_⟩
            · rw [addV_new]; show Sl w (.slice a0 l0 n0) _; rw [← HL0.out]; exact HS0.out
            · rw [addV_new]; show Sl w (.slice a1 l1 n1) _; rw [← HL1.out]; exact HS1.out
            · rw [addV_new]; show Value.int .i64 pd = _; rw [HP.out]
          · obtain ⟨q1, q2, q3⟩ := HC.out i (by omega)
            exact ⟨by rw [addV_old _ _ _ e]; exact q1, by rw [addV_old _ _ _ e]; exact q2, by rw [addV_old _ _ _ e]; exact q3⟩
        case measure => simp [intOf]; omega
    · have hlt : ¬ (j : Int) < (L : Int) := by omega
      obtain rfl : j = L := by omega
      clear ha hc ht
      go_wp2
      go_ret
      refine ⟨_, rfl, ?_, HT.out⟩
      refine ⟨va, vc, by rw [HL.out]; rfl, ?_⟩
      rcases HA.out with ⟨h1, h2⟩ | ⟨g, cp, cur, h1, h2, h3, h4, h5, h6, h7⟩
      · left; exact List.eq_nil_of_length_eq_zero (by rw [HL.out]; exact h2)
      · cases h1
        exact .inr ⟨g, 0, rfl, h3.lt, ps, fun i hi => ⟨(HC.out i (by rw [HL.out] at hi; exact hi)).touch HT.out, fun k hk => by rw [Nat.zero_add]; exact h3.cell (h7 i (by rw [HL.out] at hi; exact hi) k hk)⟩⟩
end Go.Proofs.Ytpgaifnblafcfaa
