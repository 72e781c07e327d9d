/-
  The reference's stack: Push.
-/
import Derived.Test.YtgljkjjanffncaaT21
set_option linter.unusedVariables false
namespace Go.Proofs.Ytgljkjjanffncaa
open Go.RowKit Go.BigFrame

theorem Touch.fresh0 {L : List Nat} {a b : World} (h : Touch L a b) {w0 : World} (h0 : w0.heap.size ≤ a.heap.size) (hL : ∀ k ∈ L, w0.heap.size ≤ k) (hw : Touch [] w0 a) : Touch [] w0 b :=
  hw.transF h (fun i hi hlt => absurd (hL i hi) (by omega))
section
variable (B : List Nat) (base t size : Nat) (F : Frm) (r : List Frm) (w : World)
set_option maxHeartbeats 8000000 in
theorem rpush_no (x : Int) (hn : r.length ≤ 900000) (hm : topS (F :: r) ≤ 1000000) (hr : ¬ topS (F :: r) < size) (hs : size ≤ 1000000) (h : Rs w B base t size (F :: r)) :
    Calls Try.prog 23 #[.pointer (some ⟨t, 0, none⟩), .int .i64 x] w fun e w' => e = .returned (.int .i64 41) ∧ Touch [] w w' := by
  obtain ⟨v, ps, h⟩ := h
  have HK := Lib.hid h
  have HL := Lib.hid (fun w' h' => rlen_q B base t size (F :: r) v ps w' (by simp; omega) hm (by simp) h')
  have x0 := fun q : Later w => (HK.out.still q.ok).obj.cell (i := 0) rfl
  obtain ⟨T, hT⟩ : ∃ T, topS (F :: r) = T := ⟨_, rfl⟩
  rw [hT] at HL hr
  have q1 : decide ((size : Int) ≤ (T : Int)) = true := dT (by omega)
  have q2 : size ≤ T := by omega
  clear h hm hn hT hr
  go_enter Try.func23, Try.ntmps23
  go_wp2_with fail
  refine wp_region_later (by kernel_rfl) (by kernel_rfl) ?_
  repeat (first
    | (go_big_quiet_step ((first | (with_reducible rfl) | exact Later.same (HL.out _ (HK.out.still (Later.ok _))))))
    | (quiet_step (fail)))
  refine wpQuiet_nil ?_
  intro wq hw'
  obtain ⟨⟨wq', hwq⟩, hwe⟩ := hw'
  have hwe : wq = wq' := hwe
  subst hwe
  have HT := Lib.hid hwq
  clear hwe hwq x0
  go_wp2
  go_ret
  exact ⟨rfl, HT.out⟩
set_option maxHeartbeats 16000000 in
theorem rpush_yes (x : Int) (hn : r.length ≤ 900000) (hm : topS (F :: r) ≤ 1000000) (hr : topS (F :: r) < size) (hs : size ≤ 1000000) (hB : ∀ b ∈ B, b < w.heap.size) (h : Rs w B base t size (F :: r)) :
    Calls Try.prog 23 #[.pointer (some ⟨t, 0, none⟩), .int .i64 x] w (RsP B base t size ({F with ops := F.ops ++ [x]} :: r) (.int .i64 0) w) := by
  obtain ⟨i0, hi, hz0, hz1, hz2⟩ := infoI
  obtain ⟨v, ps, h⟩ := h
  have HK := Lib.hid h
  have HBB := Lib.hid hB
  have HL := Lib.hid (fun w' h' => rlen_q B base t size (F :: r) v ps w' (by simp; omega) hm (by simp) h')
  have x0 := fun q : Later w => (HK.out.still q.ok).obj.cell (i := 0) rfl
  have hom := topS_ops F r
  obtain ⟨T, hT⟩ : ∃ T, topS (F :: r) = T := ⟨_, rfl⟩
  rw [hT] at HL hr hom hm
  have q1 : decide ((size : Int) ≤ (T : Int)) = false := dF (by omega)
  have q2 : ¬ size ≤ T := by omega
  obtain ⟨g, cap, rfl, hg, hc1, hc2, hc, hz⟩ := h.top
  have HC := Lib.hid (fun w' (ht : Touch [] w w') => rtop_q B base t size F r ps w' g cap (by omega) (h.still ht))
  obtain ⟨a, ca, ho⟩ := Qu.form h.fr.2.2.2
  have HO := Lib.hid (fun w' (ht : Touch [] w w') => by
    obtain ⟨g', cap', he, _, _, _, hc', hz'⟩ := (h.still ht).top
    cases he
    have := hc' 2 (by omega)
    rw [ho] at this
    exact (⟨this, hz' (r.length * 3 + 2)⟩ : _ ∧ _))
  have HV := Lib.hid (fun w' (ht : Touch [] w w') => (h.still ht).fr.2.2.2.sl)
  rw [ho] at HV
  have hlm : F.ops.length ≤ 1000000 := by omega
  obtain ⟨n, hn'⟩ : ∃ n, r.length = n := ⟨_, rfl⟩
  have HN := Lib.hid hn'
  rw [hn'] at HC HO
  have HBS : Hid (base ≤ w.heap.size) := Lib.hid (by have := h.bt; have := h.obj.lt; omega)
  clear h hm hn hT hr hc hz ho hn' hom hB hc1 hc2
  go_enter Try.func23, Try.ntmps23
  go_wp2_with fail
  refine wp_region_later (by kernel_rfl) (by kernel_rfl) ?_
  repeat (first
    | (go_big_quiet_step ((first | (with_reducible rfl) | exact Later.same (HL.out _ (HK.out.still (Later.ok _))))))
    | (quiet_step (fail)))
  refine wpQuiet_nil ?_
  intro wq hw'
  obtain ⟨⟨wq', hwq⟩, hwe⟩ := hw'
  have hwe : wq = wq' := hwe
  subst hwe
  have HT := Lib.hid hwq
  clear hwe hwq x0
  go_wp2_with fail
  refine (HC.out _ HT.out).mono ?_
  rintro e w1 ⟨rfl, ht⟩
  have HT := Lib.hid (HT.out.trans ht)
  clear ht
  go_wp2_with fail
  refine (HC.out _ HT.out).mono ?_
  rintro e w2 ⟨rfl, ht⟩
  have HT := Lib.hid (HT.out.trans ht)
  obtain ⟨y2, _⟩ := HO.out _ HT.out
  clear ht
  go_wp2_with fail
  refine (rcopy_any _ F.ops w2 (HV.out _ HT.out) hlm).mono ?_
  rintro e w3 ⟨v3, rfl, hq, ht⟩
  have hs2 := HT.out.size
  have HQ := Lib.hid ((hq.mono hs2).alloc (.cells #[.int .i64 x] 3))
  have HQ0 := Lib.hid (hq.mono hs2)
  have HT := Lib.hid (HT.out.trans ht)
  have hs3 := HT.out.size
  clear ht y2 hq
  go_wp2_with (at_builtin; refine wpList_append_q Try.underlying37 hi hz0 hz1 hz2 rfl rfl _ _ rfl w.heap.size _ _ rfl HQ.out (by simp; omega) ⟨w3.heap.size, 0, none⟩ 1 (.int .i64 x) rfl ?c1 rfl ?c2 ?c3 ?_)
  case c1 => exact World.cell?_alloc_at _ _ _ _ rfl
  case c2 => simp; omega
  case c3 => simp; omega
  intro v' w4 hq2 hgr hnew
  have ht4 : Touch [] w w4 := ((HT.out).alloc _).grown hgr (fun k hk hlt => absurd (HQ0.out.own k hk).1 (by omega))
  have HT4 := Lib.hid ht4
  have hq3 : QI w4 w.heap.size v' (F.ops ++ [x]) := by unfold QI; rw [List.map_append]; exact hq2
  have HQ3 := Lib.hid hq3
  obtain ⟨y2, z2⟩ := HO.out _ ht4
  clear ht4 hq2 hgr hnew hq3 HQ HQ0
  obtain ⟨a4, c4, rfl⟩ := Qu.form HQ3.out
  go_wp2
  go_ret
  obtain ⟨hR, ht5, hbg, hgB⟩ := HK.out.setOps HBB.out HT4.out (HQ3.out.mono HBS.out) (fun b hb => (HQ3.out.own b hb).1)
  rw [HN.out] at hR ht5
  simp only [List.length_append, List.length_cons, List.length_nil, Nat.zero_add] at hR ht5
  exact ⟨rfl, ⟨_, _, hR⟩, ⟨[g], (HT4.out.mono (by simp)).trans ht5, fun b hb => by simp at hb; subst hb; exact ⟨hbg, hgB⟩⟩⟩
end
end Go.Proofs.Ytgljkjjanffncaa
