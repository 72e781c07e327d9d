/-
  The reference's process table: a new process.
-/
import Derived.Test.YtjcbcbhiophkfaaX8
set_option linter.unusedVariables false
namespace Go.Proofs.Ytjcbcbhiophkfaa
open Go.RowKit Go.BigFrame

theorem infoR : ∃ (i : TypeInfo) (z : Value), Try.prog.info? 71 = some i ∧ i.zero = some z ∧ i.size = 5 ∧ z.cells.size = 5 ∧ i.bytes ≤ 64 := by
  obtain ⟨i, hi⟩ := Option.isSome_iff_exists.mp (show (Try.prog.info? 71).isSome = true from by kernel_rfl)
  have h2 : (Try.prog.info? 71).map (fun i => (i.zero.isSome, i.size, decide (i.bytes ≤ 64), (i.zero.map fun z => z.cells.size))) = some (true, 5, true, some 5) := by kernel_rfl
  rw [hi] at h2
  simp at h2
  obtain ⟨h3, h4, h5, h6⟩ := h2
  obtain ⟨z, hz, hz2⟩ := h6
  exact ⟨i, z, hi, hz, h4, hz2, h5⟩
/-- What a new process makes of the table. -/
structure RBorn (w wq : World) (b : Nat) (v : Value) (most : Int) (n : Nat) (ps : Nat → Nat → Int) (p : Int) (w1 w2 : World) (v1 v2 : Value) : Prop where
  r1 : ∀ ty, (Builtin.append_ #[61, 61] ty #[.slice (some ⟨wq.heap.size, 0, none⟩) 0 0, v]).run Try.prog (wq.alloc (.cells #[] 71)) = .ok v1 w1
  r2 : ∀ ty, (Builtin.append_ #[61, 61] ty #[v1, .slice (some ⟨w1.heap.size, 0, none⟩) 1 1]).run Try.prog (w1.alloc (.cells #[.int .i64 p, .int .i64 1, .int .i64 0, .int .i64 0, .int .i64 0] 71)) = .ok v2 w2
  c0 : ∀ o, (wq.alloc o).cell? ⟨b, 1, none⟩ = some v
  c1 : w1.cell? ⟨b, 1, none⟩ = some v
  c2 : w2.cell? ⟨b, 1, none⟩ = some v
  f2 : w2.frozen? ⟨b, 1, none⟩ = false
  f1 : ∃ a c, v1 = .slice a n c
  f3 : ∃ a c, v2 = .slice a (n + 1) c
  left : ∃ G', Rt (w2.setCell ⟨b, 1, none⟩ v2) b G' most (n + 1) (addP ps n (newF p)) ∧ Fr (rp b v) w G' (w2.setCell ⟨b, 1, none⟩ v2)
set_option maxHeartbeats 4000000 in
theorem rborn (w wq : World) (b : Nat) (v : Value) (most : Int) (n : Nat) (ps : Nat → Nat → Int) (p : Int) (h : Rv w b v most n ps) (ht : Touch [] w wq) (hn : n ≤ 9000) :
    ∃ w1 w2 v1 v2, RBorn w wq b v most n ps p w1 w2 v1 v2 := by
  obtain ⟨i, z, hi, hz, h5, hz5, h64⟩ := infoR
  have hv := h.touch ht (fun _ _ => by simp)
  have hsz := ht.size
  have hblt := h.obj.lt
  have t1 : Touch [] wq (wq.alloc (.cells #[] 71)) := (Touch.refl _ _).alloc _
  have A0 : Ar (wq.alloc (.cells #[] 71)) wq.heap.size 71 5 (.slice (some ⟨wq.heap.size, 0, none⟩) 0 0) 0 (sw ps) :=
    .inr ⟨wq.heap.size, 0, #[], rfl, Nat.le_refl _, Blk.new rfl, Nat.le_refl _, Nat.zero_le _, Nat.zero_le _, fun i hi => by omega⟩
  have hv1 := hv.touch t1 (fun _ _ => by simp)
  obtain ⟨v1, w1, r1, A1, g1, o1⟩ := Ar.appendN (t := 61) Try.underlying61 hi hz h5 rfl hz5 (by omega) A0 (by simp) (hv1.all.src Try.underlying61 (by omega)) (by have := Nat.mul_le_mul_left (0 + n) h64; omega) (by omega)
  rw [Nat.zero_add] at A1
  have A1 : Ar w1 wq.heap.size 71 5 v1 n (sw ps) := A1.congr (fun a ha k hk => by rw [catP_new _ _ _ (by omega), Nat.sub_zero])
  have t2 : Touch [] wq w1 := t1.transF (Touch.grown (S := [wq.heap.size]) (Touch.refl _ _) g1 (fun k hk _ => by simp [Value.ownBlock] at hk; simp [hk])) (fun k hk hl => by simp at hk; omega)
  have hv2 := hv.touch t2 (fun _ _ => by simp)
  have bp : Blk (w1.alloc (.cells #[.int .i64 p, .int .i64 1, .int .i64 0, .int .i64 0, .int .i64 0] 71)) w1.heap.size #[.int .i64 p, .int .i64 1, .int .i64 0, .int .i64 0, .int .i64 0] 71 := Blk.new rfl
  have t3 : Touch [] w1 (w1.alloc (.cells #[.int .i64 p, .int .i64 1, .int .i64 0, .int .i64 0, .int .i64 0] 71)) := (Touch.refl _ _).alloc _
  have hs1 := t2.size
  obtain ⟨v2, w2, r2, A2, g2, o2⟩ := Ar.append (t := 61) Try.underlying61 hi hz h5 rfl hz5 (A1.touch t3 (fun _ _ => by simp)) (by simp; omega) ⟨w1.heap.size, 0, none⟩ 1 (fun j => newF p (sx j)) (fun j hj => by
    rw [Addr.add_lit, Nat.zero_add]
    have : j = 0 ∨ j = 1 ∨ j = 2 ∨ j = 3 ∨ j = 4 := by omega
    rcases this with rfl | rfl | rfl | rfl | rfl <;> exact bp.cell rfl) (by have := Nat.mul_le_mul_left (n + 1) h64; omega) (by omega)
  have t4 : Touch [] wq w2 := (t2.trans t3).transF (Touch.grown (S := v1.ownBlock.toList) (Touch.refl _ _) g2 (fun k hk _ => by simp [hk])) (fun k hk hl => by have := (A1.own k (by simpa using hk)).1; omega)
  have hv3 := hv.touch t4 (fun _ _ => by simp)
  have hs2 := t4.size
  have t5 : Touch [b] w2 (w2.setCell ⟨b, 1, none⟩ v2) := (Touch.refl _ _).setCell (by simp) _
  have hbq : b < wq.heap.size := by omega
  have na' : ∀ k, v2.ownBlock = some k → k ≠ b := fun k hk => by
    have := (A2.own k hk).1
    omega
  have A3 := (A2.touch t5 (fun k hk => by have := na' k hk; simp; omega)).mono (Nat.zero_le _)
  have hR : Rv (w2.setCell ⟨b, 1, none⟩ v2) b v2 most (n + 1) (addP ps n (newF p)) :=
    ⟨by simpa using hv3.obj.set 1 v2, A3.congr (fun a ha k hk => by
      unfold addP sw
      by_cases e : a = n <;> simp [e]), na'⟩
  obtain ⟨a1, c1, e1, _⟩ := A1.form
  obtain ⟨a2, c2, e2, _⟩ := A2.form
  exact ⟨w1, w2, v1, v2, r1, r2, fun o => (hv.obj.alloc o).cell (i := 1) rfl, hv2.obj.cell (i := 1) rfl, hv3.obj.cell (i := 1) rfl, hv3.obj.free 1, ⟨a1, c1, e1⟩, ⟨a2, c2, e2⟩,
    _, ⟨_, hR, rfl⟩, ((ht.trans t4).mono (by simp)).trans (t5.mono (by simp [rp])), fun k hk => by
      unfold rp at hk
      rw [List.mem_cons] at hk
      rcases hk with rfl | hk
      · exact .inl (by simp [rp])
      · have := (A2.own k (by simpa using hk)).1; exact .inr (by omega), hR.lt⟩
section
variable (b : Nat) (G : List Nat) (most : Int) (n : Nat) (ps : Nat → Nat → Int) (w : World)
theorem rspawn_none (p : Int) (h : Rt w b G most n ps) (hn : n ≤ 9000) (hp : p ≠ 0) (hs : isL ps n p = false) : Calls Try.prog 10 #[.pointer (some ⟨b, 0, none⟩), .int .i64 p] w fun e w' => e = .returned (.tuple #[.int .i64 0, .int .i64 3]) ∧ w = w' := by
  have HC := Lib.hid (rlives b G most n ps w p h (by omega))
  rw [hs] at HC
  have e1 : (p != 0) = true := bneT hp
  clear h hs hp
  go_enter Try.func10, Try.ntmps10
  go_wp2_with fail
  refine HC.out.mono ?_
  rintro e w1 ⟨rfl, rfl⟩
  go_wp2
  go_ret2
  exact ⟨rfl, rfl⟩
theorem Rt.mostC (h : Rt w b G most n ps) (q : Later w) : q.world.cell? ⟨b, 0, none⟩ = some (.int .i64 most) := by
  obtain ⟨v, h, _⟩ := h
  exact (h.touch q.ok (fun _ _ => by simp)).obj.cell (i := 0) rfl
set_option maxHeartbeats 16000000 in
theorem rspawn_full (p : Int) (h : Rt w b G most n ps) (hn : n ≤ 9000) (hp : p = 0 ∨ isL ps n p = true) (hf : ((upF n (lvF ps)).length : Int) = most) : Calls Try.prog 10 #[.pointer (some ⟨b, 0, none⟩), .int .i64 p] w fun e w' => e = .returned (.tuple #[.int .i64 0, .int .i64 42]) ∧ Touch [] w w' := by
  have HC := Lib.hid (rlives b G most n ps w p h (by omega))
  have HH := Lib.hid h
  have x0 := fun q : Later w => Rt.mostC b G most n ps w h q
  have HL := Lib.hid (upF_len n (lvF ps))
  obtain ⟨m, hm⟩ : ∃ m, (upF n (lvF ps)).length = m := ⟨_, rfl⟩
  have HM := Lib.hid hm
  rw [hm] at hf HL
  have em : decide (most ≤ (m : Int)) = true := dT (by omega)
  have hm9 : m ≤ 9000 := by have := HL.out; omega
  clear h hm HL hf
  by_cases hp0 : p = 0
  · subst hp0
    clear hp HC
    go_enter Try.func10, Try.ntmps10
    go_wp2_with fail
    refine wp_region_later (by kernel_rfl) (by kernel_rfl) ?_
    repeat (first
      | (go_big_quiet_step ((first | (with_reducible rfl) | exact Later.met (HM.out ▸ rlive b G most n ps _ (HH.out.still (Later.ok _)) hn))))
      | (quiet_step (fail)))
    refine wpQuiet_nil ?_
    intro wq hw'
    obtain ⟨⟨wq', hwq⟩, hwe⟩ := hw'
    have hwe : wq = wq' := hwe
    subst hwe
    have HT := Lib.hid hwq
    clear hwe hwq x0
    go_wp2
    go_ret2
    exact ⟨rfl, HT.out⟩
  · rw [show isL ps n p = true from by rcases hp with h | h; exact absurd h hp0; exact h] at HC
    have e0 : (p != 0) = true := bneT hp0
    clear hp hp0
    go_enter Try.func10, Try.ntmps10
    go_wp2_with fail
    refine HC.out.mono ?_
    rintro e w1 ⟨rfl, rfl⟩
    go_wp2_with fail
    refine wp_region_later (by kernel_rfl) (by kernel_rfl) ?_
    repeat (first
      | (go_big_quiet_step ((first | (with_reducible rfl) | exact Later.met (HM.out ▸ rlive b G most n ps _ (HH.out.still (Later.ok _)) hn))))
      | (quiet_step (fail)))
    refine wpQuiet_nil ?_
    intro wq hw'
    obtain ⟨⟨wq', hwq⟩, hwe⟩ := hw'
    have hwe : wq = wq' := hwe
    subst hwe
    have HT := Lib.hid hwq
    clear hwe hwq x0
    go_wp2
    go_ret2
    exact ⟨rfl, HT.out⟩
set_option maxHeartbeats 16000000 in
theorem rspawn_ok (p : Int) (h : Rt w b G most n ps) (hn : n ≤ 9000) (hp : p = 0 ∨ isL ps n p = true) (hf : ((upF n (lvF ps)).length : Int) ≠ most) (hle : ((upF n (lvF ps)).length : Int) ≤ most) : Calls Try.prog 10 #[.pointer (some ⟨b, 0, none⟩), .int .i64 p] w (RtP b G most (n + 1) (addP ps n (newF p)) (.tuple #[.int .i64 ((n : Int) + 1), .int .i64 0]) w) := by
  have HC := Lib.hid (rlives b G most n ps w p h (by omega))
  have HH := Lib.hid h
  have x0 := fun q : Later w => Rt.mostC b G most n ps w h q
  have HL := Lib.hid (upF_len n (lvF ps))
  obtain ⟨m, hm⟩ : ∃ m, (upF n (lvF ps)).length = m := ⟨_, rfl⟩
  have HM := Lib.hid hm
  rw [hm] at hf HL hle
  have em : decide (most ≤ (m : Int)) = false := dF (by omega)
  have hm9 : m ≤ 9000 := by have := HL.out; omega
  clear h hm HL hf hle
  by_cases hp0 : p = 0
  · subst hp0
    clear hp HC
    go_enter Try.func10, Try.ntmps10
    go_wp2_with fail
    refine wp_region_later (by kernel_rfl) (by kernel_rfl) ?_
    repeat (first
      | (go_big_quiet_step ((first | (with_reducible rfl) | exact Later.met (HM.out ▸ rlive b G most n ps _ (HH.out.still (Later.ok _)) hn))))
      | (quiet_step (fail)))
    refine wpQuiet_nil ?_
    intro wq hw'
    obtain ⟨⟨wq', hwq⟩, hwe⟩ := hw'
    have hwe : wq = wq' := hwe
    subst hwe
    obtain ⟨v, hv, hG⟩ := HH.out
    obtain ⟨wa, wb, v1, v2, hB⟩ := rborn w wq b v most n ps 0 hv hwq hn
    have HB := Lib.hid hB
    have HG := Lib.hid hG
    have c0 := hB.c0
    have c1 := hB.c1
    have c2 := hB.c2
    have f2 := hB.f2
    obtain ⟨fa1, fa2, hfa⟩ := hB.f1
    obtain ⟨fl1, fl2, hfl⟩ := hB.f3
    subst hfa hfl
    have HR1 := Lib.hid hB.r1
    have HR2 := Lib.hid hB.r2
    obtain ⟨va, vc, he, _⟩ := hv.all.form
    subst he
    clear hwe hwq x0 hv hB hG
    go_wp2_with (at_builtin; first
      | (with_reducible refine Lib.wpList_append_run _ rfl _ _ _ _ rfl _ _ rfl rfl _ _ (HR1.out _) ?_)
      | (with_reducible refine Lib.wpList_append_run _ rfl _ _ _ _ rfl _ _ rfl rfl _ _ (HR2.out _) ?_))
    go_ret2
    obtain ⟨G', h1, h2⟩ := HB.out.left
    exact ⟨G', rfl, h1, HG.out ▸ h2⟩
  · rw [show isL ps n p = true from by rcases hp with h | h; exact absurd h hp0; exact h] at HC
    have e0 : (p != 0) = true := bneT hp0
    clear hp hp0
    go_enter Try.func10, Try.ntmps10
    go_wp2_with fail
    refine HC.out.mono ?_
    rintro e w1 ⟨rfl, rfl⟩
    go_wp2_with fail
    refine wp_region_later (by kernel_rfl) (by kernel_rfl) ?_
    repeat (first
      | (go_big_quiet_step ((first | (with_reducible rfl) | exact Later.met (HM.out ▸ rlive b G most n ps _ (HH.out.still (Later.ok _)) hn))))
      | (quiet_step (fail)))
    refine wpQuiet_nil ?_
    intro wq hw'
    obtain ⟨⟨wq', hwq⟩, hwe⟩ := hw'
    have hwe : wq = wq' := hwe
    subst hwe
    obtain ⟨v, hv, hG⟩ := HH.out
    obtain ⟨wa, wb, v1, v2, hB⟩ := rborn w wq b v most n ps p hv hwq hn
    have HB := Lib.hid hB
    have HG := Lib.hid hG
    have c0 := hB.c0
    have c1 := hB.c1
    have c2 := hB.c2
    have f2 := hB.f2
    obtain ⟨fa1, fa2, hfa⟩ := hB.f1
    obtain ⟨fl1, fl2, hfl⟩ := hB.f3
    subst hfa hfl
    have HR1 := Lib.hid hB.r1
    have HR2 := Lib.hid hB.r2
    obtain ⟨va, vc, he, _⟩ := hv.all.form
    subst he
    clear hwe hwq x0 hv hB hG
    go_wp2_with (at_builtin; first
      | (with_reducible refine Lib.wpList_append_run _ rfl _ _ _ _ rfl _ _ rfl rfl _ _ (HR1.out _) ?_)
      | (with_reducible refine Lib.wpList_append_run _ rfl _ _ _ _ rfl _ _ rfl rfl _ _ (HR2.out _) ?_))
    go_ret2
    obtain ⟨G', h1, h2⟩ := HB.out.left
    exact ⟨G', rfl, h1, HG.out ▸ h2⟩
end
end Go.Proofs.Ytjcbcbhiophkfaa
