/-
  The process table: a process comes.
-/
import Derived.Test.YtjcbcbhiophkfaaE
set_option linter.unusedVariables false
namespace Go.Proofs.Ytjcbcbhiophkfaa
open Go.RowKit Go.BigFrame

section
variable (b : Nat) (F : List Nat) (most : Int) (n : Nat) (ps : Nat → Nat → Int) (live : List Int) (w : World)
set_option maxHeartbeats 2000000 in
theorem spawn_none (p : Int) (h : Pt w b F most n ps live) (hn : n ≤ 9000000) (hp : p ≠ 0) (hs : isL ps n p = false) : Calls Try.prog 9 #[.pointer (some ⟨b, 0, none⟩), .int .i64 p] w fun e w' => e = .returned (.tuple #[.int .i64 0, .int .i64 3]) ∧ w = w' := by
  obtain ⟨va, vl, h, rfl⟩ := h
  have HC := Lib.hid (isLive_any b va vl most n ps live w p h hn)
  rw [hs] at HC
  have e0 : (p != 0) = true := bneT hp
  clear h hs hp
  go_enter Try.func9, Try.ntmps9
  go_wp2_with fail
  refine HC.out.mono ?_
  rintro e w1 ⟨rfl, rfl⟩
  go_wp2
  go_ret2
  exact ⟨rfl, rfl⟩

set_option maxHeartbeats 8000000 in
theorem spawn_full (p : Int) (h : Pt w b F most n ps live) (hn : n ≤ 9000000) (hp : p = 0 ∨ isL ps n p = true) (hf : (live.length : Int) = most) : Calls Try.prog 9 #[.pointer (some ⟨b, 0, none⟩), .int .i64 p] w fun e w' => e = .returned (.tuple #[.int .i64 0, .int .i64 42]) ∧ Touch [] w w' := by
  obtain ⟨va, vl, h, rfl⟩ := h
  have HC := Lib.hid (isLive_any b va vl most n ps live w p h hn)
  have HH := Lib.hid h
  have x0 := fun q : Later w => (h.still q.ok).obj.cell (i := 0) rfl
  have em : (((live.length : Nat) : Int) == most) = true := beqT hf
  clear h hf
  by_cases hp0 : p = 0
  · subst hp0
    clear hp HC
    go_enter Try.func9, Try.ntmps9
    go_wp2_with fail
    refine wp_region_later (by kernel_rfl) (by kernel_rfl) ?_
    repeat (first
      | (go_big_quiet_step ((first | (with_reducible rfl) | exact Later.same (live_any b va vl most n ps live _ (HH.out.still (Later.ok _))))))
      | (quiet_step (fail)))
    refine wpQuiet_nil ?_
    intro _ hw'
    obtain ⟨⟨wq, hwq⟩, rfl⟩ := hw'
    have HT := Lib.hid hwq
    clear hwq x0
    go_wp2
    go_ret2
    exact ⟨rfl, HT.out⟩
  · rw [show isL ps n p = true from by rcases hp with h | h; exact absurd h hp0; exact h] at HC
    have e0 : (p != 0) = true := bneT hp0
    clear hp hp0
    go_enter Try.func9, Try.ntmps9
    go_wp2_with fail
    refine HC.out.mono ?_
    rintro e w1 ⟨rfl, rfl⟩
    go_wp2_with fail
    refine wp_region_later (by kernel_rfl) (by kernel_rfl) ?_
    repeat (first
      | (go_big_quiet_step ((first | (with_reducible rfl) | exact Later.same (live_any b va vl most n ps live _ (HH.out.still (Later.ok _))))))
      | (quiet_step (fail)))
    refine wpQuiet_nil ?_
    intro _ hw'
    obtain ⟨⟨wq, hwq⟩, rfl⟩ := hw'
    have HT := Lib.hid hwq
    clear hwq x0
    go_wp2
    go_ret2
    exact ⟨rfl, HT.out⟩

set_option maxHeartbeats 1000000 in
theorem add_any (b i n : Nat) (w : World) (h : w.cell? ⟨b, i, none⟩ = some (.int .i64 n)) (hf : w.frozen? ⟨b, i, none⟩ = false) (hn : n ≤ 9000000) : Calls Try.prog 27 #[.pointer (some ⟨b, i, none⟩), .int .i64 1] w fun e w' => e = .returned (.int .i64 ((n : Int) + 1)) ∧ w.setCell ⟨b, i, none⟩ (.int .i64 ((n : Int) + 1)) = w' := by
  have hadd := run_call_add (P := Try.prog) Try.func46 (by kernel_rfl) (by kernel_rfl) (by kernel_rfl) .i64 (by kernel_rfl) h hf (y := 1) (s := (n : Int) + 1) (by simp [go_sem, IntKind.wrap_i64]; omega)
  clear h
  go_enter Try.func27, Try.ntmps27
  go_wp2
  go_ret
  exact ⟨rfl, rfl⟩
/-- What is known of a new process. -/
def newF (p : Int) : Nat → Int := fun j => if j = 0 then 1 else if j = 1 then p else 0
theorem infoP : ∃ (i : TypeInfo) (z : Value), Try.prog.info? 69 = some i ∧ i.zero = some z ∧ i.size = 5 ∧ z.cells.size = 5 ∧ i.bytes ≤ 64 := by
  obtain ⟨i, hi⟩ := Option.isSome_iff_exists.mp (show (Try.prog.info? 69).isSome = true from by kernel_rfl)
  have h2 : (Try.prog.info? 69).map (fun i => (i.zero.isSome, i.size, decide (i.bytes ≤ 64), (i.zero.map fun z => z.cells.size))) = some (true, 5, true, some 5) := by kernel_rfl
  rw [hi] at h2
  simp at h2
  obtain ⟨h3, h4, h5, h6⟩ := h2
  obtain ⟨z, hz, hz2⟩ := h6
  exact ⟨i, z, hi, hz, h4, hz2, h5⟩
/-- What a new process makes of the table, from the count on. -/
structure Born (w wq : World) (b : Nat) (va vl : Value) (most : Int) (n : Nat) (ps : Nat → Nat → Int) (live : List Int) (p : Int) (W1 w2 w4 : World) (va' vl' : Value) : Prop where
  e1 : W1 = wq.setCell ⟨b, 1, none⟩ (.int .i64 ((n : Int) + 1))
  r1 : ∀ ty, (Builtin.append_ #[57, 57] ty #[va, .slice (some ⟨W1.heap.size, 0, none⟩) 1 1]).run Try.prog (W1.alloc (.cells #[.int .i64 1, .int .i64 p, .int .i64 0, .int .i64 0, .int .i64 0] 69)) = .ok va' w2
  r2 : ∀ ty, (Builtin.append_ #[42, 42] ty #[vl, .slice (some ⟨w2.heap.size, 0, none⟩) 1 1]).run Try.prog ((w2.setCell ⟨b, 2, none⟩ va').alloc (.cells #[.int .i64 ((n : Int) + 1)] 3)) = .ok vl' w4
  c2 : ∀ o, (W1.alloc o).cell? ⟨b, 2, none⟩ = some va
  c2' : w2.cell? ⟨b, 2, none⟩ = some va
  f2 : w2.frozen? ⟨b, 2, none⟩ = false
  c3 : ∀ o, ((w2.setCell ⟨b, 2, none⟩ va').alloc o).cell? ⟨b, 3, none⟩ = some vl
  c3' : w4.cell? ⟨b, 3, none⟩ = some vl
  f3 : w4.frozen? ⟨b, 3, none⟩ = false
  k2 : W1.cell? ⟨b, 2, none⟩ = some va
  k3 : (w2.setCell ⟨b, 2, none⟩ va').cell? ⟨b, 3, none⟩ = some vl
  left : ∃ F', Pt (w4.setCell ⟨b, 3, none⟩ vl') b F' most (n + 1) (addP ps n (newF p)) (live ++ [(n : Int) + 1]) ∧ Fr (fp b va vl) w F' (w4.setCell ⟨b, 3, none⟩ vl')
  fa : ∃ a c, va' = .slice a (n + 1) c
  fl : ∃ a c, vl' = .slice a (live.length + 1) c
set_option maxHeartbeats 4000000 in
theorem born (w wq : World) (b : Nat) (va vl : Value) (most : Int) (n : Nat) (ps : Nat → Nat → Int) (live : List Int) (p : Int) (h : Pv w b va vl most n ps live) (ht : Touch [] w wq) (hn : n ≤ 9000) (hl : live.length ≤ 9000) :
    ∃ W1 w2 w4 va' vl', Born w wq b va vl most n ps live p W1 w2 w4 va' vl' := by
  obtain ⟨i, z, hi, hz, h5, hz5, h64⟩ := infoP
  have hv := h.still ht
  have hsz := ht.size
  have hblt := h.obj.lt
  obtain ⟨W1, hW1⟩ : ∃ W1, W1 = wq.setCell ⟨b, 1, none⟩ (.int .i64 ((n : Int) + 1)) := ⟨_, rfl⟩
  have t1 : Touch [b] wq W1 := by rw [hW1]; exact (Touch.refl _ _).setCell (by simp) _
  have b1 : Blk W1 b #[.int .i64 most, .int .i64 ((n : Int) + 1), va, vl] 59 := by rw [hW1]; exact hv.obj.set 1 _
  have A1 : Ar W1 0 69 5 va n ps := hv.all.touch t1 (fun k hk => by have := hv.na k hk; simp; omega)
  have L1 : Qu W1 0 3 vl (live.map (Value.int .i64)) := hv.live.touch t1 (fun k hk => by have := hv.nl k hk; simp; omega)
  have bp : Blk (W1.alloc (.cells #[.int .i64 1, .int .i64 p, .int .i64 0, .int .i64 0, .int .i64 0] 69)) W1.heap.size #[.int .i64 1, .int .i64 p, .int .i64 0, .int .i64 0, .int .i64 0] 69 := Blk.new rfl
  have ta : Touch [] W1 (W1.alloc (.cells #[.int .i64 1, .int .i64 p, .int .i64 0, .int .i64 0, .int .i64 0] 69)) := (Touch.refl _ _).alloc _
  obtain ⟨va', w2, r1, A2, g2, o2⟩ := Ar.append (t := 57) Try.underlying57 hi hz h5 rfl hz5 (A1.touch ta (fun _ _ => by simp)) (Nat.zero_le _) ⟨W1.heap.size, 0, none⟩ 1 (newF p) (fun j hj => by
    rw [Addr.add_lit, Nat.zero_add]
    have : j = 0 ∨ j = 1 ∨ j = 2 ∨ j = 3 ∨ j = 4 := by omega
    rcases this with rfl | rfl | rfl | rfl | rfl <;> exact bp.cell rfl) (by have := Nat.mul_le_mul_left (n + 1) h64; omega) (by omega)
  have hs1 : w.heap.size ≤ W1.heap.size := by have := t1.size; omega
  have t2 : Touch (fp b va vl) w w2 := (((ht.mono (by simp)).trans (t1.mono (by simp [fp]))).alloc _).grown g2 (fun k hk _ => by simp [fp, hk])
  have t12 : Touch va.ownBlock.toList W1 w2 := (((Touch.refl _ W1).alloc _)).grown g2 (fun k hk _ => by simp [hk])
  have b2 : Blk w2 b #[.int .i64 most, .int .i64 ((n : Int) + 1), va, vl] 59 := b1.touch t12 (fun hm => by
    have hm : va.ownBlock = some b := by simpa [Option.mem_toList] using hm
    exact h.na b hm rfl)
  have L2 : Qu w2 0 3 vl (live.map (Value.int .i64)) := L1.touch t12 (fun k hk hm => by
    have hm : va.ownBlock = some k := by simpa [Option.mem_toList] using hm
    exact h.nn k hm hk)
  have b3 := b2.set 2 va'
  have t3 : Touch [b] w2 (w2.setCell ⟨b, 2, none⟩ va') := (Touch.refl _ _).setCell (by simp) _
  have na' : ∀ k, va'.ownBlock = some k → k ≠ b := fun k hk => by
    rcases o2 k hk with e | e
    · exact h.na k e
    · simp at e; omega
  have A3 := A2.touch t3 (fun k hk => by have := na' k hk; simp; omega)
  have L3 := L2.touch t3 (fun k hk => by have := h.nl k hk; simp; omega)
  have hs2 : w.heap.size ≤ w2.heap.size := t2.size
  have h3s : (w2.setCell ⟨b, 2, none⟩ va').heap.size = w2.heap.size := by simp [World.setCell]
  obtain ⟨vl', w4, r2, L4, g4, o4⟩ := Qu.appendI (L3.alloc (.cells #[.int .i64 ((n : Int) + 1)] 3)) (Nat.zero_le _) (show Sl ((w2.setCell ⟨b, 2, none⟩ va').alloc (.cells #[.int .i64 ((n : Int) + 1)] 3)) (.slice (some ⟨w2.heap.size, 0, none⟩) 1 1) [(n : Int) + 1] from ⟨_, 1, rfl, .inr ⟨w2.heap.size, 0, rfl, by simp [World.setCell], row1 _ _ _ _ h3s.symm⟩⟩) (by simp; omega)
  have t34 : Touch vl.ownBlock.toList (w2.setCell ⟨b, 2, none⟩ va') w4 := (((Touch.refl _ _).alloc _)).grown g4 (fun k hk _ => by simp [hk])
  have b4 : Blk w4 b _ 59 := b3.touch t34 (fun hm => by
    have hm : vl.ownBlock = some b := by simpa [Option.mem_toList] using hm
    exact h.nl b hm rfl)
  have vlo : ∀ k, vl.ownBlock = some k → k < W1.heap.size := fun k hk => (L1.own k hk).2
  have nn' : ∀ k, va'.ownBlock = some k → vl.ownBlock ≠ some k := fun k hk hk2 => by
    rcases o2 k hk with e | e
    · exact h.nn k e hk2
    · have := vlo k hk2; simp at e; omega
  have A4 := A3.touch t34 (fun k hk hm => by
    have hm : vl.ownBlock = some k := by simpa [Option.mem_toList] using hm
    exact nn' k hk hm)
  have t5 : Touch [b] w4 (w4.setCell ⟨b, 3, none⟩ vl') := (Touch.refl _ _).setCell (by simp) _
  have hs4 : w2.heap.size ≤ w4.heap.size := by have := t34.size; omega
  have nl' : ∀ k, vl'.ownBlock = some k → k ≠ b := fun k hk => by
    rcases o4 k hk with e | e
    · exact h.nl k e
    · simp at e; omega
  have hva2 : ∀ k, va'.ownBlock = some k → k < w2.heap.size := fun k hk => (A2.own k hk).2
  have hpv : Pv (w4.setCell ⟨b, 3, none⟩ vl') b va' vl' most (n + 1) (addP ps n (newF p)) (live ++ [(n : Int) + 1]) :=
    ⟨by simpa using b4.set 3 vl', A4.touch t5 (fun k hk => by have := na' k hk; simp; omega), L4.touch t5 (fun k hk => by have := nl' k hk; simp; omega), na', nl', fun k hk hk2 => by
      rcases o4 k hk2 with e | e
      · exact nn' k hk e
      · have := hva2 k hk; simp at e; omega⟩
  have tall : Touch (fp b va vl) w (w4.setCell ⟨b, 3, none⟩ vl') := (((t2.trans (t3.mono (by simp [fp]))).trans (t34.mono (fun k hk => by simp [fp] at hk ⊢; exact .inr (.inr hk)))).trans (t5.mono (by simp [fp])))
  obtain ⟨a3, c3, hf3, _⟩ := A2.form
  obtain ⟨a4, c4, hf4⟩ := Qu.form L4
  exact ⟨W1, w2, w4, va', vl', hW1, r1, r2, fun o => (b1.alloc o).cell (i := 2) rfl, b2.cell (i := 2) rfl, b2.free 2, fun o => (b3.alloc o).cell (i := 3) rfl, b4.cell (i := 3) rfl, b4.free 3, b1.cell (i := 2) rfl, b3.cell (i := 3) rfl,
    h.left hpv tall (fun k hk => by
      rcases o2 k hk with e | e
      · exact .inl e
      · simp at e; exact .inr (by omega)) (fun k hk => by
      rcases o4 k hk with e | e
      · exact .inl e
      · simp at e; exact .inr (by omega)), ⟨a3, c3, hf3⟩, ⟨a4, c4, by rw [hf4]; simp⟩⟩
set_option maxHeartbeats 16000000 in
theorem spawn_ok (p : Int) (h : Pt w b F most n ps live) (hn : n ≤ 9000) (hl : live.length ≤ 9000) (hp : p = 0 ∨ isL ps n p = true) (hf : (live.length : Int) ≠ most) : Calls Try.prog 9 #[.pointer (some ⟨b, 0, none⟩), .int .i64 p] w (PtP b F most (n + 1) (addP ps n (newF p)) (live ++ [(n : Int) + 1]) (.tuple #[.int .i64 ((n : Int) + 1), .int .i64 0]) w) := by
  obtain ⟨va, vl, h, rfl⟩ := h
  have HC := Lib.hid (isLive_any b va vl most n ps live w p h (by omega))
  have HH := Lib.hid h
  have x0 := fun q : Later w => (h.still q.ok).obj.cell (i := 0) rfl
  have em : (((live.length : Nat) : Int) == most) = false := beqF hf
  clear h hf
  by_cases hp0 : p = 0
  · subst hp0
    clear hp HC
    go_enter Try.func9, Try.ntmps9
    go_wp2_with fail
    refine wp_region_later (by kernel_rfl) (by kernel_rfl) ?_
    repeat (first
      | (go_big_quiet_step ((first | (with_reducible rfl) | exact Later.same (live_any b va vl most n ps live _ (HH.out.still (Later.ok _))))))
      | (quiet_step (fail)))
    refine wpQuiet_nil ?_
    intro wq hw'
    obtain ⟨⟨wq', hwq⟩, hwe⟩ := hw'
    have hwe : wq = wq' := hwe
    subst hwe
    have hv := HH.out.still hwq
    obtain ⟨W1, w2, w4, va', vl', hB⟩ := born w wq b va vl most n ps live 0 HH.out hwq hn hl
    have HB := Lib.hid hB
    have HADD := Lib.hid (add_any b 1 n wq (hv.obj.cell (i := 1) rfl) (hv.obj.free 1) (by omega))
    rw [← hB.e1] at HADD
    have c2 := hB.c2
    have c2' := hB.c2'
    have f2 := hB.f2
    have c3 := hB.c3
    have c3' := hB.c3'
    have f3 := hB.f3
    have k2 := hB.k2
    have k3 := hB.k3
    obtain ⟨fa1, fa2, hfa⟩ := hB.fa
    obtain ⟨fl1, fl2, hfl⟩ := hB.fl
    subst hfa hfl
    have HR1 := Lib.hid hB.r1
    have HR2 := Lib.hid hB.r2
    obtain ⟨va1, va2, hva⟩ := HH.out.all.form
    obtain ⟨vl1, vl2, hvl⟩ := HH.out.live.form
    have hva := hva.1
    subst hva hvl
    clear hwe
    clear hwq x0 hv hB
    go_wp2_with fail
    refine HADD.out.mono ?_
    rintro e w1 ⟨rfl, rfl⟩
    go_wp2_with (at_builtin; first
      | (refine Lib.wpList_append_run _ rfl _ _ 57 57 rfl _ _ rfl rfl _ _ (HR1.out _) ?_)
      | (refine Lib.wpList_append_run _ rfl _ _ 42 42 rfl _ _ rfl rfl _ _ (HR2.out _) ?_))
    go_ret2
    obtain ⟨F', h1, h2⟩ := HB.out.left
    exact ⟨F', rfl, h1, h2⟩
  · rw [show isL ps n p = true from by rcases hp with h | h; exact absurd h hp0; exact h] at HC
    have e0 : (p != 0) = true := bneT hp0
    clear hp hp0
    go_enter Try.func9, Try.ntmps9
    go_wp2_with fail
    refine HC.out.mono ?_
    rintro e w1 ⟨rfl, rfl⟩
    go_wp2_with fail
    refine wp_region_later (by kernel_rfl) (by kernel_rfl) ?_
    repeat (first
      | (go_big_quiet_step ((first | (with_reducible rfl) | exact Later.same (live_any b va vl most n ps live _ (HH.out.still (Later.ok _))))))
      | (quiet_step (fail)))
    refine wpQuiet_nil ?_
    intro wq hw'
    obtain ⟨⟨wq', hwq⟩, hwe⟩ := hw'
    have hwe : wq = wq' := hwe
    subst hwe
    have hv := HH.out.still hwq
    obtain ⟨W1, w2, w4, va', vl', hB⟩ := born w wq b va vl most n ps live p HH.out hwq hn hl
    have HB := Lib.hid hB
    have HADD := Lib.hid (add_any b 1 n wq (hv.obj.cell (i := 1) rfl) (hv.obj.free 1) (by omega))
    rw [← hB.e1] at HADD
    have c2 := hB.c2
    have c2' := hB.c2'
    have f2 := hB.f2
    have c3 := hB.c3
    have c3' := hB.c3'
    have f3 := hB.f3
    have k2 := hB.k2
    have k3 := hB.k3
    obtain ⟨fa1, fa2, hfa⟩ := hB.fa
    obtain ⟨fl1, fl2, hfl⟩ := hB.fl
    subst hfa hfl
    have HR1 := Lib.hid hB.r1
    have HR2 := Lib.hid hB.r2
    obtain ⟨va1, va2, hva⟩ := HH.out.all.form
    obtain ⟨vl1, vl2, hvl⟩ := HH.out.live.form
    have hva := hva.1
    subst hva hvl
    clear hwe
    clear hwq x0 hv hB
    go_wp2_with fail
    refine HADD.out.mono ?_
    rintro e w1 ⟨rfl, rfl⟩
    go_wp2_with (at_builtin; first
      | (refine Lib.wpList_append_run _ rfl _ _ 57 57 rfl _ _ rfl rfl _ _ (HR1.out _) ?_)
      | (refine Lib.wpList_append_run _ rfl _ _ 42 42 rfl _ _ rfl rfl _ _ (HR2.out _) ?_))
    go_ret2
    obtain ⟨F', h1, h2⟩ := HB.out.left
    exact ⟨F', rfl, h1, h2⟩
end
end Go.Proofs.Ytjcbcbhiophkfaa
