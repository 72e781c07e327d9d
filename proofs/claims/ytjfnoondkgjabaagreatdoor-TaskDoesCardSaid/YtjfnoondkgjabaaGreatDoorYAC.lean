/-
  The reference's stack: a call that is refused.
  The reference's stack: a call.
  Both stacks side by side.
  Both stacks side by side: every call of each.
  The law's step.
  Both stacks are the same.
  The reference's words: New, Get, Put.
  A task in memory: its table of instructions, New, At, Goto, Stack.
  A task's stack and the variables' words side by side; an instruction with all that it is done on; push.
  The arithmetic of one number of 64 bits: contracts for the functions of the two packages, each by one plain function.
  Products, quotients and what is left over: contracts of both packages' functions.
  The reference's product, by the double word's product; what an instruction does with numbers, by its number.
-/
import Derived.Laws.CopyOwn
import Derived.Deep.RegionHeld3
import Derived.Deep.Cut
import Derived.Deep.CutBlock
import Derived.Laws.EntriesVeiled
import Derived.StillTailTactics
import Derived.Test.YtjfnoondkgjabaaGreatDoorRows
import Derived.WalkKit
import Derived.IntWalk
import Derived.Lib.Hide
import Derived.BigQuiet
import Derived.Deep.QuietTactic
import Derived.Shelf.Bits.Mul64
import Derived.Test.YtjfnoondkgjabaaGreatDoorYAB
set_option linter.unusedVariables false
set_option linter.unusedSimpArgs false
set_option maxRecDepth 100000
namespace Go.Proofs.YtjfnoondkgjabaaGreatDoor
open Go.RowKit Go.BigFrame

section
variable (B : List Nat) (base t size : Nat) (F : Frm) (r : List Frm) (w : World)
set_option maxHeartbeats 4000000 in
theorem rcall_arg (back pa lc : Int) (hc : pa < 0 ∨ lc < pa) :
    Calls Tryz.prog 32 #[.pointer (some ⟨t, 0, none⟩), .int .i64 back, .int .i64 pa, .int .i64 lc] w fun e w' => e = .returned (.int .i64 1) ∧ Touch [] w w' := by
  by_cases c0 : pa < 0
  · have q : decide (pa < 0) = true := dT c0
    clear hc
    go_enter Tryz.func32, Tryz.ntmps32
    go_wp2
    go_ret
    exact ⟨rfl, Touch.refl _ _⟩
  · have q : decide (pa < 0) = false := dF c0
    have q2 : decide (lc < pa) = true := dT (by omega)
    clear hc
    go_enter Tryz.func32, Tryz.ntmps32
    go_wp2
    go_ret
    exact ⟨rfl, Touch.refl _ _⟩
set_option maxHeartbeats 4000000 in
theorem rcall_few (back pa lc : Int) (hn : r.length ≤ 900000) (h0 : ¬ pa < 0) (h1 : ¬ lc < pa) (h2 : (F.ops.length : Int) < pa) (h : Rs w B base t size (F :: r)) :
    Calls Tryz.prog 32 #[.pointer (some ⟨t, 0, none⟩), .int .i64 back, .int .i64 pa, .int .i64 lc] w fun e w' => e = .returned (.int .i64 4) ∧ Touch [] w w' := by
  obtain ⟨v, ps, h⟩ := h
  have HP := Lib.hid (roperands_q B base t size F r v ps w (by omega) h)
  have q : decide (pa < 0) = false := dF h0
  have q2 : decide (lc < pa) = false := dF h1
  obtain ⟨m, hm⟩ : ∃ m, F.ops.length = m := ⟨_, rfl⟩
  rw [hm] at HP h2
  have q3 : decide ((m : Int) < pa) = true := dT h2
  clear h h0 h1 hm
  go_enter Tryz.func32, Tryz.ntmps32
  go_wp2_with fail
  refine HP.out.mono ?_
  rintro e w1 ⟨rfl, ht⟩
  have HT := Lib.hid ht
  clear ht
  go_wp2
  go_ret
  exact ⟨rfl, HT.out⟩
set_option maxHeartbeats 8000000 in
theorem rcall_full (back pa lc : Int) (hn : r.length ≤ 900000) (hm : topS (F :: r) ≤ 1000000) (hs : size ≤ 1000000) (h0 : ¬ pa < 0) (h1 : ¬ lc < pa) (h2 : ¬ (F.ops.length : Int) < pa) (h3 : (size : Int) < topS (F :: r) + (lc - pa) + 2) (h : Rs w B base t size (F :: r)) :
    Calls Tryz.prog 32 #[.pointer (some ⟨t, 0, none⟩), .int .i64 back, .int .i64 pa, .int .i64 lc] w fun e w' => e = .returned (.int .i64 41) ∧ Touch [] w w' := by
  obtain ⟨v, ps, h⟩ := h
  have HK := Lib.hid h
  have HP := Lib.hid (roperands_q B base t size F r v ps w (by omega) h)
  have HL := Lib.hid (fun w' h' => rlen_q B base t size (F :: r) v ps w' (by simp; omega) hm (by simp) h')
  have q : decide (pa < 0) = false := dF h0
  have q2 : decide (lc < pa) = false := dF h1
  have hto := topS_ops F r
  obtain ⟨T, hT⟩ : ∃ T, topS (F :: r) = T := ⟨_, rfl⟩
  rw [hT] at HL h3 hm hto
  obtain ⟨m, hm'⟩ : ∃ m, F.ops.length = m := ⟨_, rfl⟩
  rw [hm'] at HP h2 hto
  have q3 : decide ((m : Int) < pa) = false := dF h2
  by_cases c : (size : Int) < lc
  · have q4 : decide ((size : Int) < lc) = true := dT c
    clear h h0 h1 hm' hT h2 h3 hm hto HL hn
    go_enter Tryz.func32, Tryz.ntmps32
    go_wp2_with fail
    refine HP.out.mono ?_
    rintro e w1 ⟨rfl, ht⟩
    have HT := Lib.hid ht
    have x0 := fun q : Later w1 => (HK.out.still (ht.trans q.ok)).obj.cell (i := 0) rfl
    clear ht
    go_wp2_with fail
    refine wp_region_later (by kernel_rfl) (by kernel_rfl) ?_
    repeat (first
      | (go_big_quiet_step ((with_reducible rfl)))
      | (quiet_step (fail)))
    refine wpQuiet_nil ?_
    intro wq hw'
    obtain ⟨⟨wq', hwq⟩, hwe⟩ := hw'
    have hwe : wq = wq' := hwe
    subst hwe
    have HT := Lib.hid (HT.out.trans hwq)
    clear hwe hwq x0
    go_wp2
    go_ret
    exact ⟨rfl, HT.out⟩
  · obtain ⟨p, rfl⟩ : ∃ p : Nat, pa = p := ⟨pa.toNat, by omega⟩
    obtain ⟨l, rfl⟩ : ∃ l : Nat, lc = l := ⟨lc.toNat, by omega⟩
    have q4 : decide ((size : Int) < (l : Int)) = false := dF c
    have n1 : ¬ l < p := by omega
    have n2 : decide (l < p) = false := dF n1
    have n3 : ¬ m < p := by omega
    have n4 : decide (m < p) = false := dF n3
    have n5 : ¬ size < l := by omega
    have n6 : decide (size < l) = false := dF n5
    have v1 : IntKind.i64.wrap ((T : Int) + 2) = (T : Int) + 2 := IntWalk.i64_in _ (by omega)
    have v2 : IntKind.i64.wrap ((T : Int) + 2 + (l : Int)) = (T : Int) + 2 + (l : Int) := IntWalk.i64_in _ (by omega)
    have v3 : IntKind.i64.wrap ((T : Int) + 2 + (l : Int) - (p : Int)) = (T : Int) + 2 + (l : Int) - (p : Int) := IntWalk.i64_in _ (by omega)
    have q5 : decide ((size : Int) < (T : Int) + 2 + (l : Int) - (p : Int)) = true := dT (by omega)
    clear h h0 h1 hm' hT h2 h3 hm hto hn
    go_enter Tryz.func32, Tryz.ntmps32
    go_wp2_with fail
    refine HP.out.mono ?_
    rintro e w1 ⟨rfl, ht⟩
    have HT := Lib.hid ht
    have HK1 := Lib.hid (HK.out.still ht)
    have x0 := fun q : Later w1 => (HK1.out.still q.ok).obj.cell (i := 0) rfl
    clear ht
    go_wp2_with fail
    refine wp_region_later (by kernel_rfl) (by kernel_rfl) ?_
    repeat (first
      | (go_big_quiet_step ((first | (with_reducible rfl) | exact Later.same (HL.out _ (HK1.out.still (Later.ok _))))))
      | (quiet_step (fail)))
    refine wpQuiet_nil ?_
    intro wq hw'
    obtain ⟨⟨wq', hwq⟩, hwe⟩ := hw'
    have hwe : wq = wq' := hwe
    subst hwe
    have HT := Lib.hid (HT.out.trans hwq)
    clear hwe hwq x0
    go_wp2
    go_ret
    exact ⟨rfl, HT.out⟩
end
end Go.Proofs.YtjfnoondkgjabaaGreatDoor

set_option linter.unusedVariables false
set_option maxRecDepth 100000
namespace Go.Proofs.YtjfnoondkgjabaaGreatDoor
open Go.RowKit Go.BigFrame

theorem cut_from (a : Option Addr) (n ca k : Nat) (hk : k ≤ n) (wx : World) : (Instr.slice 25 (.slice a n ca) (some (.int .i64 (k : Int))) none none).run Tryz.prog wx = .ok (.slice (if ca = k then a else a.map (·.add k)) (n - k) (ca - k)) wx := by
  have hsz : (sizeOf (Tryz.prog.elem 25)).run Tryz.prog wx = .ok 1 wx := by kernel_rfl
  rw [run_slice_l wx 25 a n ca Tryz.underlying25 .i64 (k : Int) (by omega) (by omega), hsz]
  simp [Result.andThen, sliced]
theorem cut_to (a : Option Addr) (n ca k : Nat) (hk : k ≤ ca) (wx : World) : (Instr.slice 25 (.slice a n ca) none (some (.int .i64 (k : Int))) none).run Tryz.prog wx = .ok (.slice a k ca) wx := by
  have hsz : (sizeOf (Tryz.prog.elem 25)).run Tryz.prog wx = .ok 1 wx := by kernel_rfl
  rw [run_slice_h wx 25 a n ca Tryz.underlying25 .i64 (k : Int) (by omega) (by omega), hsz]
  cases a <;> simp [Result.andThen, sliced, Addr.add]
theorem from_cells {w : World} {a : Option Addr} {ca p k : Nat} {xs : List Int} (h : Sl w (.slice a xs.length ca) xs) (hl : xs.length ≤ ca) (hk : k + p = xs.length) (hp : 0 < p) :
    ∃ ad, (if ca = k then a else a.map (·.add k)) = some ad ∧ ∀ j v, ((xs.drop k).map (Value.int .i64))[j]? = some v → w.cell? (ad.add j) = some v := by
  obtain ⟨a', c', he, hr⟩ := h
  obtain ⟨rfl, rfl⟩ : a = a' ∧ ca = c' := by simpa using he
  rcases hr with hr | ⟨g, off, rfl, hlt, hr⟩
  · subst hr; simp at hk; omega
  · refine ⟨⟨g, off + k, none⟩, by rw [if_neg (by omega)]; simp [Addr.add], fun j v hv => ?_⟩
    have hj : j < (xs.drop k).length := by
      by_cases h : j < (xs.drop k).length
      · exact h
      · rw [List.getElem?_eq_none (by simpa using h)] at hv; cases hv
    rw [List.length_drop] at hj
    have hc := hr (k + j) (by omega)
    have e : ((xs.drop k).map (Value.int .i64))[j]? = some (.int .i64 (xs.getD (k + j) 0)) := by
      have : k + j < xs.length := by omega
      simp [this]
    rw [e] at hv
    cases hv
    rw [← Nat.add_assoc] at hc
    by_cases h0 : j = 0
    · subst h0; simpa [Addr.add] using hc
    · simpa [Addr.add, h0] using hc
theorem take_sl {w : World} {a : Option Addr} {n ca k : Nat} {xs : List Int} (h : Sl w (.slice a n ca) xs) (hk : k ≤ xs.length) : Sl w (.slice a k ca) (xs.take k) := by
  obtain ⟨a', c', he, hr⟩ := h
  obtain ⟨rfl, rfl, rfl⟩ : a = a' ∧ n = xs.length ∧ ca = c' := by simpa using he
  have hl : (xs.take k).length = k := by rw [List.length_take]; omega
  rcases hr with hr | ⟨g, off, rfl, hlt, hr⟩
  · subst hr; exact ⟨a, ca, by rw [hl], .inl (by simp)⟩
  · refine ⟨_, ca, by rw [hl], .inr ⟨g, off, rfl, hlt, fun j hj => ?_⟩⟩
    rw [hl] at hj
    rw [hr j (by omega)]
    simp only [List.getD]
    rw [List.getElem?_take_of_lt hj]
theorem Qu.capI {w : World} {base : Nat} {a : Option Addr} {n c : Nat} {xs : List Int} (h : QI w base (.slice a n c) xs) : n ≤ c ∧ n = xs.length := by
  rcases h with ⟨h, h'⟩ | ⟨g, off, cap, cur, he, _, _, h1, _⟩
  · cases h; simp at h'; subst h'; simp
  · cases he; simpa using h1
/-- A row of zeros over which some numbers were copied. -/
theorem zeros_splice {w : World} {b l : Nat} {xs : List Int} (hl : xs.length ≤ l) (hm : l ≤ maxLen) (h : w.heap[b]? = some (.cells (splice ((List.range l).map fun j => Value.int .i64 ((fun _ => (0 : Int)) j)) 0 (xs.map (Value.int .i64))).toArray 3 (0, 0))) :
    QI w b (.slice (some ⟨b, 0, none⟩) l l) (xs ++ List.replicate (l - xs.length) 0) := by
  have hz : ((List.range l).map fun j => Value.int .i64 ((fun _ => (0 : Int)) j)) = List.replicate l (.int .i64 0) := by
    apply List.ext_getElem
    · simp
    · intro i h1 h2; simp
  have he : splice ((List.range l).map fun j => Value.int .i64 ((fun _ => (0 : Int)) j)) 0 (xs.map (Value.int .i64)) = (xs ++ List.replicate (l - xs.length) 0).map (Value.int .i64) := by
    rw [hz]; simp [splice]
  rw [he] at h
  have hlen : (xs ++ List.replicate (l - xs.length) (0 : Int)).length = l := by simp; omega
  have hlen2 : ((xs ++ List.replicate (l - xs.length) (0 : Int)).map (Value.int .i64)).length = l := by rw [List.length_map, hlen]
  exact .inr ⟨b, 0, l, _, by rw [hlen2], Nat.le_refl _, h, Nat.le_of_eq hlen2, hm, by rw [List.size_toArray, hlen2]; omega, fun j hj => by rw [Nat.zero_add, List.getElem?_toArray]⟩
/-- The run of the copy over a row of zeros. -/
theorem copy_run (w0 w : World) (b l p cx : Nat) (x : Option Addr) (ds : List Int) (hl : ds.length = p) (hpl : p ≤ l) (hB : Blk w b (rowA (fun _ => 0) l) 3) (hx : 0 < p → ∃ ad, x = some ad ∧ ∀ j v, (ds.map (Value.int .i64))[j]? = some v → w.cell? (ad.add j) = some v) (hb : Below b w0 w) :
    ∃ w', (∀ ty, (Builtin.copy_ #[25, 25] ty #[.slice (some ⟨b, 0, none⟩) l l, .slice x p cx]).run Tryz.prog w = .ok (.int .i64 (p : Int)) w') ∧
      w'.heap[b]? = some (.cells (splice ((List.range l).map fun j => Value.int .i64 ((fun _ => (0 : Int)) j)) 0 (ds.map (Value.int .i64))).toArray 3 (0, 0)) ∧ Below b w0 w' := by
  by_cases h0 : p = 0
  · subst h0
    obtain rfl : ds = [] := List.eq_nil_of_length_eq_zero hl
    exact ⟨w, fun ty => run_copy_none (P := Tryz.prog) w _ _ ty 3 _ _ _ _ _ _ Tryz.underlying25 (by kernel_rfl) (by simp [Nat.min]), by rw [show splice ((List.range l).map fun j => Value.int .i64 ((fun _ => (0 : Int)) j)) 0 (([] : List Int).map (Value.int .i64)) = ((List.range l).map fun j => Value.int .i64 ((fun _ => (0 : Int)) j)) from by simp [splice]]; exact hB, hb⟩
  · obtain ⟨ad, rfl, hc⟩ := hx (by omega)
    have hlen : (ds.map (Value.int .i64)).length = p := by rw [List.length_map, hl]
    have hr := fun ty => run_copy_row (P := Tryz.prog) w 25 25 ty 3 b 0 l l ad p cx ((List.range l).map fun j => Value.int .i64 ((fun _ => (0 : Int)) j)).toArray 3 (ds.map (Value.int .i64)) Tryz.underlying25 (by kernel_rfl) hB (by rw [hlen]; exact (Nat.min_eq_left hpl).symm) hc (by simp; omega) (ints_oneCell ds)
    rw [hlen] at hr
    refine ⟨_, hr, ?_, below_setRow hb (Nat.le_refl _) _⟩
    refine (setRow_heap w b _ _ _ _ hB).trans ?_
    simp [splice, hl]
section
variable (B : List Nat) (base t size : Nat) (F : Frm) (r : List Frm) (w : World)
set_option maxHeartbeats 32000000 in
theorem rcall_yes (back : Int) (p l : Nat) (hn : r.length ≤ 800000) (hm : topS (F :: r) ≤ 1000000) (hs : size ≤ 1000000) (h1 : p ≤ l) (h2 : p ≤ F.ops.length) (h3 : topS (F :: r) + (l - p) + 2 ≤ size) (hB : ∀ b ∈ B, b < w.heap.size) (h : Rs w B base t size (F :: r)) :
    Calls Tryz.prog 32 #[.pointer (some ⟨t, 0, none⟩), .int .i64 back, .int .i64 p, .int .i64 l] w (RsP B base t size (⟨back, F.ops.drop (F.ops.length - p) ++ List.replicate (l - p) 0, []⟩ :: {F with ops := F.ops.take (F.ops.length - p)} :: r) (.int .i64 0) w) := by
  obtain ⟨v, ps, h⟩ := h
  have HK := Lib.hid h
  have HBB := Lib.hid hB
  have HP := Lib.hid (roperands_q B base t size F r v ps w (by omega) h)
  have HL := Lib.hid (fun w' h' => rlen_q B base t size (F :: r) v ps w' (by simp; omega) hm (by simp) h')
  have hto := topS_ops F r
  obtain ⟨g, cap, rfl, hg, hc1, hc2, hc, hz⟩ := h.top
  have HC := Lib.hid (fun w' (ht : Touch [] w w') => rtop_q B base t size F r ps w' g cap (by omega) (h.still ht))
  obtain ⟨a, ca, ho⟩ := Qu.form h.fr.2.2.2
  have hcap : F.ops.length ≤ ca := by have := h.fr.2.2.2; rw [ho] at this; exact this.capI.1
  have HO := Lib.hid (fun w' (ht : Touch [] w w') => by
    obtain ⟨g', cap', he, _, _, _, hc', hz'⟩ := (h.still ht).top
    cases he
    have := hc' 2 (by omega)
    rw [ho] at this
    exact (⟨this, hz' (r.length * 3 + 2)⟩ : _ ∧ _))
  have HV := Lib.hid (fun w' (ht : Touch [] w w') => (h.still ht).fr.2.2.2.sl)
  rw [ho] at HV
  have hmk := fun w => run_mk_of (P := Tryz.prog) 25 3 Tryz.underlying25 (by kernel_rfl) l (by omega) w
  obtain ⟨k, hk⟩ : ∃ k, F.ops.length - p = k := ⟨_, rfl⟩
  have hkp : k + p = F.ops.length := by omega
  have hcs : (F.ops.drop k).length = p := by rw [List.length_drop]; omega
  have htk : (F.ops.take k).length = k := by rw [List.length_take]; omega
  have HF := Lib.hid (fun w' (ht : Touch [] w w') (hp : 0 < p) => from_cells (HV.out w' ht) hcap hkp hp)
  have HT2 := Lib.hid (fun w' (ht : Touch [] w w') => take_sl (k := k) (HV.out w' ht) (by omega))
  have hcf := fun wx => cut_from a F.ops.length ca k (by omega) wx
  have hct := fun wx => cut_to a F.ops.length ca k (by omega) wx
  obtain ⟨x, hx⟩ : ∃ x, (if ca = k then a else a.map (·.add k)) = x := ⟨_, rfl⟩
  obtain ⟨cx, hcx⟩ : ∃ cx, ca - k = cx := ⟨_, rfl⟩
  rw [hx, hcx] at hcf
  rw [hx] at HF
  rw [show F.ops.length - k = p from by omega] at hcf
  rw [hk]
  obtain ⟨T, hT⟩ : ∃ T, topS (F :: r) = T := ⟨_, rfl⟩
  rw [hT] at HL h3 hm hto
  obtain ⟨ds, hds⟩ : ∃ ds, F.ops.drop k = ds := ⟨_, rfl⟩
  obtain ⟨ts, hts⟩ : ∃ ts, F.ops.take k = ts := ⟨_, rfl⟩
  rw [hds] at HF hcs ⊢
  rw [hts] at HT2 htk ⊢
  obtain ⟨m, hm'⟩ : ∃ m, F.ops.length = m := ⟨_, rfl⟩
  rw [hm'] at HP h2 hto hcf hct HO hkp hk
  obtain ⟨n, hn'⟩ : ∃ n, r.length = n := ⟨_, rfl⟩
  have HN := Lib.hid hn'
  have hn800 : n ≤ 800000 := by omega
  rw [hn'] at HC HO
  have hts1 : ts.length ≤ 1000000 := by omega
  have q : decide ((p : Int) < 0) = false := dF (by omega)
  have n1 : ¬ l < p := by omega
  have n2 : decide (l < p) = false := dF n1
  have n3 : ¬ m < p := by omega
  have n4 : decide (m < p) = false := dF n3
  have n5 : ¬ size < l := by omega
  have n6 : decide (size < l) = false := dF n5
  have q2 : decide ((l : Int) < (p : Int)) = false := dF (by omega)
  have q3 : decide ((m : Int) < (p : Int)) = false := dF (by omega)
  have q4 : decide ((size : Int) < (l : Int)) = false := dF (by omega)
  have v1 : IntKind.i64.wrap ((T : Int) + 2) = (T : Int) + 2 := IntWalk.i64_in _ (by omega)
  have v2 : IntKind.i64.wrap ((T : Int) + 2 + (l : Int)) = (T : Int) + 2 + (l : Int) := IntWalk.i64_in _ (by omega)
  have v3 : IntKind.i64.wrap ((T : Int) + 2 + (l : Int) - (p : Int)) = (T : Int) + 2 + (l : Int) - (p : Int) := IntWalk.i64_in _ (by omega)
  have v4 : IntKind.i64.wrap ((m : Int) - (p : Int)) = (k : Int) := by rw [show (m : Int) - (p : Int) = (k : Int) from by omega]; exact IntWalk.i64_in _ (by omega)
  have q5 : decide ((size : Int) < (T : Int) + 2 + (l : Int) - (p : Int)) = false := dF (by omega)
  have HA : Hid (p ≤ l ∧ l ≤ 1000000) := Lib.hid ⟨by omega, by omega⟩
  have HCS := Lib.hid hcs
  have HTS := Lib.hid htk
  have HBS : Hid (base ≤ w.heap.size) := Lib.hid (by have := h.bt; have := h.obj.lt; omega)
  clear h ho hc hz hn hn' hm' hk hkp hto hT h1 h2 h3 hm hs hcap hds hts hx hcx hB hc1 hc2 hcs htk HV
  go_enter Tryz.func32, Tryz.ntmps32
  go_wp2_with fail
  refine HP.out.mono ?_
  rintro e w1 ⟨rfl, ht⟩
  have HT := Lib.hid ht
  have HK1 := Lib.hid (HK.out.still ht)
  have x0 := fun q : Later w1 => (HK1.out.still q.ok).obj.cell (i := 0) rfl
  clear ht
  go_wp2_with fail
  refine wp_region_later (by kernel_rfl) (by kernel_rfl) ?_
  repeat (first
    | (go_big_quiet_step ((first | (with_reducible rfl) | exact Later.same (HL.out _ (HK1.out.still (Later.ok _))))))
    | (quiet_step (fail)))
  refine wpQuiet_nil ?_
  intro wq hw'
  obtain ⟨⟨wq', hwq⟩, hwe⟩ := hw'
  have hwe : wq = wq' := hwe
  subst hwe
  have HT := Lib.hid (HT.out.trans hwq)
  clear hwe hwq x0 HL
  go_wp2_with fail
  refine (HC.out _ (HT.out.alloc _)).mono ?_
  rintro e w3 ⟨rfl, ht⟩
  have HT3 : Hid (Touch [] w w3) := Lib.hid ((HT.out.alloc _).trans ht)
  have HT03 : Hid (Touch [] wq w3) := Lib.hid (((Touch.refl [] wq).alloc _).trans ht)
  have HB3 : Hid (Blk w3 wq.heap.size (rowA (fun _ => 0) l) 3) := Lib.hid ((Blk.new rfl).touch ht (by simp))
  obtain ⟨y3, _⟩ := HO.out _ HT3.out
  clear ht
  obtain ⟨w4, hcp, hg4, hb4⟩ := copy_run wq w3 wq.heap.size l p cx x ds HCS.out HA.out.1 HB3.out (HF.out w3 HT3.out) (HT03.out.below (Nat.le_refl _) (by simp))
  have HG4 := Lib.hid hg4
  have hcp3 := hcp 3
  have HTq4 : Hid (Touch [] wq w4) := Lib.hid (Touch.of_below hb4)
  have HT4 : Hid (Touch [] w w4) := Lib.hid (HT.out.trans HTq4.out)
  have HQ4 := Lib.hid (zeros_splice (by rw [HCS.out]; exact HA.out.1) (by have := HA.out.2; unfold maxLen; omega) HG4.out)
  rw [HCS.out] at HQ4
  clear HB3 HG4 hb4 hg4 hcp
  go_wp2_with fail
  refine (HC.out _ HT4.out).mono ?_
  rintro e w5 ⟨rfl, ht⟩
  have HT5 := Lib.hid (HT4.out.trans ht)
  have HQ5 := Lib.hid (HQ4.out.touch ht (by simp))
  have HTq5 := Lib.hid (HTq4.out.trans ht)
  clear ht HQ4 HTq4
  go_wp2_with fail
  refine (HC.out _ HT5.out).mono ?_
  rintro e w6 ⟨rfl, ht⟩
  have HT6 := Lib.hid (HT5.out.trans ht)
  have HQ6 := Lib.hid (HQ5.out.touch ht (by simp))
  have HTq6 := Lib.hid (HTq5.out.trans ht)
  obtain ⟨y6, _⟩ := HO.out _ HT6.out
  clear ht HQ5 HTq5
  go_wp2_with fail
  refine (rcopy_any _ ts w6 (HT2.out _ HT6.out) hts1).mono ?_
  rintro e w7 ⟨v7, rfl, hq, ht⟩
  have HQN := Lib.hid hq
  have HQ7 := Lib.hid (HQ6.out.touch ht (by simp))
  have HT7 := Lib.hid (HT6.out.trans ht)
  have HTq7 := Lib.hid (HTq6.out.trans ht)
  have HS6 : Hid (wq.heap.size < w6.heap.size ∧ w.heap.size ≤ wq.heap.size ∧ w.heap.size ≤ w6.heap.size) := Lib.hid ⟨by
    obtain ⟨q1, q2⟩ := HQ6.out.own wq.heap.size rfl; exact q2, HT.out.size, HT6.out.size⟩
  obtain ⟨y7, z7⟩ := HO.out _ HT7.out
  clear ht y6 hq HQ6 HTq6
  obtain ⟨a7, c7, rfl⟩ := Qu.form HQN.out
  obtain ⟨hR, ht5, hbg, hgB⟩ := HK.out.setOps HBB.out HT7.out (HQN.out.mono (by have := HS6.out.2.2; have := HBS.out; omega)) (fun b hb => by have := (HQN.out.own b hb).1; have := HS6.out.2.2; omega)
  rw [HN.out] at hR ht5
  have hs8 : (w7.setCell ⟨g, n * 3 + 2, none⟩ (.slice a7 ts.length c7)).heap.size = w7.heap.size := by simp [World.setCell]
  have hgl : g < w.heap.size := by
    obtain ⟨_, _, e2, _, l2, _⟩ := HK.out.fs.at (i := r.length) (by simp)
    cases e2; exact l2
  obtain ⟨wa, wb, v1, v2, hF⟩ := fborn (w7.setCell ⟨g, n * 3 + 2, none⟩ (.slice a7 ts.length c7)) B base t size _ _ _ back (.slice (some ⟨wq.heap.size, 0, none⟩) l l) (ds ++ List.replicate (l - p) 0) hR
    (fun b hb => by rw [hs8]; have := HBB.out b hb; have := HT7.out.size; omega) (by rw [List.length_cons, HN.out]; omega)
    ((HQ7.out.touch ht5 (fun b hb => by cases hb; have := HS6.out; simp; omega)).mono (by have := HS6.out; have := HBS.out; omega))
    (fun b hb => by
      obtain rfl : b = wq.heap.size := by cases hb; rfl
      have hS := HS6.out
      have htl := HK.out.obj.lt
      refine ⟨by omega, fun hm => by have := HBB.out _ hm; omega, fun j hj => ?_⟩
      have hj' : j < (F :: r).length := by simpa using hj
      refine ⟨fun e => ?_, fun e => ?_⟩
      · rw [setV_ne _ _ (by omega)] at e
        have := (HK.out.fr.lt j _ hj' (.inl e)).2; omega
      · by_cases ej : j = r.length
        · subst ej
          rw [HN.out, setV_same] at e
          have := (HQN.out.own _ e).1; omega
        · rw [HN.out] at ej
          rw [setV_ne _ _ (by omega)] at e
          have := (HK.out.fr.lt j _ hj' (.inr e)).2; omega)
  have HF2 := Lib.hid hF
  have HT5 := Lib.hid ht5
  have HGB := Lib.hid (And.intro hbg hgB)
  have c0 := hF.c0
  have c1 := hF.c1
  have c2 := hF.c2
  have f2 := hF.f2
  have hr1 := hF.r1
  have hr2 := hF.r2
  rw [hs8] at hr1
  obtain ⟨fa1, fa2, hfa⟩ := hF.f1
  obtain ⟨fl1, fl2, hfl⟩ := hF.f3
  subst hfa hfl
  have HR1 := Lib.hid hr1
  have HR2 := Lib.hid hr2
  clear hR ht5 hs8 hgl hF hr1 hr2 hbg hgB
  go_wp2_with (at_builtin; first
      | (with_reducible refine Lib.wpList_append_run _ rfl _ _ _ _ rfl _ _ rfl rfl _ _ (HR1.out _) ?_)
      | (with_reducible refine Lib.wpList_append_run _ rfl _ _ _ _ rfl _ _ rfl rfl _ _ (HR2.out _) ?_))
  go_ret
  have hl := HF2.out.left
  refine ⟨rfl, ⟨_, _, hl⟩, ⟨[g, t], ?_, fun b hb => ?_⟩⟩
  · refine ((HT7.out.mono (by simp)).trans (HT5.out.mono (by simp))).trans ?_
    exact (HF2.out.tw.mono (by simp)).setCell (by simp) _
  · simp at hb
    rcases hb with rfl | rfl
    · exact HGB.out
    · exact ⟨HK.out.bt, HK.out.nt⟩
end
end Go.Proofs.YtjfnoondkgjabaaGreatDoor

set_option linter.unusedVariables false
set_option maxRecDepth 100000
namespace Go.Proofs.YtjfnoondkgjabaaGreatDoor
open Go.RowKit Go.BigFrame

theorem Rz.less {w : World} {B B' : List Nat} {base t size : Nat} {v : Value} {ps : Nat → Nat → Value} {S : List Frm} (h : Rz w B base t size v ps S) (hb : ∀ b ∈ B', b ∈ B) : Rz w B' base t size v ps S :=
  ⟨h.obj, h.bt, fun hm => h.nt (hb _ hm), h.fs, h.fr, fun b e => ⟨(h.vo b e).1, fun hm => (h.vo b e).2 (hb _ hm)⟩, fun i b hi e => by
    obtain ⟨q1, q2, q3, q4⟩ := h.ll i b hi e
    exact ⟨q1, fun hm => q2 (hb _ hm), q3, q4⟩, fun i b hi e => by
    obtain ⟨q1, q2, q3⟩ := h.oo i b hi e
    exact ⟨q1, fun hm => q2 (hb _ hm), q3⟩⟩
theorem Rz.touch {w w' : World} {B L : List Nat} {base t size : Nat} {v : Value} {ps : Nat → Nat → Value} {S : List Frm} (h : Rz w B base t size v ps S) (ht : Touch L w w') (hL : ∀ b ∈ L, b ∈ B ∨ w.heap.size ≤ b) : Rz w' B base t size v ps S := by
  have htl := h.obj.lt
  refine ⟨h.obj.touch ht (fun hm => ?_), h.bt, h.nt, h.fs.touch ht (fun b e hm => ?_), h.fr.touch ht (fun i b hi e hm => ?_), h.vo, h.ll, h.oo⟩
  · rcases hL _ hm with hb | hb
    · exact h.nt hb
    · omega
  · rcases hL _ hm with hb | hb
    · exact (h.vo b e).2 hb
    · have := (h.fs.own b e).2; omega
  · rcases hL _ hm with hb | hb
    · rcases e with e | e
      · exact (h.ll i b hi e).2.1 hb
      · exact (h.oo i b hi e).2.1 hb
    · have := (h.fr.lt i b hi e).2; omega
theorem Rz.more {w w' : World} {B E : List Nat} {base t size : Nat} {v : Value} {ps : Nat → Nat → Value} {S : List Frm} (h : Rz w B base t size v ps S) (h' : Rz w' B base t size v ps S) (hE : ∀ b ∈ E, w.heap.size ≤ b) : Rz w' (E ++ B) base t size v ps S := by
  have htl := h.obj.lt
  refine ⟨h'.obj, h.bt, fun hm => ?_, h'.fs, h'.fr, fun b e => ⟨(h.vo b e).1, fun hm => ?_⟩, fun i b hi e => ?_, fun i b hi e => ?_⟩
  · rcases List.mem_append.1 hm with hm | hm
    · have := hE _ hm; omega
    · exact h.nt hm
  · rcases List.mem_append.1 hm with hm | hm
    · have := hE _ hm; have := (h.fs.own b e).2; omega
    · exact (h.vo b e).2 hm
  · obtain ⟨q1, q2, q3, q4⟩ := h.ll i b hi e
    refine ⟨q1, fun hm => ?_, q3, q4⟩
    rcases List.mem_append.1 hm with hm | hm
    · have := hE _ hm; have := (h.fr.lt i b hi (.inl e)).2; omega
    · exact q2 hm
  · obtain ⟨q1, q2, q3⟩ := h.oo i b hi e
    refine ⟨q1, fun hm => ?_, q3⟩
    rcases List.mem_append.1 hm with hm | hm
    · have := hE _ hm; have := (h.fr.lt i b hi (.inr e)).2; omega
    · exact q2 hm
theorem Rs.less {w : World} {B B' : List Nat} {base t size : Nat} {S : List Frm} (h : Rs w B base t size S) (hb : ∀ b ∈ B', b ∈ B) : Rs w B' base t size S := by
  obtain ⟨v, ps, h⟩ := h
  exact ⟨v, ps, h.less hb⟩
/-- Others have been turned, and new blocks are there that are others'. -/
theorem Rs.keep {w w' : World} {B L E : List Nat} {base t size : Nat} {S : List Frm} (h : Rs w B base t size S) (ht : Touch L w w') (hL : ∀ b ∈ L, b ∈ B ∨ w.heap.size ≤ b) (hE : ∀ b ∈ E, w.heap.size ≤ b) : Rs w' (E ++ B) base t size S := by
  obtain ⟨v, ps, h⟩ := h
  exact ⟨v, ps, h.more (h.touch ht hL) hE⟩
theorem KsF.touch {w w' : World} {L : List Nat} {k sb g N at' sz : Nat} {f : Nat → Int} {S : List Frm} (h : KsF w k sb g f N at' sz S) (ht : Touch L w w') (h1 : k ∉ L) (h2 : sb ∉ L) (h3 : g ∉ L) : KsF w' k sb g f N at' sz S :=
  ⟨⟨h.1.obj.touch ht h1, h.1.st.touch ht h2 h3, h.1.n1, h.1.n2, h.1.fit, h.1.big, h.1.tps⟩, h.2⟩
theorem KsF.loc {w : World} {k sb g N at' sz : Nat} {f : Nat → Int} {F : Frm} {r : List Frm} (h : KsF w k sb g f N at' sz (F :: r)) : F.loc.length ≤ sz ∧ topS (F :: r) ≤ sz ∧ 2 * r.length ≤ sz ∧ sz ≤ 8192 := by
  have h1 := h.2.locLen
  have h2 := base_loc F r
  have h3 := two_top F r
  have h4 := h.1.tps
  have h5 := h.1.fit
  have h6 := h.1.big
  omega
/-! How many words are in use behind a call. -/
section
variable (B : List Nat) (base t size : Nat) (F : Frm) (r : List Frm) (w : World)
theorem rpush_m (x : Int) (hm : topS (F :: r) ≤ 9000) (hs : size ≤ 9000) (hB : ∀ b ∈ B, b < w.heap.size) (h : Rs w B base t size (F :: r)) :
    Calls Tryz.prog 34 #[.pointer (some ⟨t, 0, none⟩), .int .i64 x] w (RsP B base t size (pushM size x (F :: r)).2 (.int .i64 (pushM size x (F :: r)).1) w) := by
  have h2 := two_top F r
  simp only [pushM]
  by_cases c : topS (F :: r) < size
  · rw [if_pos c]
    exact rpush_yes B base t size F r w x (by omega) (by omega) c (by omega) hB h
  · rw [if_neg c]
    refine (rpush_no B base t size F r w x (by omega) (by omega) c (by omega) h).mono ?_
    rintro e w' ⟨rfl, ht⟩
    obtain ⟨v, ps, h⟩ := h
    exact ⟨rfl, ⟨v, ps, h.still ht⟩, Mv.of ht⟩
theorem rpop_m (hm : topS (F :: r) ≤ 9000) (hB : ∀ b ∈ B, b < w.heap.size) (h : Rs w B base t size (F :: r)) :
    Calls Tryz.prog 79 #[.pointer (some ⟨t, 0, none⟩)] w (RsP B base t size (popM (F :: r)).2.2 (.tuple #[.int .i64 (popM (F :: r)).1, .int .i64 (popM (F :: r)).2.1]) w) := by
  have h2 := two_top F r
  have h3 := topS_ops F r
  simp only [popM]
  by_cases c : F.ops.length = 0
  · rw [if_pos c]
    refine (rpop_no B base t size F r w (by omega) c h).mono ?_
    rintro e w' ⟨rfl, ht⟩
    obtain ⟨v, ps, h⟩ := h
    exact ⟨rfl, ⟨v, ps, h.still ht⟩, Mv.of ht⟩
  · rw [if_neg c]
    exact rpop_yes B base t size F r w (by omega) (by omega) c hB h
theorem rcall_m (back pa lc : Int) (hm : topS (F :: r) ≤ 9000) (hs : size ≤ 9000) (hB : ∀ b ∈ B, b < w.heap.size) (h : Rs w B base t size (F :: r)) :
    Calls Tryz.prog 32 #[.pointer (some ⟨t, 0, none⟩), .int .i64 back, .int .i64 pa, .int .i64 lc] w (RsP B base t size (callM size back pa lc (F :: r)).2 (.int .i64 (callM size back pa lc (F :: r)).1) w) := by
  have h2 := two_top F r
  have h3 := topS_ops F r
  have no : ∀ {c : Int}, (Calls Tryz.prog 32 #[.pointer (some ⟨t, 0, none⟩), .int .i64 back, .int .i64 pa, .int .i64 lc] w fun e w' => e = .returned (.int .i64 c) ∧ Touch [] w w') →
      Calls Tryz.prog 32 #[.pointer (some ⟨t, 0, none⟩), .int .i64 back, .int .i64 pa, .int .i64 lc] w (RsP B base t size (F :: r) (.int .i64 c) w) := fun hc => by
    refine hc.mono ?_
    rintro e w' ⟨rfl, ht⟩
    obtain ⟨v, ps, h⟩ := h
    exact ⟨rfl, ⟨v, ps, h.still ht⟩, Mv.of ht⟩
  simp only [callM]
  by_cases c1 : pa < 0 ∨ lc < pa
  · rw [if_pos c1]
    exact no (rcall_arg t w back pa lc c1)
  rw [if_neg c1]
  by_cases c2 : (F.ops.length : Int) < pa
  · rw [if_pos c2]
    exact no (rcall_few B base t size F r w back pa lc (by omega) (by omega) (by omega) c2 h)
  rw [if_neg c2]
  by_cases c3 : (size : Int) < topS (F :: r) + (lc - pa) + 2
  · rw [if_pos c3]
    exact no (rcall_full B base t size F r w back pa lc (by omega) (by omega) (by omega) (by omega) (by omega) c2 c3 h)
  rw [if_neg c3]
  obtain ⟨p, rfl⟩ : ∃ p : Nat, pa = p := ⟨pa.toNat, by omega⟩
  obtain ⟨l, rfl⟩ : ∃ l : Nat, lc = l := ⟨lc.toNat, by omega⟩
  rw [Int.toNat_natCast, Int.toNat_natCast]
  exact rcall_yes B base t size F r w back p l (by omega) (by omega) (by omega) (by omega) (by omega) (by omega) hB h
set_option maxHeartbeats 4000000 in
theorem rnew_ok (hB : ∀ b ∈ B, b < w.heap.size) : Calls Tryz.prog 31 #[.int .i64 size] w fun e w' => ∃ t, e = .returned (.pointer (some ⟨t, 0, none⟩)) ∧ Rs w' B w.heap.size t size [⟨0, [], []⟩] ∧ Touch [] w w' := by
  have HB := Lib.hid hB
  clear hB
  go_enter Tryz.func31, Tryz.ntmps31
  go_wp2
  go_ret
  refine ⟨_, rfl, ⟨.slice (some ⟨w.heap.size, 0, none⟩) 1 1, fun _ => newV 0 (.slice none 0 0), ?_⟩, ((Touch.refl _ _).alloc _).alloc _⟩
  refine ⟨Blk.new (by simp), by simp, fun hm => by have h := HB.out _ hm; omega, .inr ⟨w.heap.size, 1, _, rfl, Nat.le_refl _, (Blk.new rfl).alloc _, Nat.le_refl _, by unfold maxLen; omega, Nat.le_refl _, fun i hi j hj => ?_⟩, ⟨trivial, rfl, Qu.nil _ _ _, Qu.nil _ _ _⟩, fun b hb => ?_, fun i b hi hb => ?_, fun i b hi hb => ?_⟩
  · obtain rfl : i = 0 := Nat.lt_one_iff.1 hi
    have : j = 0 ∨ j = 1 ∨ j = 2 := by omega
    rcases this with rfl | rfl | rfl <;> rfl
  · obtain rfl : b = w.heap.size := by cases hb; rfl
    exact ⟨by simp, fun hm => by have := HB.out _ hm; omega⟩
  · cases hb
  · cases hb
end
end Go.Proofs.YtjfnoondkgjabaaGreatDoor

set_option linter.unusedVariables false
set_option maxRecDepth 100000
namespace Go.Proofs.YtjfnoondkgjabaaGreatDoor
open Go.RowKit Go.BigFrame

theorem topS_ret (F G : Frm) (r : List Frm) : topS (G :: r) ≤ topS (F :: G :: r) := by show topS (G :: r) ≤ topS (G :: r) + F.loc.length + 2 + F.ops.length; omega
theorem Agr.trans {at' sz : Nat} {f g h : Nat → Int} (h1 : Agr at' sz f g) (h2 : Agr at' sz g h) : Agr at' sz f h := fun j hj => by rw [h2 j hj, h1 j hj]
/-- Both stacks: the program's frames S1, the reference's S2; since w0 only their own blocks were turned. -/
structure Bst (k sb g N at' sz base t : Nat) (C : List Nat) (f : Nat → Int) (w0 : World) (S1 S2 : List Frm) (w : World) : Prop where
  one : ∃ f', KsF w k sb g f' N at' sz S1 ∧ Agr at' sz f f'
  two : Rs w C base t sz S2
  mv : ∃ L, Touch L w0 w ∧ ∀ b ∈ L, b = k ∨ b = g ∨ (base ≤ b ∧ b ∉ C)
  ck : k ∈ C ∧ sb ∈ C ∧ g ∈ C
  cl : ∀ b ∈ C, b < w0.heap.size
section
variable {k sb g N at' sz base t : Nat} {C : List Nat} {f : Nat → Int} {w0 : World}
theorem Bst.size {S1 S2 : List Frm} {w : World} (h : Bst k sb g N at' sz base t C f w0 S1 S2 w) : w0.heap.size ≤ w.heap.size := by obtain ⟨L, h, _⟩ := h.mv; exact h.size
theorem Bst.box {S1 S2 : List Frm} {w : World} (h : Bst k sb g N at' sz base t C f w0 S1 S2 w) {X : Nat} {c : Array Value} {T : TypeId} (hX : Blk w0 X c T) (hC : X ∈ C) (h1 : X ≠ k) (h2 : X ≠ g) : Blk w X c T := by
  obtain ⟨L, ht, hL⟩ := h.mv
  refine hX.touch ht (fun hm => ?_)
  rcases hL _ hm with e | e | e
  · exact h1 e
  · exact h2 e
  · exact e.2 hC
theorem Bst.still {S1 S2 : List Frm} {w w' : World} (h : Bst k sb g N at' sz base t C f w0 S1 S2 w) (ht : Touch [] w w') : Bst k sb g N at' sz base t C f w0 S1 S2 w' := by
  obtain ⟨f', h1, h2⟩ := h.one
  obtain ⟨v, ps, h3⟩ := h.two
  obtain ⟨L, h4, h5⟩ := h.mv
  exact ⟨⟨f', h1.still ht, h2⟩, ⟨v, ps, h3.still ht⟩, ⟨L, h4.trans (ht.mono (by simp)), h5⟩, h.ck, h.cl⟩
variable {S1 S2 S' : List Frm} {F : Frm} {r : List Frm} {w : World}
end
end Go.Proofs.YtjfnoondkgjabaaGreatDoor

set_option linter.unusedVariables false
set_option maxRecDepth 100000
namespace Go.Proofs.YtjfnoondkgjabaaGreatDoor
open Go.RowKit Go.BigFrame

/-- Behind a step: both stacks have the same frames. -/
def StP (k sb g N at' sz base t : Nat) (C : List Nat) (f : Nat → Int) (w : World) (e : Ending) (w' : World) : Prop :=
  e = .returned (.bool true) ∧ ∃ S', (∃ f', KsF w' k sb g f' N at' sz S' ∧ Agr at' sz f f') ∧ Rs w' C base t sz S' ∧ ∃ L, Touch L w w' ∧ ∀ b ∈ L, b = k ∨ b = g ∨ (base ≤ b ∧ b ∉ C)
section
variable (k sb g N at' sz base t : Nat) (C : List Nat) (f : Nat → Int) (F : Frm) (r : List Frm) (x y z : Int) (w : World)
theorem Bst.start (o : Obj) (h1 : KsF w k sb g f N at' sz (F :: r)) (h2 : Rs w C base t sz (F :: r)) (hc : k ∈ C ∧ sb ∈ C ∧ g ∈ C) (hC : ∀ b ∈ C, b < w.heap.size) : Bst k sb g N at' sz base t (w.heap.size :: C) f (w.alloc o) (F :: r) (F :: r) (w.alloc o) := by
  have t1 : Touch [] w (w.alloc o) := (Touch.refl _ _).alloc _
  refine ⟨⟨f, h1.still t1, Agr.refl _ _ _⟩, h2.keep (E := [w.heap.size]) t1 (by simp) (by simp), ⟨[], Touch.refl _ _, by simp⟩, ⟨by simp [hc.1], by simp [hc.2.1], by simp [hc.2.2]⟩, fun b hb => ?_⟩
  rw [List.mem_cons] at hb
  rcases hb with rfl | hb
  · simp
  · have := hC b hb; simp; omega
theorem Bst.end (o : Obj) {S' : List Frm} {w' : World} (h : Bst k sb g N at' sz base t (w.heap.size :: C) f (w.alloc o) S' S' w') : StP k sb g N at' sz base t C f w (.returned (.bool true)) w' := by
  obtain ⟨L, h1, h2⟩ := h.mv
  refine ⟨rfl, S', h.one, h.two.less (by simp; exact fun _ => .inr), ⟨L, (((Touch.refl [] w).alloc o).mono (by simp)).trans h1, fun b hb => ?_⟩⟩
  rcases h2 b hb with e | e | e
  · exact .inl e
  · exact .inr (.inl e)
  · exact .inr (.inr ⟨e.1, fun hm => e.2 (by simp [hm])⟩)
end
end Go.Proofs.YtjfnoondkgjabaaGreatDoor

set_option linter.unusedVariables false
set_option maxRecDepth 100000
namespace Go.Proofs.YtjfnoondkgjabaaGreatDoor
open Go.RowKit Go.BigFrame

section
variable (k sb g N at' sz base t : Nat) (C : List Nat) (f : Nat → Int) (F : Frm) (r : List Frm) (w : World)
theorem top1 (i a : Int) (b : Bool) (h : KsF w k sb g f N at' sz (F :: r)) (h1 : (topM i (F :: r)).1 = a) (h2 : (topM i (F :: r)).2 = b) : Calls Tryz.prog 16 #[.pointer (some ⟨k, 0, none⟩), .int .i64 i] w fun e w' => e = .returned (.tuple #[.int .i64 a, .bool b]) ∧ Touch [] w w' := by
  subst h1 h2; exact top_m k sb g f N at' sz F r w i h
theorem loc1 (i a : Int) (b : Bool) (h : KsF w k sb g f N at' sz (F :: r)) (h1 : (locM i (F :: r)).1 = a) (h2 : (locM i (F :: r)).2 = b) : Calls Tryz.prog 65 #[.pointer (some ⟨k, 0, none⟩), .int .i64 i] w fun e w' => e = .returned (.tuple #[.int .i64 a, .bool b]) ∧ Touch [] w w' := by
  subst h1 h2; exact loc_m k sb g f N at' sz F r w i h
theorem top2 (v : Value) (ps : Nat → Nat → Value) (i a : Int) (b : Bool) (hb : F.ops.length ≤ 9000 ∧ r.length ≤ 9000) (h : Rz w C base t sz v ps (F :: r)) (h1 : (topM i (F :: r)).1 = a) (h2 : (topM i (F :: r)).2 = b) : Calls Tryz.prog 64 #[.pointer (some ⟨t, 0, none⟩), .int .i64 i] w fun e w' => e = .returned (.tuple #[.int .i64 a, .bool b]) ∧ Touch [] w w' := by
  subst h1 h2; exact rtopv_q C base t sz F r v ps w i (by omega) (by omega) h
theorem loc2 (v : Value) (ps : Nat → Nat → Value) (i a : Int) (b : Bool) (hb : F.loc.length ≤ 9000 ∧ r.length ≤ 9000) (h : Rz w C base t sz v ps (F :: r)) (h1 : (locM i (F :: r)).1 = a) (h2 : (locM i (F :: r)).2 = b) : Calls Tryz.prog 66 #[.pointer (some ⟨t, 0, none⟩), .int .i64 i] w fun e w' => e = .returned (.tuple #[.int .i64 a, .bool b]) ∧ Touch [] w w' := by
  subst h1 h2; exact rloc_q C base t sz F r v ps w i (by omega) (by omega) h
theorem len1 (T : Nat) (h : KsF w k sb g f N at' sz (F :: r)) (hT : topS (F :: r) = T) : Calls Tryz.prog 63 #[.pointer (some ⟨k, 0, none⟩)] w fun e w' => e = .returned (.int .i64 T) ∧ w = w' := by
  subst hT; exact len_m k sb g f N at' sz F r w h
theorem frames1 (n : Nat) (h : KsF w k sb g f N at' sz (F :: r)) (hn : r.length = n) : Calls Tryz.prog 47 #[.pointer (some ⟨k, 0, none⟩)] w fun e w' => e = .returned (.int .i64 n) ∧ w = w' := by
  subst hn; exact frames_m k sb g f N at' sz F r w h
theorem operands1 (m : Nat) (h : KsF w k sb g f N at' sz (F :: r)) (hm : F.ops.length = m) : Calls Tryz.prog 40 #[.pointer (some ⟨k, 0, none⟩)] w fun e w' => e = .returned (.int .i64 m) ∧ Touch [] w w' := by
  subst hm; exact operands_m k sb g f N at' sz F r w h
theorem len2 (v : Value) (ps : Nat → Nat → Value) (T : Nat) (h : Rz w C base t sz v ps (F :: r)) (hb : topS (F :: r) ≤ 9000 ∧ r.length ≤ 9000) (hT : topS (F :: r) = T) : Calls Tryz.prog 55 #[.pointer (some ⟨t, 0, none⟩)] w fun e w' => e = .returned (.int .i64 T) ∧ Touch [] w w' := by
  subst hT
  exact (rlen_q C base t sz (F :: r) v ps w (by simp; omega) (by omega) (by simp) h).mono (fun e w' h => by first | exact h | (obtain ⟨h1, rfl⟩ := h; exact ⟨h1, Touch.refl _ _⟩))
theorem frames2 (v : Value) (ps : Nat → Nat → Value) (n : Nat) (h : Rz w C base t sz v ps (F :: r)) (hb : r.length ≤ 9000) (hn : r.length = n) : Calls Tryz.prog 57 #[.pointer (some ⟨t, 0, none⟩)] w fun e w' => e = .returned (.int .i64 n) ∧ Touch [] w w' := by
  subst hn; exact rframes_q C base t sz F r v ps w (by omega) h
theorem operands2 (v : Value) (ps : Nat → Nat → Value) (m : Nat) (h : Rz w C base t sz v ps (F :: r)) (hb : r.length ≤ 9000) (hm : F.ops.length = m) : Calls Tryz.prog 54 #[.pointer (some ⟨t, 0, none⟩)] w fun e w' => e = .returned (.int .i64 m) ∧ Touch [] w w' := by
  subst hm; exact roperands_q C base t sz F r v ps w (by omega) h
end
end Go.Proofs.YtjfnoondkgjabaaGreatDoor

set_option linter.unusedVariables false
namespace Go.Proofs.YtjfnoondkgjabaaGreatDoor
open Go.RowKit

def rsNewPost (n : Nat) (w : World) (e : Ending) (w' : World) : Prop :=
  ∃ b g, e = .returned (.tuple #[.pointer (some ⟨b, 0, none⟩), .int .i64 0]) ∧ St w' b g (fun _ => 0) n 82 ∧ w.heap.size ≤ b ∧ w.heap.size ≤ g ∧ Touch [] w w'
set_option maxHeartbeats 1000000 in
theorem rsnew_ok (n : Nat) (hn : n ≤ 8192) (w : World) : Calls Tryz.prog 28 #[.int .i64 n] w (rsNewPost n w) := by
  have hmk := fun w => run_mk n (by omega) w
  go_enter Tryz.func28, Tryz.ntmps28
  go_wp2
  go_ret2
  refine ⟨w.heap.size + 1, w.heap.size, rfl, ⟨?_, ?_, by omega⟩, by omega, by omega, ?_⟩
  · exact Blk.new (by simp)
  · exact (Blk.new rfl).alloc _
  · exact ((Touch.refl _ _).alloc _).alloc _
theorem rget_yes (b g n : Nat) (f : Nat → Int) (w : World) (hs : St w b g f n 82) (hn : n ≤ 8192) (k : Nat) (hk : k < n) : Calls Tryz.prog 86 #[.pointer (some ⟨b, 0, none⟩), .int .i64 k] w fun e w' => e = .returned (.tuple #[.int .i64 (f k), .bool true]) ∧ w = w' := by
  have HS := Lib.hid hs
  obtain ⟨hb, hg, hne⟩ := hs
  have hb0 := hb.cell (i := 0) rfl
  have hc := hg.cell (rowA_get f n k hk)
  have hz : ((0 : Nat) + k) = k := Nat.zero_add k
  generalize f k = z at *
  go_enter Tryz.func86, Tryz.ntmps86
  go_wp2
  go_ret2
  exact ⟨rfl, rfl⟩
theorem rput_yes (b g n : Nat) (f : Nat → Int) (w : World) (hs : St w b g f n 82) (hn : n ≤ 8192) (k : Nat) (x : Int) (hk : k < n) : Calls Tryz.prog 30 #[.pointer (some ⟨b, 0, none⟩), .int .i64 k, .int .i64 x] w fun e w' => e = .returned (.bool true) ∧ St w' b g (upd f k x) n 82 ∧ Touch [g] w w' := by
  have HS := Lib.hid hs
  obtain ⟨hb, hg, hne⟩ := hs
  have hb0 := hb.cell (i := 0) rfl
  have hc := hg.cell (rowA_get f n k hk)
  have hf := hg.free k
  generalize f k = z at *
  go_enter Tryz.func30, Tryz.ntmps30
  go_wp2
  go_ret
  refine ⟨rfl, ?_, (Touch.refl _ _).setCell (by simp) _⟩
  exact HS.out.put k x
end Go.Proofs.YtjfnoondkgjabaaGreatDoor

set_option linter.unusedVariables false
set_option maxRecDepth 100000
namespace Go.Proofs.YtjfnoondkgjabaaGreatDoor
open Go.RowKit Go.BigFrame

def fnV (n : Nat) : Value := .func (.func n) #[] #[]
/-- The row of number j once the numbers from 9 up to ahead of k have theirs. -/
def rowV (k j : Nat) : Value :=
  if j = 1 then fnV 67 else if j = 2 then fnV 68 else if j = 3 then fnV 69
  else if j = 4 then fnV 70 else if j = 5 then fnV 71 else if j = 6 then fnV 71
  else if j = 7 then fnV 72 else if j = 8 then fnV 73
  else if j = 24 then fnV 74 else if j = 25 then fnV 75 else if j = 26 then fnV 76
  else if j = 27 then fnV 77 else if 9 ≤ j ∧ j < k then fnV 78 else .nilFunc
def tabA (k : Nat) : Array Value := ((List.range 28).map (rowV k)).toArray
theorem tabA_get (k j : Nat) (h : j < 28) : (tabA k)[j]? = some (rowV k j) := by simp [tabA, h]
theorem tabA_size (k : Nat) : (tabA k).size = 28 := by simp [tabA]
theorem tabA_9 : tabA 9 = #[.nilFunc, fnV 67, fnV 68, fnV 69, fnV 70, fnV 71, fnV 71, fnV 72, fnV 73, .nilFunc, .nilFunc, .nilFunc, .nilFunc, .nilFunc, .nilFunc, .nilFunc, .nilFunc, .nilFunc, .nilFunc, .nilFunc, .nilFunc, .nilFunc, .nilFunc, .nilFunc, fnV 74, fnV 75, fnV 76, fnV 77] := by rfl
theorem tabA_set (k : Nat) (h1 : 9 ≤ k) (h2 : k < 24) : (tabA k).setIfInBounds k (fnV 78) = tabA (k + 1) := by
  apply Array.ext_getElem?
  intro j
  rw [Array.getElem?_setIfInBounds, tabA_size]
  by_cases hj : j < 28
  · rw [tabA_get _ _ hj, tabA_get _ _ hj]
    by_cases hk : k = j
    · subst hk
      rw [if_pos rfl, if_pos hj]
      have a1 : rowV (k + 1) k = fnV 78 := by
        unfold rowV
        rw [if_neg (by omega), if_neg (by omega), if_neg (by omega), if_neg (by omega), if_neg (by omega), if_neg (by omega), if_neg (by omega), if_neg (by omega), if_neg (by omega), if_neg (by omega), if_neg (by omega), if_neg (by omega), if_pos (by omega)]
      rw [a1]
    · rw [if_neg hk]
      have : (9 ≤ j ∧ j < k) ↔ (9 ≤ j ∧ j < k + 1) := by omega
      unfold rowV
      simp only [this]
  · have h1 : (tabA k)[j]? = none := by rw [Array.getElem?_eq_none]; rw [tabA_size]; omega
    have h2 : (tabA (k + 1))[j]? = none := by rw [Array.getElem?_eq_none]; rw [tabA_size]; omega
    rw [h1, h2]
    by_cases hk : k = j
    · subst hk; simp [hj]
    · rw [if_neg hk]
def RowsP (w : World) (e : Ending) (w' : World) : Prop := ∃ G, e = .returned (.slice (some ⟨G, 0, none⟩) 28 28) ∧ Hid (Blk w' G (tabA 24) 103 ∧ w.heap.size ≤ G ∧ Touch [] w w')
set_option maxHeartbeats 8000000 in
theorem rows_any (w : World) : Calls Tryz.prog 39 #[] w (RowsP w) := by
  go_enter Tryz.func39, Tryz.ntmps39
  go_wp2
  go_loopw [2] (fun i wr => ∃ k : Nat, 9 ≤ k ∧ k ≤ 24 ∧ i = .int .i64 k ∧ Hid (Blk wr w.heap.size (tabA k) 103 ∧ Touch [w.heap.size] w wr)) (fun i _ => 24 - (intOf i).toNat)
  case atStart => exact ⟨9, by omega, by omega, rfl, Lib.hid ⟨by rw [tabA_9]; exact Blk.new rfl, (Touch.refl _ _).alloc _⟩⟩
  case round =>
    obtain ⟨k, hk1, hk2, rfl, HB⟩ := hrel
    by_cases hlt : k < 24
    · have dk : decide ((k : Int) ≤ 23) = true := dT (by omega)
      have c1 : wr.cell? ⟨w.heap.size, k, none⟩ = some (rowV k k) := HB.out.1.cell (tabA_get k k (by omega))
      have c2 : wr.frozen? ⟨w.heap.size, k, none⟩ = false := HB.out.1.free k
      go_wp2
      go_roundw
      case rel => 
        refine ⟨k + 1, by omega, by omega, by go_num, Lib.hid ⟨?_, HB.out.2.setCell (by simp) _⟩⟩
        rw [← tabA_set k hk1 hlt]
        exact HB.out.1.set k _
      case measure => simp [intOf]; omega
    · have dk : decide ((k : Int) ≤ 23) = false := dF (by omega)
      obtain rfl : k = 24 := by omega
      go_wp2
      go_ret
      exact ⟨_, rfl, Lib.hid ⟨HB.out.1, Nat.le_refl _, HB.out.2.fresh (by simp)⟩⟩
/-- The task at block b: its stack is at k, its table at G. -/
structure Tk (w : World) (b k G : Nat) (at' : Int) : Prop where
  obj : Blk w b #[.pointer (some ⟨k, 0, none⟩), .int .i64 at', .slice (some ⟨G, 0, none⟩) 28 28] 92
  rows : Blk w G (tabA 24) 103
  ne : b ≠ G
theorem Tk.touch {w w' : World} {b k G : Nat} {at' : Int} {L : List Nat} (h : Tk w b k G at') (ht : Touch L w w') (h1 : b ∉ L) (h2 : G ∉ L) : Tk w' b k G at' := ⟨h.obj.touch ht h1, h.rows.touch ht h2, h.ne⟩
def NewTP (k : Nat) (at' : Int) (w : World) (e : Ending) (w' : World) : Prop := ∃ b G, e = .returned (.pointer (some ⟨b, 0, none⟩)) ∧ Hid (Tk w' b k G at' ∧ w.heap.size ≤ b ∧ w.heap.size ≤ G ∧ Touch [] w w')
set_option maxHeartbeats 4000000 in
theorem tnew_any (k : Nat) (at' : Int) (w : World) : Calls Tryz.prog 13 #[.pointer (some ⟨k, 0, none⟩), .int .i64 at'] w (NewTP k at' w) := by
  go_enter Tryz.func13, Tryz.ntmps13
  go_wp2_with fail
  refine (rows_any _).mono ?_
  rintro e w1 ⟨G, rfl, HG⟩
  go_wp2
  go_ret
  have hl := HG.out.1.lt
  exact ⟨_, G, rfl, Lib.hid ⟨⟨Blk.new rfl, HG.out.1.alloc _, by omega⟩, HG.out.2.2.size, HG.out.2.1, HG.out.2.2.alloc _⟩⟩
theorem tnew_nil (at' : Int) (w : World) : Calls Tryz.prog 13 #[.pointer none, .int .i64 at'] w fun e w' => e = .returned (.pointer none) ∧ w = w' := by
  go_enter Tryz.func13, Tryz.ntmps13
  go_wp2
  go_ret
  exact ⟨rfl, rfl⟩
theorem at_any (b k G : Nat) (at' : Int) (w : World) (h : Tk w b k G at') : Calls Tryz.prog 17 #[.pointer (some ⟨b, 0, none⟩)] w fun e w' => e = .returned (.int .i64 at') ∧ w = w' := by
  have x1 := h.obj.cell (i := 1) rfl
  clear h
  go_enter Tryz.func17, Tryz.ntmps17
  go_wp2
  go_ret
  exact ⟨rfl, rfl⟩
theorem stack_any (b k G : Nat) (at' : Int) (w : World) (h : Tk w b k G at') : Calls Tryz.prog 19 #[.pointer (some ⟨b, 0, none⟩)] w fun e w' => e = .returned (.pointer (some ⟨k, 0, none⟩)) ∧ w = w' := by
  have x0 := h.obj.cell (i := 0) rfl
  clear h
  go_enter Tryz.func19, Tryz.ntmps19
  go_wp2
  go_ret
  exact ⟨rfl, rfl⟩
theorem Tk.set {w : World} {b k G : Nat} {at' : Int} (h : Tk w b k G at') (x : Int) : Tk (w.setCell ⟨b, 1, none⟩ (.int .i64 x)) b k G x := ⟨h.obj.set 1 _, h.rows.other (fun e => h.ne e.symm) _, h.ne⟩
theorem goto_any (b k G : Nat) (at' x : Int) (w : World) (h : Tk w b k G at') : Calls Tryz.prog 18 #[.pointer (some ⟨b, 0, none⟩), .int .i64 x] w fun e w' => e = .returned (.tuple #[]) ∧ Tk w' b k G x ∧ Touch [b] w w' := by
  have HT := Lib.hid h
  have x1 := h.obj.cell (i := 1) rfl
  have z1 := h.obj.free 1
  clear h
  go_enter Tryz.func18, Tryz.ntmps18
  go_wp2
  go_end0
  exact ⟨rfl, HT.out.set x, (Touch.refl _ _).setCell (by simp) _⟩
end Go.Proofs.YtjfnoondkgjabaaGreatDoor

set_option linter.unusedVariables false
set_option maxRecDepth 100000
namespace Go.Proofs.YtjfnoondkgjabaaGreatDoor
open Go.RowKit Go.BigFrame

/-- The stack's frames are S, and the n words ahead of it are v. -/
structure Ps (w : World) (k sb g N n sz : Nat) (v : Nat → Int) (S : List Frm) : Prop where
  ks : ∃ f, KsF w k sb g f N n sz S ∧ ∀ j, j < n → f j = v j
theorem Ps.touch {w w' : World} {k sb g N n sz : Nat} {v : Nat → Int} {S : List Frm} {L : List Nat} (h : Ps w k sb g N n sz v S) (ht : Touch L w w') (h1 : k ∉ L) (h2 : sb ∉ L) (h3 : g ∉ L) : Ps w' k sb g N n sz v S := by
  obtain ⟨f, h, e⟩ := h.ks
  exact ⟨f, ⟨⟨h.1.obj.touch ht h1, h.1.st.touch ht h2 h3, h.1.n1, h.1.n2, h.1.fit, h.1.big, h.1.tps⟩, h.2⟩, e⟩
theorem Ps.still {w w' : World} {k sb g N n sz : Nat} {v : Nat → Int} {S : List Frm} (h : Ps w k sb g N n sz v S) (ht : Touch [] w w') : Ps w' k sb g N n sz v S := h.touch ht (by simp) (by simp) (by simp)
def PsP (k sb g N n sz : Nat) (v : Nat → Int) (S : List Frm) (r : Value) (w : World) (e : Ending) (w' : World) : Prop := e = .returned r ∧ Ps w' k sb g N n sz v S ∧ Touch [k, g] w w'
section
variable {k sb g N n sz : Nat} {v : Nat → Int} {F : Frm} {r S S' : List Frm} {w : World}
theorem ps_of {fn : Nat} {args : Array Value} {x : Value} (hc : ∀ f, KsF w k sb g f N n sz S → Calls Tryz.prog fn args w (KsP k sb g N n sz f S' x w)) (h : Ps w k sb g N n sz v S) : Calls Tryz.prog fn args w (PsP k sb g N n sz v S' x w) := by
  obtain ⟨f, h, e⟩ := h.ks
  refine (hc f h).mono ?_
  rintro e' w' ⟨rfl, ⟨f', h3, h4⟩, ht⟩
  exact ⟨rfl, ⟨f', h3, fun j hj => by rw [h4 j (.inl hj)]; exact e j hj⟩, ht⟩
theorem p_push (x : Int) {c : Int} (h1 : (pushM sz x (F :: r)).1 = c) (h2 : (pushM sz x (F :: r)).2 = S') (h : Ps w k sb g N n sz v (F :: r)) : Calls Tryz.prog 33 #[.pointer (some ⟨k, 0, none⟩), .int .i64 x] w (PsP k sb g N n sz v S' (.int .i64 c) w) := by
  subst h1 h2
  exact ps_of (fun f h' => push_m k sb g f N n sz F r w x h') h
theorem p_pop {x c : Int} (h1 : (popM (F :: r)).1 = x) (h1' : (popM (F :: r)).2.1 = c) (h2 : (popM (F :: r)).2.2 = S') (h : Ps w k sb g N n sz v (F :: r)) : Calls Tryz.prog 92 #[.pointer (some ⟨k, 0, none⟩)] w (PsP k sb g N n sz v S' (.tuple #[.int .i64 x, .int .i64 c]) w) := by
  subst h1 h1' h2
  exact ps_of (fun f h' => pop_m k sb g f N n sz F r w h') h
theorem p_call (x y z : Int) {c : Int} (hz : z ≤ 9223372036854775807) (h1 : (callM sz x y z (F :: r)).1 = c) (h2 : (callM sz x y z (F :: r)).2 = S') (h : Ps w k sb g N n sz v (F :: r)) : Calls Tryz.prog 14 #[.pointer (some ⟨k, 0, none⟩), .int .i64 x, .int .i64 y, .int .i64 z] w (PsP k sb g N n sz v S' (.int .i64 c) w) := by
  subst h1 h2
  exact ps_of (fun f h' => call_m k sb g f N n sz F r w x y z hz h') h
theorem p_ret {x : Int} {b : Bool} (h1 : (retM (F :: r)).1 = x) (h1' : (retM (F :: r)).2.1 = b) (h2 : (retM (F :: r)).2.2 = S') (h : Ps w k sb g N n sz v (F :: r)) : Calls Tryz.prog 95 #[.pointer (some ⟨k, 0, none⟩)] w (PsP k sb g N n sz v S' (.tuple #[.int .i64 x, .bool b]) w) := by
  subst h1 h1' h2
  exact ps_of (fun f h' => ret_m k sb g f N n sz F r w h') h
theorem p_set (i x : Int) {b : Bool} (h1 : (setM i x (F :: r)).1 = b) (h2 : (setM i x (F :: r)).2 = S') (h : Ps w k sb g N n sz v (F :: r)) : Calls Tryz.prog 94 #[.pointer (some ⟨k, 0, none⟩), .int .i64 i, .int .i64 x] w (PsP k sb g N n sz v S' (.bool b) w) := by
  subst h1 h2
  exact ps_of (fun f h' => set_m k sb g f N n sz F r w i x h') h
theorem p_loc (i : Int) {x : Int} {b : Bool} (h1 : (locM i (F :: r)).1 = x) (h2 : (locM i (F :: r)).2 = b) (h : Ps w k sb g N n sz v (F :: r)) : Calls Tryz.prog 65 #[.pointer (some ⟨k, 0, none⟩), .int .i64 i] w fun e w' => e = .returned (.tuple #[.int .i64 x, .bool b]) ∧ Touch [] w w' := by
  subst h1 h2
  obtain ⟨f, h, _⟩ := h.ks
  exact loc_m k sb g f N n sz F r w i h
theorem p_top (i : Int) {x : Int} {b : Bool} (h1 : (topM i (F :: r)).1 = x) (h2 : (topM i (F :: r)).2 = b) (h : Ps w k sb g N n sz v (F :: r)) : Calls Tryz.prog 16 #[.pointer (some ⟨k, 0, none⟩), .int .i64 i] w fun e w' => e = .returned (.tuple #[.int .i64 x, .bool b]) ∧ Touch [] w w' := by
  subst h1 h2
  obtain ⟨f, h, _⟩ := h.ks
  exact top_m k sb g f N n sz F r w i h
theorem p_frames (h : Ps w k sb g N n sz v (F :: r)) : Calls Tryz.prog 47 #[.pointer (some ⟨k, 0, none⟩)] w fun e w' => e = .returned (.int .i64 (r.length : Nat)) ∧ w = w' := by
  obtain ⟨f, h, _⟩ := h.ks
  exact frames_m k sb g f N n sz F r w h
theorem Ps.nle (h : Ps w k sb g N n sz v S) : n + sz ≤ N ∧ N ≤ 8192 := by
  obtain ⟨f, h, _⟩ := h.ks
  exact ⟨h.1.fit, h.1.big⟩
theorem p_get (j : Nat) (hj : j < n) {x : Int} (hx : v j = x) (h : Ps w k sb g N n sz v S) : Calls Tryz.prog 37 #[.pointer (some ⟨sb, 0, none⟩), .int .i64 (j : Int)] w fun e w' => e = .returned (.tuple #[.int .i64 x, .bool true]) ∧ w = w' := by
  subst hx
  have hn := h.nle
  obtain ⟨f, h, e⟩ := h.ks
  rw [← e j hj]
  exact sget_yes sb g N f w h.1.st hn.2 j (by omega)
theorem p_put (j : Nat) (hj : j < n) (x : Int) (h : Ps w k sb g N n sz v S) : Calls Tryz.prog 29 #[.pointer (some ⟨sb, 0, none⟩), .int .i64 (j : Int), .int .i64 x] w (PsP k sb g N n sz (upd v j x) S (.bool true) w) := by
  have hn := h.nle
  obtain ⟨f, h, e⟩ := h.ks
  refine (sput_yes sb g N f w h.1.st hn.2 j x (by omega)).mono ?_
  rintro e' w' ⟨rfl, hs, ht⟩
  refine ⟨rfl, ⟨upd f j x, ⟨⟨h.1.obj.touch ht (by simpa using h.1.n2), hs, h.1.n1, h.1.n2, h.1.fit, h.1.big, h.1.tps⟩, h.2.congr fun i hi => ?_⟩, fun i hi => ?_⟩, ht.mono (by simp)⟩
  · unfold upd; rw [if_neg (by omega)]
  · unfold upd; split
    · rfl
    · exact e i hi
end
theorem ps_new {w : World} {k sb g N n sz : Nat} {f : Nat → Int} (h : Kv w k sb g f N 0 0 0 0 n sz) : Ps w k sb g N n sz f [⟨0, [], []⟩] :=
  ⟨f, ⟨h, rfl, fun j hj => absurd hj (Nat.not_lt_zero _)⟩, fun _ _ => rfl⟩
theorem Ps.lt {w : World} {k sb g N n sz : Nat} {v : Nat → Int} {S : List Frm} (h : Ps w k sb g N n sz v S) : k < w.heap.size ∧ sb < w.heap.size ∧ g < w.heap.size ∧ k ≠ sb ∧ k ≠ g := by
  obtain ⟨f, h, _⟩ := h.ks
  exact ⟨h.1.obj.lt, h.1.st.1.lt, h.1.st.2.1.lt, h.1.n1, h.1.n2⟩
/-- The program as a value: its slices' parts. -/
structure PV where
  a1 : Option Addr
  n1 : Nat
  c1 : Nat
  a2 : Option Addr
  n2 : Nat
  c2 : Nat
  a3 : Option Addr
  n3 : Nat
  c3 : Nat
  rg : Int
  a5 : Option Addr
  n5 : Nat
  c5 : Nat
  a6 : Option Addr
  n6 : Nat
  c6 : Nat
  a7 : Option Addr
  n7 : Nat
  c7 : Nat
  a8 : Option Addr
  n8 : Nat
  c8 : Nat
  cl : Int
def PV.c (p : PV) : Array Value := #[.slice p.a1 p.n1 p.c1, .slice p.a2 p.n2 p.c2, .slice p.a3 p.n3 p.c3, .int .i64 p.rg, .slice p.a5 p.n5 p.c5, .slice p.a6 p.n6 p.c6, .slice p.a7 p.n7 p.c7, .slice p.a8 p.n8 p.c8, .int .i64 p.cl]
def wkA (op a bb : Int) (p : PV) (sb : Nat) (nx : Int) : Array Value := #[.int .i64 op, .int .i64 a, .int .i64 bb, .slice p.a1 p.n1 p.c1, .slice p.a2 p.n2 p.c2, .slice p.a3 p.n3 p.c3, .int .i64 p.rg, .slice p.a5 p.n5 p.c5, .slice p.a6 p.n6 p.c6, .slice p.a7 p.n7 p.c7, .slice p.a8 p.n8 p.c8, .int .i64 p.cl, .pointer (some ⟨sb, 0, none⟩), .int .i64 nx]
/-- What an instruction leaves. -/
def RowP (W k sb g N n sz : Nat) (c : Int) (wk : Array Value) (v : Nat → Int) (S : List Frm) (w : World) (e : Ending) (w' : World) : Prop := e = .returned (.int .i64 c) ∧ Hid (Ps w' k sb g N n sz v S ∧ Blk w' W wk 99 ∧ Touch [k, g, W] w w')
section
variable {b k G W sb g N n sz : Nat} {at' op a bb nx : Int} {p : PV} {v : Nat → Int} {F : Frm} {r S S' : List Frm} {w : World}
set_option maxHeartbeats 4000000 in
theorem row_nop (hw : Blk w W (wkA op a bb p sb nx) 99) (hs : Ps w k sb g N n sz v S) : Calls Tryz.prog 67 #[.pointer (some ⟨b, 0, none⟩), .pointer (some ⟨W, 0, none⟩)] w (RowP W k sb g N n sz 0 (wkA op a bb p sb nx) v S w) := by
  have HR : Hid (Ps w k sb g N n sz v S ∧ Blk w W (wkA op a bb p sb nx) 99 ∧ Touch [k, g, W] w w) := Lib.hid ⟨hs, hw, Touch.refl _ _⟩
  clear hw hs
  go_enter Tryz.func67, Tryz.ntmps67
  go_wp2
  go_ret
  exact ⟨rfl, HR⟩
set_option maxHeartbeats 4000000 in
theorem row_push {c : Int} (h1 : (pushM sz a (F :: r)).1 = c) (h2 : (pushM sz a (F :: r)).2 = S') (ht : Tk w b k G at') (hw : Blk w W (wkA op a bb p sb nx) 99) (hs : Ps w k sb g N n sz v (F :: r)) (hk : W ≠ k) (hg : W ≠ g) :
    Calls Tryz.prog 68 #[.pointer (some ⟨b, 0, none⟩), .pointer (some ⟨W, 0, none⟩)] w (RowP W k sb g N n sz c (wkA op a bb p sb nx) v S' w) := by
  have HC : Hid (∀ w', Touch [] w w' → Calls Tryz.prog 33 #[.pointer (some ⟨k, 0, none⟩), .int .i64 a] w' (PsP k sb g N n sz v S' (.int .i64 c) w')) := Lib.hid (fun w' t => p_push a h1 h2 (hs.still t))
  have HW := Lib.hid hw
  have HN : Hid (W ≠ k ∧ W ≠ g) := Lib.hid ⟨hk, hg⟩
  have x0 := ht.obj.cell (i := 0) rfl
  have y1 := hw.cell (i := 1) (v := .int .i64 a) rfl
  clear h1 h2 ht hw hs
  go_enter Tryz.func68, Tryz.ntmps68
  go_wp2_with fail
  go_still_tail 9, (by kernel_rfl)
  change wpList _ _ _ _ _ (World.drew w)
  have HD : Hid (Touch [] w (World.drew w)) := Lib.hid (Touch.refl [] w).drew
  clear x0 y1
  generalize World.drew w = wd at HD ⊢
  go_wp2_with fail
  refine (HC.out _ HD.out).mono ?_
  rintro e w2 ⟨rfl, hp, ht⟩
  go_wp2
  go_ret
  exact ⟨rfl, Lib.hid ⟨hp, (HW.out.touch HD.out (by simp)).touch ht (by simpa using HN.out), (HD.out.mono (by simp)).trans (ht.mono (by intro i hi; simp at hi ⊢; omega))⟩⟩
end
end Go.Proofs.YtjfnoondkgjabaaGreatDoor

namespace Go.Proofs.YtjfnoondkgjabaaGreatDoor
open Go.RowKit

def kV (a : Int) : Int := if InI a then a else 0
def kC (a : Int) : Int := if InI a then 0 else 31
theorem kV_in {a : Int} (h : InI a) : kV a = a := if_pos h
theorem kC_in {a : Int} (h : InI a) : kC a = 0 := if_pos h
theorem kV_out {a : Int} (h : ¬ InI a) : kV a = 0 := if_neg h
theorem kC_out {a : Int} (h : ¬ InI a) : kC a = 31 := if_neg h
theorem wrap_over {a : Int} (h : 9223372036854775807 < a) (h2 : a ≤ 18446744073709551616) : wrap64 a = a - 18446744073709551616 := by
  unfold wrap64; omega
theorem wrap_under {a : Int} (h : a < -9223372036854775808) (h2 : -18446744073709551616 ≤ a) : wrap64 a = a + 18446744073709551616 := by
  unfold wrap64; omega
def Pair (x c : Int) (w : World) (e : Ending) (w' : World) : Prop := e = .returned (.tuple #[.int .i64 x, .int .i64 c]) ∧ w = w'



set_option maxHeartbeats 400000 in
theorem add_any (a b : Int) (ha : InI a) (hb : InI b) (w : World) :
    Calls Tryz.prog 101 #[.int .i64 a, .int .i64 b] w (Pair (kV (a + b)) (kC (a + b)) w) := by
  unfold InI at ha hb
  obtain ⟨a1, a2⟩ := ha
  obtain ⟨b1, b2⟩ := hb
  by_cases h : InI (a + b)
  · rw [kV_in h, kC_in h]
    unfold InI at h
    obtain ⟨h1, h2⟩ := h
    by_cases hp : 0 < b
    · have d1 : decide (a < a + b) = true := dT (by omega)
      go_enter Tryz.func101, Tryz.ntmps101
      go_wp2
      go_ret2
      exact ⟨rfl, rfl⟩
    · have d1 : decide (a < a + b) = false := dF (by omega)
      go_enter Tryz.func101, Tryz.ntmps101
      go_wp2
      go_ret2
      exact ⟨rfl, rfl⟩
  · rw [kV_out h, kC_out h]
    by_cases hp : 0 < b
    · have hh : 9223372036854775807 < a + b := by unfold InI at h; omega
      have hw : decide (a < wrap64 (a + b)) = false := dF (by rw [wrap_over hh (by omega)]; omega)
      clear h
      go_enter Tryz.func101, Tryz.ntmps101
      go_wp2
      go_ret2
      exact ⟨rfl, rfl⟩
    · have hh : a + b < -9223372036854775808 := by unfold InI at h; omega
      have hw : decide (a < wrap64 (a + b)) = true := dT (by rw [wrap_under hh (by omega)]; omega)
      clear h
      go_enter Tryz.func101, Tryz.ntmps101
      go_wp2
      go_ret2
      exact ⟨rfl, rfl⟩

set_option maxHeartbeats 400000 in
theorem sub_any (a b : Int) (ha : InI a) (hb : InI b) (w : World) :
    Calls Tryz.prog 102 #[.int .i64 a, .int .i64 b] w (Pair (kV (a - b)) (kC (a - b)) w) := by
  unfold InI at ha hb
  obtain ⟨a1, a2⟩ := ha
  obtain ⟨b1, b2⟩ := hb
  by_cases h : InI (a - b)
  · rw [kV_in h, kC_in h]
    unfold InI at h
    obtain ⟨h1, h2⟩ := h
    by_cases hp : 0 < b
    · have d1 : decide (a - b < a) = true := dT (by omega)
      go_enter Tryz.func102, Tryz.ntmps102
      go_wp2
      go_ret2
      exact ⟨rfl, rfl⟩
    · have d1 : decide (a - b < a) = false := dF (by omega)
      go_enter Tryz.func102, Tryz.ntmps102
      go_wp2
      go_ret2
      exact ⟨rfl, rfl⟩
  · rw [kV_out h, kC_out h]
    by_cases hp : 0 < b
    · have hh : a - b < -9223372036854775808 := by unfold InI at h; omega
      have hw : decide (wrap64 (a - b) < a) = false := dF (by rw [wrap_under hh (by omega)]; omega)
      clear h
      go_enter Tryz.func102, Tryz.ntmps102
      go_wp2
      go_ret2
      exact ⟨rfl, rfl⟩
    · have hh : 9223372036854775807 < a - b := by unfold InI at h; omega
      have hw : decide (wrap64 (a - b) < a) = true := dT (by rw [wrap_over hh (by omega)]; omega)
      clear h
      go_enter Tryz.func102, Tryz.ntmps102
      go_wp2
      go_ret2
      exact ⟨rfl, rfl⟩

set_option maxHeartbeats 400000 in
theorem radd_any (a b : Int) (ha : InI a) (hb : InI b) (w : World) :
    Calls Tryz.prog 80 #[.int .i64 a, .int .i64 b] w (Pair (kV (a + b)) (kC (a + b)) w) := by
  unfold InI at ha hb
  obtain ⟨a1, a2⟩ := ha
  obtain ⟨b1, b2⟩ := hb
  have hn : 0 < b ∨ b = 0 ∨ b < 0 := by omega
  rcases hn with hp | hp | hp
  · have e2 : ¬ b < 0 := by omega
    by_cases h : InI (a + b)
    · rw [kV_in h, kC_in h]
      unfold InI at h
      obtain ⟨h1, h2⟩ := h
      have e1 : ¬ 9223372036854775807 - b < a := by omega
      go_enter Tryz.func80, Tryz.ntmps80
      go_wp2
      go_ret2
      exact ⟨rfl, rfl⟩
    · rw [kV_out h, kC_out h]
      have e1 : 9223372036854775807 - b < a := by unfold InI at h; omega
      clear h
      go_enter Tryz.func80, Tryz.ntmps80
      go_wp2
      go_ret2
      exact ⟨rfl, rfl⟩
  · subst hp
    rw [kV_in (by unfold InI; omega), kC_in (by unfold InI; omega)]
    go_enter Tryz.func80, Tryz.ntmps80
    go_wp2
    go_ret2
    exact ⟨by simp, rfl⟩
  · have e2 : ¬ 0 < b := by omega
    by_cases h : InI (a + b)
    · rw [kV_in h, kC_in h]
      unfold InI at h
      obtain ⟨h1, h2⟩ := h
      have e1 : ¬ a < -9223372036854775808 - b := by omega
      go_enter Tryz.func80, Tryz.ntmps80
      go_wp2
      go_ret2
      exact ⟨rfl, rfl⟩
    · rw [kV_out h, kC_out h]
      have e1 : a < -9223372036854775808 - b := by unfold InI at h; omega
      clear h
      go_enter Tryz.func80, Tryz.ntmps80
      go_wp2
      go_ret2
      exact ⟨rfl, rfl⟩

set_option maxHeartbeats 400000 in
theorem rsub_any (a b : Int) (ha : InI a) (hb : InI b) (w : World) :
    Calls Tryz.prog 81 #[.int .i64 a, .int .i64 b] w (Pair (kV (a - b)) (kC (a - b)) w) := by
  unfold InI at ha hb
  obtain ⟨a1, a2⟩ := ha
  obtain ⟨b1, b2⟩ := hb
  have hn : 0 < b ∨ b = 0 ∨ b < 0 := by omega
  rcases hn with hp | hp | hp
  · have e2 : ¬ b < 0 := by omega
    by_cases h : InI (a - b)
    · rw [kV_in h, kC_in h]
      unfold InI at h
      obtain ⟨h1, h2⟩ := h
      have e1 : ¬ a < -9223372036854775808 + b := by omega
      go_enter Tryz.func81, Tryz.ntmps81
      go_wp2
      go_ret2
      exact ⟨rfl, rfl⟩
    · rw [kV_out h, kC_out h]
      have e1 : a < -9223372036854775808 + b := by unfold InI at h; omega
      clear h
      go_enter Tryz.func81, Tryz.ntmps81
      go_wp2
      go_ret2
      exact ⟨rfl, rfl⟩
  · subst hp
    rw [kV_in (by unfold InI; omega), kC_in (by unfold InI; omega)]
    go_enter Tryz.func81, Tryz.ntmps81
    go_wp2
    go_ret2
    exact ⟨by simp, rfl⟩
  · have e2 : ¬ 0 < b := by omega
    by_cases h : InI (a - b)
    · rw [kV_in h, kC_in h]
      unfold InI at h
      obtain ⟨h1, h2⟩ := h
      have e1 : ¬ 9223372036854775807 + b < a := by omega
      go_enter Tryz.func81, Tryz.ntmps81
      go_wp2
      go_ret2
      exact ⟨rfl, rfl⟩
    · rw [kV_out h, kC_out h]
      have e1 : 9223372036854775807 + b < a := by unfold InI at h; omega
      clear h
      go_enter Tryz.func81, Tryz.ntmps81
      go_wp2
      go_ret2
      exact ⟨rfl, rfl⟩

set_option maxHeartbeats 400000 in
theorem neg_any (a : Int) (ha : InI a) (w : World) :
    Calls Tryz.prog 106 #[.int .i64 a] w (Pair (kV (-a)) (kC (-a)) w) := by
  have hs := sub_any 0 a (by unfold InI; omega) ha
  rw [Int.zero_sub] at hs
  have HS := Lib.hid hs
  clear hs
  unfold InI at ha
  obtain ⟨a1, a2⟩ := ha
  go_enter Tryz.func106, Tryz.ntmps106
  go_wp2_with fail
  refine (HS.out _).mono ?_
  rintro e w' ⟨rfl, rfl⟩
  go_wp2
  go_ret2
  exact ⟨rfl, rfl⟩
end Go.Proofs.YtjfnoondkgjabaaGreatDoor

namespace Go.Proofs.YtjfnoondkgjabaaGreatDoor
open Go.RowKit

def dV (a b : Int) : Int := if b = 0 then 0 else if a = -9223372036854775808 ∧ b = -1 then 0 else a.tdiv b
def dC (a b : Int) : Int := if b = 0 then 32 else if a = -9223372036854775808 ∧ b = -1 then 31 else 0
def mV (a b : Int) : Int := if b = 0 then 0 else if b = -1 then 0 else a.tmod b
def mC (b : Int) : Int := if b = 0 then 32 else 0

theorem tdiv_bounds (a b : Int) (ha : InI a) (hb : b ≠ 0) (hn : ¬ (a = -9223372036854775808 ∧ b = -1)) : -9223372036854775808 ≤ a.tdiv b ∧ a.tdiv b ≤ 9223372036854775807 := by
  obtain ⟨h1, h2⟩ := ha
  by_cases hb1 : b = -1
  · subst hb1
    have : a.tdiv (-1) = -a := by simp [Int.tdiv_neg]
    omega
  · by_cases hb2 : b = 1
    · subst hb2; simp; omega
    · have hq : (a.tdiv b).natAbs = a.natAbs / b.natAbs := Int.natAbs_tdiv a b
      have h2b : 2 ≤ b.natAbs := by omega
      have h3 : a.natAbs / b.natAbs ≤ a.natAbs / 2 := Nat.div_le_div_left h2b (by omega)
      omega


set_option maxHeartbeats 400000 in
theorem div_any (a b : Int) (ha : InI a) (hb : InI b) (w : World) :
    Calls Tryz.prog 104 #[.int .i64 a, .int .i64 b] w (Pair (dV a b) (dC a b) w) := by
  by_cases h0 : b = 0
  · rw [show dV a b = 0 from if_pos h0, show dC a b = 32 from if_pos h0]
    subst h0
    go_enter Tryz.func104, Tryz.ntmps104
    go_wp2
    go_ret2
    exact ⟨rfl, rfl⟩
  · by_cases h1 : a = -9223372036854775808 ∧ b = -1
    · rw [show dV a b = 0 from (if_neg h0).trans (if_pos h1), show dC a b = 31 from (if_neg h0).trans (if_pos h1)]
      obtain ⟨rfl, rfl⟩ := h1
      clear h0
      go_enter Tryz.func104, Tryz.ntmps104
      go_wp2
      go_ret2
      exact ⟨rfl, rfl⟩
    · rw [show dV a b = a.tdiv b from (if_neg h0).trans (if_neg h1), show dC a b = 0 from (if_neg h0).trans (if_neg h1)]
      have hq := tdiv_bounds a b ha h0 h1
      obtain ⟨q1, q2⟩ := hq
      obtain ⟨a1, a2⟩ := ha
      obtain ⟨b1, b2⟩ := hb
      have hb0 : (b == 0) = false := beqF h0
      by_cases hl : a = -9223372036854775808
      · have hbm : (b == -1) = false := beqF (fun e => h1 ⟨hl, e⟩)
        have hl' : (a == -9223372036854775808) = true := beqT hl
        clear h1 hl
        go_enter Tryz.func104, Tryz.ntmps104
        go_wp2
        go_ret2
        exact ⟨rfl, rfl⟩
      · have hl' : (a == -9223372036854775808) = false := beqF hl
        clear h1
        go_enter Tryz.func104, Tryz.ntmps104
        go_wp2
        go_ret2
        exact ⟨rfl, rfl⟩

set_option maxHeartbeats 400000 in
theorem rdiv_any (a b : Int) (ha : InI a) (hb : InI b) (w : World) :
    Calls Tryz.prog 83 #[.int .i64 a, .int .i64 b] w (Pair (dV a b) (dC a b) w) := by
  by_cases h0 : b = 0
  · rw [show dV a b = 0 from if_pos h0, show dC a b = 32 from if_pos h0]
    subst h0
    go_enter Tryz.func83, Tryz.ntmps83
    go_wp2
    go_ret2
    exact ⟨rfl, rfl⟩
  · by_cases h1 : a = -9223372036854775808 ∧ b = -1
    · rw [show dV a b = 0 from (if_neg h0).trans (if_pos h1), show dC a b = 31 from (if_neg h0).trans (if_pos h1)]
      obtain ⟨rfl, rfl⟩ := h1
      clear h0
      go_enter Tryz.func83, Tryz.ntmps83
      go_wp2
      go_ret2
      exact ⟨rfl, rfl⟩
    · rw [show dV a b = a.tdiv b from (if_neg h0).trans (if_neg h1), show dC a b = 0 from (if_neg h0).trans (if_neg h1)]
      have hq := tdiv_bounds a b ha h0 h1
      obtain ⟨q1, q2⟩ := hq
      obtain ⟨a1, a2⟩ := ha
      obtain ⟨b1, b2⟩ := hb
      have hb0 : (b == 0) = false := beqF h0
      by_cases hl : a = -9223372036854775808
      · have hbm : (b == -1) = false := beqF (fun e => h1 ⟨hl, e⟩)
        have hl' : (a == -9223372036854775808) = true := beqT hl
        clear h1 hl
        go_enter Tryz.func83, Tryz.ntmps83
        go_wp2
        go_ret2
        exact ⟨rfl, rfl⟩
      · have hl' : (a == -9223372036854775808) = false := beqF hl
        clear h1
        go_enter Tryz.func83, Tryz.ntmps83
        go_wp2
        go_ret2
        exact ⟨rfl, rfl⟩

theorem tmod_bounds (a b : Int) (ha : InI a) : -9223372036854775808 ≤ a.tmod b ∧ a.tmod b ≤ 9223372036854775807 := by
  obtain ⟨h1, h2⟩ := ha
  have h4 : (a.tmod b).natAbs ≤ a.natAbs := by rw [Int.natAbs_tmod]; exact Nat.mod_le _ _
  by_cases h0 : 0 ≤ a
  · omega
  · have h5 : 0 ≤ (-a).tmod b := Int.tmod_nonneg b (by omega)
    rw [Int.neg_tmod] at h5
    omega

set_option maxHeartbeats 400000 in
theorem mod_any (a b : Int) (ha : InI a) (hb : InI b) (w : World) :
    Calls Tryz.prog 105 #[.int .i64 a, .int .i64 b] w (Pair (mV a b) (mC b) w) := by
  by_cases h0 : b = 0
  · rw [show mV a b = 0 from if_pos h0, show mC b = 32 from if_pos h0]
    subst h0
    go_enter Tryz.func105, Tryz.ntmps105
    go_wp2
    go_ret2
    exact ⟨rfl, rfl⟩
  · rw [show mC b = 0 from if_neg h0]
    have hb0 : (b == 0) = false := beqF h0
    by_cases h1 : b = -1
    · rw [show mV a b = 0 from (if_neg h0).trans (if_pos h1)]
      subst h1
      go_enter Tryz.func105, Tryz.ntmps105
      go_wp2
      go_ret2
      exact ⟨rfl, rfl⟩
    · rw [show mV a b = a.tmod b from (if_neg h0).trans (if_neg h1)]
      have hbm : (b == -1) = false := beqF h1
      have hq := tmod_bounds a b ha
      obtain ⟨q1, q2⟩ := hq
      obtain ⟨a1, a2⟩ := ha
      obtain ⟨b1, b2⟩ := hb
      go_enter Tryz.func105, Tryz.ntmps105
      go_wp2
      go_ret2
      exact ⟨rfl, rfl⟩

set_option maxHeartbeats 400000 in
theorem rmod_any (a b : Int) (ha : InI a) (hb : InI b) (w : World) :
    Calls Tryz.prog 84 #[.int .i64 a, .int .i64 b] w (Pair (mV a b) (mC b) w) := by
  by_cases h0 : b = 0
  · rw [show mV a b = 0 from if_pos h0, show mC b = 32 from if_pos h0]
    subst h0
    go_enter Tryz.func84, Tryz.ntmps84
    go_wp2
    go_ret2
    exact ⟨rfl, rfl⟩
  · rw [show mC b = 0 from if_neg h0]
    have hb0 : (b == 0) = false := beqF h0
    by_cases h1 : b = -1
    · rw [show mV a b = 0 from (if_neg h0).trans (if_pos h1)]
      subst h1
      go_enter Tryz.func84, Tryz.ntmps84
      go_wp2
      go_ret2
      exact ⟨rfl, rfl⟩
    · rw [show mV a b = a.tmod b from (if_neg h0).trans (if_neg h1)]
      have hbm : (b == -1) = false := beqF h1
      have hq := tmod_bounds a b ha
      obtain ⟨q1, q2⟩ := hq
      obtain ⟨a1, a2⟩ := ha
      obtain ⟨b1, b2⟩ := hb
      go_enter Tryz.func84, Tryz.ntmps84
      go_wp2
      go_ret2
      exact ⟨rfl, rfl⟩

def cmpV (a b : Int) : Int := if a < b then -1 else if b < a then 1 else 0
theorem compare_any (a b : Int) (w : World) :
    Calls Tryz.prog 109 #[.int .i64 a, .int .i64 b] w fun e w' => e = .returned (.int .i64 (cmpV a b)) ∧ w = w' := by
  by_cases h1 : a < b
  · rw [show cmpV a b = -1 from if_pos h1]
    go_enter Tryz.func109, Tryz.ntmps109
    go_wp2
    go_ret
    exact ⟨rfl, rfl⟩
  · by_cases h2 : b < a
    · rw [show cmpV a b = 1 from (if_neg h1).trans (if_pos h2)]
      go_enter Tryz.func109, Tryz.ntmps109
      go_wp2
      go_ret
      exact ⟨rfl, rfl⟩
    · rw [show cmpV a b = 0 from (if_neg h1).trans (if_neg h2)]
      go_enter Tryz.func109, Tryz.ntmps109
      go_wp2
      go_ret
      exact ⟨rfl, rfl⟩

def bit (b : Bool) : Int := if b = true then 1 else 0
theorem number_any (b : Bool) (w : World) :
    Calls Tryz.prog 107 #[.bool b] w fun e w' => e = .returned (.int .i64 (bit b)) ∧ w = w' := by
  cases b <;>
  · go_enter Tryz.func107, Tryz.ntmps107
    go_wp2
    go_ret
    exact ⟨rfl, rfl⟩
theorem one_any (b : Bool) (w : World) :
    Calls Tryz.prog 85 #[.bool b] w (Pair (bit b) 0 w) := by
  cases b <;>
  · go_enter Tryz.func85, Tryz.ntmps85
    go_wp2
    go_ret2
    exact ⟨rfl, rfl⟩

theorem mul_tdiv_out (a b p : Int) (hb : InI b) (h0 : b ≠ 0) (h : ¬ InI (a * b)) (hp : p = wrap64 (a * b)) : p.tdiv b ≠ a := by
  intro e
  obtain ⟨b1, b2⟩ := hb
  have hm := Int.mul_tdiv_add_tmod p b
  have hr : (p.tmod b).natAbs < b.natAbs := by
    rw [Int.natAbs_tmod]; exact Nat.mod_lt _ (by omega)
  rw [e, Int.mul_comm] at hm
  have hw : ∃ k : Int, p = a * b + 18446744073709551616 * k ∧ -9223372036854775808 ≤ p ∧ p ≤ 9223372036854775807 := by
    refine ⟨-((a * b + 9223372036854775808) / 18446744073709551616), ?_⟩
    rw [hp]; unfold wrap64
    generalize a * b = m
    omega
  obtain ⟨k, hk, p1, p2⟩ := hw
  have hk0 : k ≠ 0 := by
    intro hk0; subst hk0; apply h; unfold InI; omega
  omega

set_option maxHeartbeats 400000 in
theorem mul_any (a b : Int) (ha : InI a) (hb : InI b) (w : World) :
    Calls Tryz.prog 103 #[.int .i64 a, .int .i64 b] w (Pair (kV (a * b)) (kC (a * b)) w) := by
  by_cases h0 : b = 0
  · subst h0
    rw [Int.mul_zero, kV_in (by unfold InI; omega), kC_in (by unfold InI; omega)]
    go_enter Tryz.func103, Tryz.ntmps103
    go_wp2
    go_ret2
    exact ⟨rfl, rfl⟩
  · have hb0 : (b == 0) = false := beqF h0
    by_cases h : InI (a * b)
    · rw [kV_in h, kC_in h]
      have hq : (a * b).tdiv b = a := Int.mul_tdiv_cancel a h0
      have hx : ¬ (a = -9223372036854775808 ∧ b = -1) := by
        rintro ⟨rfl, rfl⟩; exact absurd h (by decide)
      have HQ := Lib.hid hq
      clear hq
      obtain ⟨h1, h2⟩ := h
      obtain ⟨a1, a2⟩ := ha
      obtain ⟨b1, b2⟩ := hb
      have hn : ((a * b).tdiv b != a) = false := bneF HQ.out
      have g1 : -9223372036854775808 ≤ (a * b).tdiv b := by rw [HQ.out]; exact a1
      have g2 : (a * b).tdiv b ≤ 9223372036854775807 := by rw [HQ.out]; exact a2
      by_cases hl : a = -9223372036854775808
      · have hbm : (b == -1) = false := beqF (fun e => hx ⟨hl, e⟩)
        have hl' : (a == -9223372036854775808) = true := beqT hl
        clear hx hl
        go_enter Tryz.func103, Tryz.ntmps103
        go_wp2
        go_ret2
        exact ⟨rfl, rfl⟩
      · have hl' : (a == -9223372036854775808) = false := beqF hl
        clear hx hl
        go_enter Tryz.func103, Tryz.ntmps103
        go_wp2
        go_ret2
        exact ⟨rfl, rfl⟩
    · rw [kV_out h, kC_out h]
      by_cases hl : a = -9223372036854775808
      · have hl' : (a == -9223372036854775808) = true := beqT hl
        by_cases hm : b = -1
        · have hbm : (b == -1) = true := beqT hm
          clear hl hm h
          go_enter Tryz.func103, Tryz.ntmps103
          go_wp2
          go_ret2
          exact ⟨rfl, rfl⟩
        · have hbm : (b == -1) = false := beqF hm
          obtain ⟨p, hp⟩ : ∃ p, wrap64 (a * b) = p := ⟨_, rfl⟩
          have hne := mul_tdiv_out a b p hb h0 h hp.symm
          have hw : InI p := by rw [← hp]; unfold InI wrap64; generalize a * b = m; omega
          have hx : ¬ (p = -9223372036854775808 ∧ b = -1) := by
            rintro ⟨rfl, rfl⟩
            have : a * -1 = -a := by omega
            rw [this] at hp h
            have h2 : ¬ (-a ≤ 9223372036854775807) := by intro hh; apply h; unfold InI at ha ⊢; omega
            unfold InI at ha
            first | omega | exact absurd ‹_› (by omega)
          have hq := tdiv_bounds p b hw h0 hx
          obtain ⟨q1, q2⟩ := hq
          have hn : (p.tdiv b != a) = true := bneT hne
          have hnotin : ¬ (-9223372036854775808 ≤ a * b ∧ a * b ≤ 9223372036854775807) := h
          clear hne hx h hl
          go_enter Tryz.func103, Tryz.ntmps103
          go_wp2
          go_ret2
          exact ⟨rfl, rfl⟩
      · have hl' : (a == -9223372036854775808) = false := beqF hl
        obtain ⟨p, hp⟩ : ∃ p, wrap64 (a * b) = p := ⟨_, rfl⟩
        have hne := mul_tdiv_out a b p hb h0 h hp.symm
        have hw : InI p := by rw [← hp]; unfold InI wrap64; generalize a * b = m; omega
        have hx : ¬ (p = -9223372036854775808 ∧ b = -1) := by
          rintro ⟨rfl, rfl⟩
          have : a * -1 = -a := by omega
          rw [this] at hp h
          have h2 : ¬ (-a ≤ 9223372036854775807) := by intro hh; apply h; unfold InI at ha ⊢; omega
          unfold InI at ha
          first | omega | exact absurd ‹_› (by omega)
        have hq := tdiv_bounds p b hw h0 hx
        obtain ⟨q1, q2⟩ := hq
        have hn : (p.tdiv b != a) = true := bneT hne
        have hnotin : ¬ (-9223372036854775808 ≤ a * b ∧ a * b ≤ 9223372036854775807) := h
        clear hne hx h hl
        go_enter Tryz.func103, Tryz.ntmps103
        go_wp2
        go_ret2
        exact ⟨rfl, rfl⟩
end Go.Proofs.YtjfnoondkgjabaaGreatDoor

namespace Go.Proofs.YtjfnoondkgjabaaGreatDoor
open Go.RowKit

set_option maxHeartbeats 1000000 in
theorem mul64_any (x y : Nat) (hx : x < 18446744073709551616) (hy : y < 18446744073709551616) (w : World) :
    Calls Tryz.prog 98 #[.int .u64 x, .int .u64 y] w fun e w' => e = .returned (.tuple #[.int .u64 ((x * y / 18446744073709551616 : Nat) : Int), .int .u64 ((x * y % 18446744073709551616 : Nat) : Int)]) ∧ w = w' := by
  obtain ⟨bd, bt, bw, hhi⟩ := Lib.mul64_hi x y hx hy
  have ba := Lib.half_mul_le (a := x / 4294967296) (b := y / 4294967296) (by omega) (by omega)
  have bb := Lib.half_mul_le (a := x / 4294967296) (b := y % 4294967296) (by omega) (by omega)
  have bc := Lib.half_mul_le (a := x % 4294967296) (b := y / 4294967296) (by omega) (by omega)
  have ba' : x / 4294967296 * (y / 4294967296) < 18446744073709551616 := by omega
  have bb' : x / 4294967296 * (y % 4294967296) < 18446744073709551616 := by omega
  have bc' : x % 4294967296 * (y / 4294967296) < 18446744073709551616 := by omega
  have bh1 : x / 4294967296 * (y / 4294967296) + (x / 4294967296 * (y % 4294967296) + x % 4294967296 * (y % 4294967296) / 4294967296) / 4294967296 < 18446744073709551616 := by omega
  have bh : x / 4294967296 * (y / 4294967296) + (x / 4294967296 * (y % 4294967296) + x % 4294967296 * (y % 4294967296) / 4294967296) / 4294967296 + ((x / 4294967296 * (y % 4294967296) + x % 4294967296 * (y % 4294967296) / 4294967296) % 4294967296 + x % 4294967296 * (y / 4294967296)) / 4294967296 < 18446744073709551616 := by omega
  go_enter Tryz.func98, Tryz.ntmps98
  go_wp2
  simp only [Mul64.maskN x hx, Mul64.maskN y hy, Mul64.divN, Mul64.mulN, Mul64.addN, Mul64.wrapN _ bd, Mul64.wrapN _ bb', Mul64.wrapN _ bt, Mul64.maskN _ bt, Mul64.wrapN _ bc', Mul64.wrapN _ bw, Mul64.wrapN _ ba', Mul64.wrapN _ bh1, Mul64.wrapN _ bh, Mul64.wrapM (x * y)]
  rw [hhi]
  go_ret2
  exact ⟨rfl, rfl⟩

def far (a : Int) : Nat := a.natAbs
theorem far_neg {a : Int} (h : a < 0) : ((far a : Nat) : Int) = -a := by unfold far; omega
theorem far_pos {a : Int} (h : ¬ a < 0) : ((far a : Nat) : Int) = a := by unfold far; omega
theorem far_lt {a : Int} (h : InI a) : far a < 18446744073709551616 := by unfold far; unfold InI at h; omega
set_option maxHeartbeats 400000 in
theorem size_any (a : Int) (ha : InI a) (w : World) :
    Calls Tryz.prog 99 #[.int .i64 a] w fun e w' => e = .returned (.int .u64 (far a : Nat)) ∧ w = w' := by
  obtain ⟨a1, a2⟩ := ha
  by_cases h : a < 0
  · have HA := Lib.hid (far_neg h)
    go_enter Tryz.func99, Tryz.ntmps99
    go_wp2
    go_ret
    refine ⟨?_, rfl⟩
    rw [HA.out, show -a = -(a + 1) + 1 from by omega]
    rfl
  · rw [far_pos h]
    go_enter Tryz.func99, Tryz.ntmps99
    go_wp2
    go_ret
    exact ⟨rfl, rfl⟩

theorem far_mul (a b : Int) : (a * b).natAbs = far a * far b := Int.natAbs_mul a b
/-- What the reference says of a product, by its two halves of the size. -/
theorem kV_neg {p : Int} {H L : Nat} (hp : p < 0) (hn : p.natAbs = H * 18446744073709551616 + L) (h : H = 0 ∧ L ≤ 9223372036854775808) : kV p = -(L : Int) ∧ kC p = 0 := by
  obtain ⟨rfl, h2⟩ := h
  have e : p = -(L : Int) := by omega
  rw [← e]
  exact ⟨kV_in (by unfold InI; omega), kC_in (by unfold InI; omega)⟩
theorem kV_negout {p : Int} {H L : Nat} (hp : p < 0) (hn : p.natAbs = H * 18446744073709551616 + L) (h : ¬ (H = 0 ∧ L ≤ 9223372036854775808)) : kV p = 0 ∧ kC p = 31 :=
  have : ¬ InI p := by unfold InI; omega
  ⟨kV_out this, kC_out this⟩
theorem kV_pos {p : Int} {H L : Nat} (hp : 0 ≤ p) (hn : p.natAbs = H * 18446744073709551616 + L) (h : H = 0 ∧ L ≤ 9223372036854775807) : kV p = (L : Int) ∧ kC p = 0 := by
  obtain ⟨rfl, h2⟩ := h
  have e : p = (L : Int) := by omega
  rw [← e]
  exact ⟨kV_in (by unfold InI; omega), kC_in (by unfold InI; omega)⟩
theorem kV_posout {p : Int} {H L : Nat} (hp : 0 ≤ p) (hn : p.natAbs = H * 18446744073709551616 + L) (h : ¬ (H = 0 ∧ L ≤ 9223372036854775807)) : kV p = 0 ∧ kC p = 31 :=
  have : ¬ InI p := by unfold InI; omega
  ⟨kV_out this, kC_out this⟩

set_option maxHeartbeats 1000000 in
theorem rmul_any (a b : Int) (ha : InI a) (hb : InI b) (w : World) :
    Calls Tryz.prog 82 #[.int .i64 a, .int .i64 b] w (Pair (kV (a * b)) (kC (a * b)) w) := by
  have hfa := far_lt ha
  have hfb := far_lt hb
  go_enter Tryz.func82, Tryz.ntmps82
  go_wp2_with fail
  refine (size_any a ha _).mono ?_
  rintro e w' ⟨rfl, rfl⟩
  go_wp2_with fail
  refine (size_any b hb _).mono ?_
  rintro e w' ⟨rfl, rfl⟩
  go_wp2_with fail
  refine (mul64_any _ _ hfa hfb _).mono ?_
  rintro e w' ⟨rfl, rfl⟩
  have hn : (a * b).natAbs = far a * far b / 18446744073709551616 * 18446744073709551616 + far a * far b % 18446744073709551616 := by
    rw [far_mul]; omega
  have hL : far a * far b % 18446744073709551616 < 18446744073709551616 := Nat.mod_lt _ (by decide)
  generalize far a * far b / 18446744073709551616 = H at *
  generalize far a * far b % 18446744073709551616 = L at *
  clear hfa hfb ha hb
  have HN := Lib.hid hn
  clear hn
  have hs : (a < 0 ∧ b < 0) ∨ (¬ a < 0 ∧ ¬ b < 0) ∨ (a < 0 ∧ b = 0) ∨ (a = 0 ∧ b < 0) ∨ (a < 0 ∧ 0 < b) ∨ (0 < a ∧ b < 0) := by omega
  rcases hs with ⟨s1, s2⟩ | ⟨s1, s2⟩ | ⟨s1, s2⟩ | ⟨s1, s2⟩ | ⟨s1, s2⟩ | ⟨s1, s2⟩
  · have hp : 0 ≤ a * b := Int.le_of_lt (Int.mul_pos_of_neg_of_neg s1 s2)
    have hh : (H = 0 ∧ L ≤ 9223372036854775807) ∨ (¬ H = 0) ∨ (H = 0 ∧ ¬ L ≤ 9223372036854775807) := by omega
    rcases hh with ⟨h1, h2⟩ | h1 | ⟨h1, h2⟩
    · obtain ⟨e1, e2⟩ := kV_pos hp HN.out ⟨h1, h2⟩
      have HE := Lib.hid (And.intro e1 e2)
      clear hp HN e1 e2
      subst h1
      go_wp2
      go_ret2
      refine ⟨?_, rfl⟩
      rw [HE.out.1, HE.out.2]
      rfl
    · obtain ⟨e1, e2⟩ := kV_posout hp HN.out (fun h => h1 h.1)
      have HE := Lib.hid (And.intro e1 e2)
      clear hp HN e1 e2
      have h1' : ((H : Int) != 0) = true := bneT (by omega)
      clear h1
      go_wp2
      go_ret2
      refine ⟨?_, rfl⟩
      rw [HE.out.1, HE.out.2]
      rfl
    · obtain ⟨e1, e2⟩ := kV_posout hp HN.out (fun h => h2 h.2)
      have HE := Lib.hid (And.intro e1 e2)
      clear hp HN e1 e2
      subst h1
      have h2' : (9223372036854775807 : Int) < (L : Int) := by omega
      go_wp2
      go_ret2
      refine ⟨?_, rfl⟩
      rw [HE.out.1, HE.out.2]
      rfl
  · have hp : 0 ≤ a * b := Int.mul_nonneg (by omega) (by omega)
    have hh : (H = 0 ∧ L ≤ 9223372036854775807) ∨ (¬ H = 0) ∨ (H = 0 ∧ ¬ L ≤ 9223372036854775807) := by omega
    rcases hh with ⟨h1, h2⟩ | h1 | ⟨h1, h2⟩
    · obtain ⟨e1, e2⟩ := kV_pos hp HN.out ⟨h1, h2⟩
      have HE := Lib.hid (And.intro e1 e2)
      clear hp HN e1 e2
      subst h1
      go_wp2
      go_ret2
      refine ⟨?_, rfl⟩
      rw [HE.out.1, HE.out.2]
      rfl
    · obtain ⟨e1, e2⟩ := kV_posout hp HN.out (fun h => h1 h.1)
      have HE := Lib.hid (And.intro e1 e2)
      clear hp HN e1 e2
      have h1' : ((H : Int) != 0) = true := bneT (by omega)
      clear h1
      go_wp2
      go_ret2
      refine ⟨?_, rfl⟩
      rw [HE.out.1, HE.out.2]
      rfl
    · obtain ⟨e1, e2⟩ := kV_posout hp HN.out (fun h => h2 h.2)
      have HE := Lib.hid (And.intro e1 e2)
      clear hp HN e1 e2
      subst h1
      have h2' : (9223372036854775807 : Int) < (L : Int) := by omega
      go_wp2
      go_ret2
      refine ⟨?_, rfl⟩
      rw [HE.out.1, HE.out.2]
      rfl
  · have hp : 0 ≤ a * b := by rw [s2]; simp
    have s3 : ¬ b < 0 := by omega
    have s4 : (b != 0) = false := bneF s2
    have s5 : (a != 0) = true := bneT (by omega)
    clear s2
    have hh : (H = 0 ∧ L ≤ 9223372036854775807) ∨ (¬ H = 0) ∨ (H = 0 ∧ ¬ L ≤ 9223372036854775807) := by omega
    rcases hh with ⟨h1, h2⟩ | h1 | ⟨h1, h2⟩
    · obtain ⟨e1, e2⟩ := kV_pos hp HN.out ⟨h1, h2⟩
      have HE := Lib.hid (And.intro e1 e2)
      clear hp HN e1 e2
      subst h1
      go_wp2
      go_ret2
      refine ⟨?_, rfl⟩
      rw [HE.out.1, HE.out.2]
      rfl
    · obtain ⟨e1, e2⟩ := kV_posout hp HN.out (fun h => h1 h.1)
      have HE := Lib.hid (And.intro e1 e2)
      clear hp HN e1 e2
      have h1' : ((H : Int) != 0) = true := bneT (by omega)
      clear h1
      go_wp2
      go_ret2
      refine ⟨?_, rfl⟩
      rw [HE.out.1, HE.out.2]
      rfl
    · obtain ⟨e1, e2⟩ := kV_posout hp HN.out (fun h => h2 h.2)
      have HE := Lib.hid (And.intro e1 e2)
      clear hp HN e1 e2
      subst h1
      have h2' : (9223372036854775807 : Int) < (L : Int) := by omega
      go_wp2
      go_ret2
      refine ⟨?_, rfl⟩
      rw [HE.out.1, HE.out.2]
      rfl
  · have hp : 0 ≤ a * b := by rw [s1]; simp
    have s3 : ¬ a < 0 := by omega
    have s4 : (a != 0) = false := bneF s1
    clear s1
    have hh : (H = 0 ∧ L ≤ 9223372036854775807) ∨ (¬ H = 0) ∨ (H = 0 ∧ ¬ L ≤ 9223372036854775807) := by omega
    rcases hh with ⟨h1, h2⟩ | h1 | ⟨h1, h2⟩
    · obtain ⟨e1, e2⟩ := kV_pos hp HN.out ⟨h1, h2⟩
      have HE := Lib.hid (And.intro e1 e2)
      clear hp HN e1 e2
      subst h1
      go_wp2
      go_ret2
      refine ⟨?_, rfl⟩
      rw [HE.out.1, HE.out.2]
      rfl
    · obtain ⟨e1, e2⟩ := kV_posout hp HN.out (fun h => h1 h.1)
      have HE := Lib.hid (And.intro e1 e2)
      clear hp HN e1 e2
      have h1' : ((H : Int) != 0) = true := bneT (by omega)
      clear h1
      go_wp2
      go_ret2
      refine ⟨?_, rfl⟩
      rw [HE.out.1, HE.out.2]
      rfl
    · obtain ⟨e1, e2⟩ := kV_posout hp HN.out (fun h => h2 h.2)
      have HE := Lib.hid (And.intro e1 e2)
      clear hp HN e1 e2
      subst h1
      have h2' : (9223372036854775807 : Int) < (L : Int) := by omega
      go_wp2
      go_ret2
      refine ⟨?_, rfl⟩
      rw [HE.out.1, HE.out.2]
      rfl
  · have hp : a * b < 0 := Int.mul_neg_of_neg_of_pos s1 s2
    have s3 : decide (b < 0) = false := dF (by omega)
    have s4 : (b != 0) = true := bneT (by omega)
    have s5 : (a != 0) = true := bneT (by omega)
    have hh : (H = 0 ∧ L < 9223372036854775808) ∨ (¬ H = 0) ∨ (H = 0 ∧ 9223372036854775808 < L) ∨ (H = 0 ∧ L = 9223372036854775808) := by omega
    rcases hh with ⟨h1, h2⟩ | h1 | ⟨h1, h2⟩ | ⟨h1, h2⟩
    · obtain ⟨e1, e2⟩ := kV_neg hp HN.out ⟨h1, by omega⟩
      have HE := Lib.hid (And.intro e1 e2)
      clear hp HN e1 e2
      subst h1
      go_wp2
      go_ret2
      refine ⟨?_, rfl⟩
      rw [HE.out.1, HE.out.2]
      rfl
    · obtain ⟨e1, e2⟩ := kV_negout hp HN.out (fun h => h1 h.1)
      have HE := Lib.hid (And.intro e1 e2)
      clear hp HN e1 e2
      have h1' : ((H : Int) != 0) = true := bneT (by omega)
      clear h1
      go_wp2
      go_ret2
      refine ⟨?_, rfl⟩
      rw [HE.out.1, HE.out.2]
      rfl
    · obtain ⟨e1, e2⟩ := kV_negout hp HN.out (fun h => by omega)
      have HE := Lib.hid (And.intro e1 e2)
      clear hp HN e1 e2
      subst h1
      have h2' : (9223372036854775808 : Int) < (L : Int) := by omega
      go_wp2
      go_ret2
      refine ⟨?_, rfl⟩
      rw [HE.out.1, HE.out.2]
      rfl
    · obtain ⟨e1, e2⟩ := kV_neg hp HN.out ⟨h1, by omega⟩
      have HE := Lib.hid (And.intro e1 e2)
      clear hp HN e1 e2
      subst h1
      subst h2
      go_wp2
      go_ret2
      refine ⟨?_, rfl⟩
      rw [HE.out.1, HE.out.2]
      rfl
  · have hp : a * b < 0 := Int.mul_neg_of_pos_of_neg s1 s2
    have s3 : decide (a < 0) = false := dF (by omega)
    have s4 : (b != 0) = true := bneT (by omega)
    have s5 : (a != 0) = true := bneT (by omega)
    have hh : (H = 0 ∧ L < 9223372036854775808) ∨ (¬ H = 0) ∨ (H = 0 ∧ 9223372036854775808 < L) ∨ (H = 0 ∧ L = 9223372036854775808) := by omega
    rcases hh with ⟨h1, h2⟩ | h1 | ⟨h1, h2⟩ | ⟨h1, h2⟩
    · obtain ⟨e1, e2⟩ := kV_neg hp HN.out ⟨h1, by omega⟩
      have HE := Lib.hid (And.intro e1 e2)
      clear hp HN e1 e2
      subst h1
      go_wp2
      go_ret2
      refine ⟨?_, rfl⟩
      rw [HE.out.1, HE.out.2]
      rfl
    · obtain ⟨e1, e2⟩ := kV_negout hp HN.out (fun h => h1 h.1)
      have HE := Lib.hid (And.intro e1 e2)
      clear hp HN e1 e2
      have h1' : ((H : Int) != 0) = true := bneT (by omega)
      clear h1
      go_wp2
      go_ret2
      refine ⟨?_, rfl⟩
      rw [HE.out.1, HE.out.2]
      rfl
    · obtain ⟨e1, e2⟩ := kV_negout hp HN.out (fun h => by omega)
      have HE := Lib.hid (And.intro e1 e2)
      clear hp HN e1 e2
      subst h1
      have h2' : (9223372036854775808 : Int) < (L : Int) := by omega
      go_wp2
      go_ret2
      refine ⟨?_, rfl⟩
      rw [HE.out.1, HE.out.2]
      rfl
    · obtain ⟨e1, e2⟩ := kV_neg hp HN.out ⟨h1, by omega⟩
      have HE := Lib.hid (And.intro e1 e2)
      clear hp HN e1 e2
      subst h1
      subst h2
      go_wp2
      go_ret2
      refine ⟨?_, rfl⟩
      rw [HE.out.1, HE.out.2]
      rfl
end Go.Proofs.YtjfnoondkgjabaaGreatDoor
