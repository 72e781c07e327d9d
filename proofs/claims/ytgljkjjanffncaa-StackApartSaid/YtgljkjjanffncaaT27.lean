/-
  The reference's stack: a call.
-/
import Derived.Test.YtgljkjjanffncaaT26
import Derived.Laws.CopyOwn
set_option linter.unusedVariables false
namespace Go.Proofs.Ytgljkjjanffncaa
open Go.RowKit Go.BigFrame

theorem cut_from (a : Option Addr) (n ca k : Nat) (hk : k ≤ n) (wx : World) : (Instr.slice 37 (.slice a n ca) (some (.int .i64 (k : Int))) none none).run Try.prog wx = .ok (.slice (if ca = k then a else a.map (·.add k)) (n - k) (ca - k)) wx := by
  have hsz : (sizeOf (Try.prog.elem 37)).run Try.prog wx = .ok 1 wx := by kernel_rfl
  rw [run_slice_l wx 37 a n ca Try.underlying37 .i64 (k : Int) (by omega) (by omega), hsz]
  simp [Result.andThen, sliced]
theorem cut_to (a : Option Addr) (n ca k : Nat) (hk : k ≤ ca) (wx : World) : (Instr.slice 37 (.slice a n ca) none (some (.int .i64 (k : Int))) none).run Try.prog wx = .ok (.slice a k ca) wx := by
  have hsz : (sizeOf (Try.prog.elem 37)).run Try.prog wx = .ok 1 wx := by kernel_rfl
  rw [run_slice_h wx 37 a n ca Try.underlying37 .i64 (k : Int) (by omega) (by omega), hsz]
  cases a <;> simp [Result.andThen, sliced, Addr.add]
theorem from_cells {w : World} {a : Option Addr} {ca p k : Nat} {xs : List Int} (h : Sl w (.slice a xs.length ca) xs) (hl : xs.length ≤ ca) (hk : k + p = xs.length) (hp : 0 < p) :
    ∃ ad, (if ca = k then a else a.map (·.add k)) = some ad ∧ ∀ j v, ((xs.drop k).map (Value.int .i64))[j]? = some v → w.cell? (ad.add j) = some v := by
  obtain ⟨a', c', he, hr⟩ := h
  obtain ⟨rfl, rfl⟩ : a = a' ∧ ca = c' := by simpa using he
  rcases hr with hr | ⟨g, off, rfl, hlt, hr⟩
  · subst hr; simp at hk; omega
  · refine ⟨⟨g, off + k, none⟩, by rw [if_neg (by omega)]; simp [Addr.add], fun j v hv => ?_⟩
    have hj : j < (xs.drop k).length := by
      by_cases h : j < (xs.drop k).length
      · exact h
      · rw [List.getElem?_eq_none (by simpa using h)] at hv; cases hv
    rw [List.length_drop] at hj
    have hc := hr (k + j) (by omega)
    have e : ((xs.drop k).map (Value.int .i64))[j]? = some (.int .i64 (xs.getD (k + j) 0)) := by
      have : k + j < xs.length := by omega
      simp [this]
    rw [e] at hv
    cases hv
    rw [← Nat.add_assoc] at hc
    by_cases h0 : j = 0
    · subst h0; simpa [Addr.add] using hc
    · simpa [Addr.add, h0] using hc
theorem take_sl {w : World} {a : Option Addr} {n ca k : Nat} {xs : List Int} (h : Sl w (.slice a n ca) xs) (hk : k ≤ xs.length) : Sl w (.slice a k ca) (xs.take k) := by
  obtain ⟨a', c', he, hr⟩ := h
  obtain ⟨rfl, rfl, rfl⟩ : a = a' ∧ n = xs.length ∧ ca = c' := by simpa using he
  have hl : (xs.take k).length = k := by rw [List.length_take]; omega
  rcases hr with hr | ⟨g, off, rfl, hlt, hr⟩
  · subst hr; exact ⟨a, ca, by rw [hl], .inl (by simp)⟩
  · refine ⟨_, ca, by rw [hl], .inr ⟨g, off, rfl, hlt, fun j hj => ?_⟩⟩
    rw [hl] at hj
    rw [hr j (by omega)]
    simp only [List.getD]
    rw [List.getElem?_take_of_lt hj]
theorem Qu.capI {w : World} {base : Nat} {a : Option Addr} {n c : Nat} {xs : List Int} (h : QI w base (.slice a n c) xs) : n ≤ c ∧ n = xs.length := by
  rcases h with ⟨h, h'⟩ | ⟨g, off, cap, cur, he, _, _, h1, _⟩
  · cases h; simp at h'; subst h'; simp
  · cases he; simpa using h1
/-- A row of zeros over which some numbers were copied. -/
theorem zeros_splice {w : World} {b l : Nat} {xs : List Int} (hl : xs.length ≤ l) (hm : l ≤ maxLen) (h : w.heap[b]? = some (.cells (splice ((List.range l).map fun j => Value.int .i64 ((fun _ => (0 : Int)) j)) 0 (xs.map (Value.int .i64))).toArray 3 (0, 0))) :
    QI w b (.slice (some ⟨b, 0, none⟩) l l) (xs ++ List.replicate (l - xs.length) 0) := by
  have hz : ((List.range l).map fun j => Value.int .i64 ((fun _ => (0 : Int)) j)) = List.replicate l (.int .i64 0) := by
    apply List.ext_getElem
    · simp
    · intro i h1 h2; simp
  have he : splice ((List.range l).map fun j => Value.int .i64 ((fun _ => (0 : Int)) j)) 0 (xs.map (Value.int .i64)) = (xs ++ List.replicate (l - xs.length) 0).map (Value.int .i64) := by
    rw [hz]; simp [splice]
  rw [he] at h
  have hlen : (xs ++ List.replicate (l - xs.length) (0 : Int)).length = l := by simp; omega
  have hlen2 : ((xs ++ List.replicate (l - xs.length) (0 : Int)).map (Value.int .i64)).length = l := by rw [List.length_map, hlen]
  exact .inr ⟨b, 0, l, _, by rw [hlen2], Nat.le_refl _, h, Nat.le_of_eq hlen2, hm, by rw [List.size_toArray, hlen2]; omega, fun j hj => by rw [Nat.zero_add, List.getElem?_toArray]⟩
/-- The run of the copy over a row of zeros. -/
theorem copy_run (w0 w : World) (b l p cx : Nat) (x : Option Addr) (ds : List Int) (hl : ds.length = p) (hpl : p ≤ l) (hB : Blk w b (rowA (fun _ => 0) l) 3) (hx : 0 < p → ∃ ad, x = some ad ∧ ∀ j v, (ds.map (Value.int .i64))[j]? = some v → w.cell? (ad.add j) = some v) (hb : Below b w0 w) :
    ∃ w', (∀ ty, (Builtin.copy_ #[37, 37] ty #[.slice (some ⟨b, 0, none⟩) l l, .slice x p cx]).run Try.prog w = .ok (.int .i64 (p : Int)) w') ∧
      w'.heap[b]? = some (.cells (splice ((List.range l).map fun j => Value.int .i64 ((fun _ => (0 : Int)) j)) 0 (ds.map (Value.int .i64))).toArray 3 (0, 0)) ∧ Below b w0 w' := by
  by_cases h0 : p = 0
  · subst h0
    obtain rfl : ds = [] := List.eq_nil_of_length_eq_zero hl
    exact ⟨w, fun ty => run_copy_none (P := Try.prog) w _ _ ty 3 _ _ _ _ _ _ Try.underlying37 (by kernel_rfl) (by simp [Nat.min]), by rw [show splice ((List.range l).map fun j => Value.int .i64 ((fun _ => (0 : Int)) j)) 0 (([] : List Int).map (Value.int .i64)) = ((List.range l).map fun j => Value.int .i64 ((fun _ => (0 : Int)) j)) from by simp [splice]]; exact hB, hb⟩
  · obtain ⟨ad, rfl, hc⟩ := hx (by omega)
    have hlen : (ds.map (Value.int .i64)).length = p := by rw [List.length_map, hl]
    have hr := fun ty => run_copy_row (P := Try.prog) w 37 37 ty 3 b 0 l l ad p cx ((List.range l).map fun j => Value.int .i64 ((fun _ => (0 : Int)) j)).toArray 3 (ds.map (Value.int .i64)) Try.underlying37 (by kernel_rfl) hB (by rw [hlen]; exact (Nat.min_eq_left hpl).symm) hc (by simp; omega) (ints_oneCell ds)
    rw [hlen] at hr
    refine ⟨_, hr, ?_, below_setRow hb (Nat.le_refl _) _⟩
    refine (setRow_heap w b _ _ _ _ hB).trans ?_
    simp [splice, hl]
section
variable (B : List Nat) (base t size : Nat) (F : Frm) (r : List Frm) (w : World)
set_option maxHeartbeats 32000000 in
theorem rcall_yes (back : Int) (p l : Nat) (hn : r.length ≤ 800000) (hm : topS (F :: r) ≤ 1000000) (hs : size ≤ 1000000) (h1 : p ≤ l) (h2 : p ≤ F.ops.length) (h3 : topS (F :: r) + (l - p) + 2 ≤ size) (hB : ∀ b ∈ B, b < w.heap.size) (h : Rs w B base t size (F :: r)) :
    Calls Try.prog 25 #[.pointer (some ⟨t, 0, none⟩), .int .i64 back, .int .i64 p, .int .i64 l] w (RsP B base t size (⟨back, F.ops.drop (F.ops.length - p) ++ List.replicate (l - p) 0, []⟩ :: {F with ops := F.ops.take (F.ops.length - p)} :: r) (.int .i64 0) w) := by
  obtain ⟨v, ps, h⟩ := h
  have HK := Lib.hid h
  have HBB := Lib.hid hB
  have HP := Lib.hid (roperands_q B base t size F r v ps w (by omega) h)
  have HL := Lib.hid (fun w' h' => rlen_q B base t size (F :: r) v ps w' (by simp; omega) hm (by simp) h')
  have hto := topS_ops F r
  obtain ⟨g, cap, rfl, hg, hc1, hc2, hc, hz⟩ := h.top
  have HC := Lib.hid (fun w' (ht : Touch [] w w') => rtop_q B base t size F r ps w' g cap (by omega) (h.still ht))
  obtain ⟨a, ca, ho⟩ := Qu.form h.fr.2.2.2
  have hcap : F.ops.length ≤ ca := by have := h.fr.2.2.2; rw [ho] at this; exact this.capI.1
  have HO := Lib.hid (fun w' (ht : Touch [] w w') => by
    obtain ⟨g', cap', he, _, _, _, hc', hz'⟩ := (h.still ht).top
    cases he
    have := hc' 2 (by omega)
    rw [ho] at this
    exact (⟨this, hz' (r.length * 3 + 2)⟩ : _ ∧ _))
  have HV := Lib.hid (fun w' (ht : Touch [] w w') => (h.still ht).fr.2.2.2.sl)
  rw [ho] at HV
  have hmk := fun w => run_mk_of (P := Try.prog) 37 3 Try.underlying37 (by kernel_rfl) l (by omega) w
  obtain ⟨k, hk⟩ : ∃ k, F.ops.length - p = k := ⟨_, rfl⟩
  have hkp : k + p = F.ops.length := by omega
  have hcs : (F.ops.drop k).length = p := by rw [List.length_drop]; omega
  have htk : (F.ops.take k).length = k := by rw [List.length_take]; omega
  have HF := Lib.hid (fun w' (ht : Touch [] w w') (hp : 0 < p) => from_cells (HV.out w' ht) hcap hkp hp)
  have HT2 := Lib.hid (fun w' (ht : Touch [] w w') => take_sl (k := k) (HV.out w' ht) (by omega))
  have hcf := fun wx => cut_from a F.ops.length ca k (by omega) wx
  have hct := fun wx => cut_to a F.ops.length ca k (by omega) wx
  obtain ⟨x, hx⟩ : ∃ x, (if ca = k then a else a.map (·.add k)) = x := ⟨_, rfl⟩
  obtain ⟨cx, hcx⟩ : ∃ cx, ca - k = cx := ⟨_, rfl⟩
  rw [hx, hcx] at hcf
  rw [hx] at HF
  rw [show F.ops.length - k = p from by omega] at hcf
  rw [hk]
  obtain ⟨T, hT⟩ : ∃ T, topS (F :: r) = T := ⟨_, rfl⟩
  rw [hT] at HL h3 hm hto
  obtain ⟨ds, hds⟩ : ∃ ds, F.ops.drop k = ds := ⟨_, rfl⟩
  obtain ⟨ts, hts⟩ : ∃ ts, F.ops.take k = ts := ⟨_, rfl⟩
  rw [hds] at HF hcs ⊢
  rw [hts] at HT2 htk ⊢
  obtain ⟨m, hm'⟩ : ∃ m, F.ops.length = m := ⟨_, rfl⟩
  rw [hm'] at HP h2 hto hcf hct HO hkp hk
  obtain ⟨n, hn'⟩ : ∃ n, r.length = n := ⟨_, rfl⟩
  have HN := Lib.hid hn'
  have hn800 : n ≤ 800000 := by omega
  rw [hn'] at HC HO
  have hts1 : ts.length ≤ 1000000 := by omega
  have q : decide ((p : Int) < 0) = false := dF (by omega)
  have n1 : ¬ l < p := by omega
  have n2 : decide (l < p) = false := dF n1
  have n3 : ¬ m < p := by omega
  have n4 : decide (m < p) = false := dF n3
  have n5 : ¬ size < l := by omega
  have n6 : decide (size < l) = false := dF n5
  have q2 : decide ((l : Int) < (p : Int)) = false := dF (by omega)
  have q3 : decide ((m : Int) < (p : Int)) = false := dF (by omega)
  have q4 : decide ((size : Int) < (l : Int)) = false := dF (by omega)
  have v1 : IntKind.i64.wrap ((T : Int) + 2) = (T : Int) + 2 := IntWalk.i64_in _ (by omega)
  have v2 : IntKind.i64.wrap ((T : Int) + 2 + (l : Int)) = (T : Int) + 2 + (l : Int) := IntWalk.i64_in _ (by omega)
  have v3 : IntKind.i64.wrap ((T : Int) + 2 + (l : Int) - (p : Int)) = (T : Int) + 2 + (l : Int) - (p : Int) := IntWalk.i64_in _ (by omega)
  have v4 : IntKind.i64.wrap ((m : Int) - (p : Int)) = (k : Int) := by rw [show (m : Int) - (p : Int) = (k : Int) from by omega]; exact IntWalk.i64_in _ (by omega)
  have q5 : decide ((size : Int) < (T : Int) + 2 + (l : Int) - (p : Int)) = false := dF (by omega)
  have HA : Hid (p ≤ l ∧ l ≤ 1000000) := Lib.hid ⟨by omega, by omega⟩
  have HCS := Lib.hid hcs
  have HTS := Lib.hid htk
  have HBS : Hid (base ≤ w.heap.size) := Lib.hid (by have := h.bt; have := h.obj.lt; omega)
  clear h ho hc hz hn hn' hm' hk hkp hto hT h1 h2 h3 hm hs hcap hds hts hx hcx hB hc1 hc2 hcs htk HV
  go_enter Try.func25, Try.ntmps25
  go_wp2_with fail
  refine HP.out.mono ?_
  rintro e w1 ⟨rfl, ht⟩
  have HT := Lib.hid ht
  have HK1 := Lib.hid (HK.out.still ht)
  have x0 := fun q : Later w1 => (HK1.out.still q.ok).obj.cell (i := 0) rfl
  clear ht
  go_wp2_with fail
  refine wp_region_later (by kernel_rfl) (by kernel_rfl) ?_
  repeat (first
    | (go_big_quiet_step ((first | (with_reducible rfl) | exact Later.same (HL.out _ (HK1.out.still (Later.ok _))))))
    | (quiet_step (fail)))
  refine wpQuiet_nil ?_
  intro wq hw'
  obtain ⟨⟨wq', hwq⟩, hwe⟩ := hw'
  have hwe : wq = wq' := hwe
  subst hwe
  have HT := Lib.hid (HT.out.trans hwq)
  clear hwe hwq x0 HL
  go_wp2_with fail
  refine (HC.out _ (HT.out.alloc _)).mono ?_
  rintro e w3 ⟨rfl, ht⟩
  have HT3 : Hid (Touch [] w w3) := Lib.hid ((HT.out.alloc _).trans ht)
  have HT03 : Hid (Touch [] wq w3) := Lib.hid (((Touch.refl [] wq).alloc _).trans ht)
  have HB3 : Hid (Blk w3 wq.heap.size (rowA (fun _ => 0) l) 3) := Lib.hid ((Blk.new rfl).touch ht (by simp))
  obtain ⟨y3, _⟩ := HO.out _ HT3.out
  clear ht
  obtain ⟨w4, hcp, hg4, hb4⟩ := copy_run wq w3 wq.heap.size l p cx x ds HCS.out HA.out.1 HB3.out (HF.out w3 HT3.out) (HT03.out.below (Nat.le_refl _) (by simp))
  have HG4 := Lib.hid hg4
  have hcp3 := hcp 3
  have HTq4 : Hid (Touch [] wq w4) := Lib.hid (Touch.of_below hb4)
  have HT4 : Hid (Touch [] w w4) := Lib.hid (HT.out.trans HTq4.out)
  have HQ4 := Lib.hid (zeros_splice (by rw [HCS.out]; exact HA.out.1) (by have := HA.out.2; unfold maxLen; omega) HG4.out)
  rw [HCS.out] at HQ4
  clear HB3 HG4 hb4 hg4 hcp
  go_wp2_with fail
  refine (HC.out _ HT4.out).mono ?_
  rintro e w5 ⟨rfl, ht⟩
  have HT5 := Lib.hid (HT4.out.trans ht)
  have HQ5 := Lib.hid (HQ4.out.touch ht (by simp))
  have HTq5 := Lib.hid (HTq4.out.trans ht)
  clear ht HQ4 HTq4
  go_wp2_with fail
  refine (HC.out _ HT5.out).mono ?_
  rintro e w6 ⟨rfl, ht⟩
  have HT6 := Lib.hid (HT5.out.trans ht)
  have HQ6 := Lib.hid (HQ5.out.touch ht (by simp))
  have HTq6 := Lib.hid (HTq5.out.trans ht)
  obtain ⟨y6, _⟩ := HO.out _ HT6.out
  clear ht HQ5 HTq5
  go_wp2_with fail
  refine (rcopy_any _ ts w6 (HT2.out _ HT6.out) hts1).mono ?_
  rintro e w7 ⟨v7, rfl, hq, ht⟩
  have HQN := Lib.hid hq
  have HQ7 := Lib.hid (HQ6.out.touch ht (by simp))
  have HT7 := Lib.hid (HT6.out.trans ht)
  have HTq7 := Lib.hid (HTq6.out.trans ht)
  have HS6 : Hid (wq.heap.size < w6.heap.size ∧ w.heap.size ≤ wq.heap.size ∧ w.heap.size ≤ w6.heap.size) := Lib.hid ⟨by
    obtain ⟨q1, q2⟩ := HQ6.out.own wq.heap.size rfl; exact q2, HT.out.size, HT6.out.size⟩
  obtain ⟨y7, z7⟩ := HO.out _ HT7.out
  clear ht y6 hq HQ6 HTq6
  obtain ⟨a7, c7, rfl⟩ := Qu.form HQN.out
  obtain ⟨hR, ht5, hbg, hgB⟩ := HK.out.setOps HBB.out HT7.out (HQN.out.mono (by have := HS6.out.2.2; have := HBS.out; omega)) (fun b hb => by have := (HQN.out.own b hb).1; have := HS6.out.2.2; omega)
  rw [HN.out] at hR ht5
  have hs8 : (w7.setCell ⟨g, n * 3 + 2, none⟩ (.slice a7 ts.length c7)).heap.size = w7.heap.size := by simp [World.setCell]
  have hgl : g < w.heap.size := by
    obtain ⟨_, _, e2, _, l2, _⟩ := HK.out.fs.at (i := r.length) (by simp)
    cases e2; exact l2
  obtain ⟨wa, wb, v1, v2, hF⟩ := fborn (w7.setCell ⟨g, n * 3 + 2, none⟩ (.slice a7 ts.length c7)) B base t size _ _ _ back (.slice (some ⟨wq.heap.size, 0, none⟩) l l) (ds ++ List.replicate (l - p) 0) hR
    (fun b hb => by rw [hs8]; have := HBB.out b hb; have := HT7.out.size; omega) (by rw [List.length_cons, HN.out]; omega)
    ((HQ7.out.touch ht5 (fun b hb => by cases hb; have := HS6.out; simp; omega)).mono (by have := HS6.out; have := HBS.out; omega))
    (fun b hb => by
      obtain rfl : b = wq.heap.size := by cases hb; rfl
      have hS := HS6.out
      have htl := HK.out.obj.lt
      refine ⟨by omega, fun hm => by have := HBB.out _ hm; omega, fun j hj => ?_⟩
      have hj' : j < (F :: r).length := by simpa using hj
      refine ⟨fun e => ?_, fun e => ?_⟩
      · rw [setV_ne _ _ (by omega)] at e
        have := (HK.out.fr.lt j _ hj' (.inl e)).2; omega
      · by_cases ej : j = r.length
        · subst ej
          rw [HN.out, setV_same] at e
          have := (HQN.out.own _ e).1; omega
        · rw [HN.out] at ej
          rw [setV_ne _ _ (by omega)] at e
          have := (HK.out.fr.lt j _ hj' (.inr e)).2; omega)
  have HF2 := Lib.hid hF
  have HT5 := Lib.hid ht5
  have HGB := Lib.hid (And.intro hbg hgB)
  have c0 := hF.c0
  have c1 := hF.c1
  have c2 := hF.c2
  have f2 := hF.f2
  have hr1 := hF.r1
  have hr2 := hF.r2
  rw [hs8] at hr1
  obtain ⟨fa1, fa2, hfa⟩ := hF.f1
  obtain ⟨fl1, fl2, hfl⟩ := hF.f3
  subst hfa hfl
  have HR1 := Lib.hid hr1
  have HR2 := Lib.hid hr2
  clear hR ht5 hs8 hgl hF hr1 hr2 hbg hgB
  go_wp2_with (at_builtin; first
      | (with_reducible refine Lib.wpList_append_run _ rfl _ _ _ _ rfl _ _ rfl rfl _ _ (HR1.out _) ?_)
      | (with_reducible refine Lib.wpList_append_run _ rfl _ _ _ _ rfl _ _ rfl rfl _ _ (HR2.out _) ?_))
  go_ret
  have hl := HF2.out.left
  refine ⟨rfl, ⟨_, _, hl⟩, ⟨[g, t], ?_, fun b hb => ?_⟩⟩
  · refine ((HT7.out.mono (by simp)).trans (HT5.out.mono (by simp))).trans ?_
    exact (HF2.out.tw.mono (by simp)).setCell (by simp) _
  · simp at hb
    rcases hb with rfl | rfl
    · exact HGB.out
    · exact ⟨HK.out.bt, HK.out.nt⟩
end
end Go.Proofs.Ytgljkjjanffncaa
