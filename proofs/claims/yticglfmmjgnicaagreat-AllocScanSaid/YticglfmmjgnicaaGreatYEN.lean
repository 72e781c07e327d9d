/-
  What is pending behind a call could not be granted.
  Three lists of rows that a call puts together side by side.
-/
import Derived.Test.YticglfmmjgnicaaGreatYEM
set_option linter.unusedVariables false
set_option linter.unusedSimpArgs false
namespace Go.Proofs.YticglfmmjgnicaaGreat
open Go.RowKit

/-- No ask of the list could be granted, the first one as the first. -/
def Refd (m : Am) (l : List (Int × List Int)) : Prop := ∀ k, k < l.length → m.grant (l.getD k (0, [])) (decide (k = 0)) = false
section
variable {m : Am}
/-- Who asks for what another one has just been granted gets it no sooner. -/
theorem grant_less {x y : Int × List Int} {b : Bool} {s r : List (Int × List Int)} (ok : (m.withP (s ++ x :: r)).Ok) (hy : y ∈ s) (hf : fitsB x.2 m.avl = true) (h : m.grant y b = false) : (m.give x.1 x.2).grant y b = false := by
  have hxp : x ∈ (m.withP (s ++ x :: r)).pend := by show x ∈ s ++ x :: r; simp
  have hyp : y ∈ (m.withP (s ++ x :: r)).pend := by show y ∈ s ++ x :: r; simp [hy]
  have hx := ok.pi x hxp
  have hyi := ok.pi y hyp
  have hne : y.1 ≠ x.1 := fun e => by
    have hn := ok.pn
    have hn : ((s ++ x :: r).map (·.1)).Nodup := hn
    rw [List.map_append, List.nodup_append] at hn
    exact hn.2.2 y.1 (List.mem_map.2 ⟨y, hy, rfl⟩) x.1 (by simp) e
  have ok2 : ((m.give x.1 x.2).withP (s ++ r)).Ok := ok.step_yes hf
  have ha : (m.give x.1 x.2).avl = subW m.avl x.2 := give_avl (m := m.withP (s ++ x :: r)) ok hx.1 x.2
  refine Bool.eq_false_iff.2 (fun hg => ?_)
  have hgf := Am.grant_fit hg
  have hxl := (isB_iff.1 hx.2)
  have hfy : fitsB y.2 m.avl = true := by
    obtain ⟨q1, q2⟩ := fitsB_is hgf
    refine fitsB_of (by rw [q1, Am.avl_length, Am.avl_length]; rfl) (fun c hc => ?_)
    have h1 := q2 c hc
    have hcl : c < m.tot.length := by rw [q1, Am.avl_length] at hc; exact hc
    rw [ha, subW_get _ _ _ (by rw [Am.avl_length]; exact hcl)] at h1
    have := (hxl.2 c hcl).1
    omega
  have : m.grant y b = true := by
    unfold Am.grant at hg ⊢
    rw [hfy, Bool.true_and]
    rw [hgf, Bool.true_and] at hg
    have ec : (m.give x.1 x.2).clm = m.clm := rfl
    rw [ec] at hg
    cases hc : m.clm with
    | false => rfl
    | true =>
      rw [hc] at hg
      simp only [Bool.not_true, Bool.false_or, Bool.and_eq_true] at hg ⊢
      have eh : (m.give x.1 x.2).held y.1 = m.held y.1 := updF_ne _ _ hne
      rw [eh] at hg
      refine ⟨hg.1, ?_⟩
      -- safe with x's, so safe without
      have ok3 : (((m.give x.1 x.2).give y.1 y.2).withP []).Ok := Am.Ok.give (m := (m.give x.1 x.2).withP (s ++ r)) ok2 (x := y) (by show y ∈ s ++ r; simp [hy]) hgf (fun z hz => by simp at hz) (by simp)
      have ok4 : ((m.give y.1 y.2).withP []).Ok := Am.Ok.give (m := m.withP (s ++ x :: r)) ok (x := y) hyp hfy (fun z hz => by simp at hz) (by simp)
      have ha2 : ((m.give x.1 x.2).give y.1 y.2).avl = subW (m.give x.1 x.2).avl y.2 := give_avl (m := (m.give x.1 x.2).withP (s ++ r)) ok2 hyi.1 y.2
      have ha3 : (m.give y.1 y.2).avl = subW m.avl y.2 := give_avl (m := m.withP (s ++ x :: r)) ok hyi.1 y.2
      have hs3 : (((m.give x.1 x.2).give y.1 y.2).withP []).safe = true := by
        show (ordR ((m.give x.1 x.2).give y.1 y.2).avl ((m.give x.1 x.2).give y.1 y.2).hs ((m.give x.1 x.2).give y.1 y.2).cs).isSome = true
        rw [ha2]
        exact hg.2
      obtain ⟨σ, hn, he, ho⟩ := safe_P1 ok3 hs3
      have hs4 : ((m.give y.1 y.2).withP []).safe = true := safe_P2 ok4 hc ⟨σ, hn, he, SafeO.less (tot := m.tot) (held := ((m.give x.1 x.2).give y.1 y.2).held) ho (fun p hp c hcc => by
        show (updF m.held y.1 (addW (m.held y.1) y.2) p).getD c 0 ≤ (updF (updF m.held x.1 (addW (m.held x.1) x.2)) y.1 (addW (updF m.held x.1 (addW (m.held x.1) x.2) y.1) y.2) p).getD c 0
        by_cases e : p = y.1
        · subst e
          rw [updF_at, updF_at, updF_ne _ _ hne]
          omega
        · rw [updF_ne _ _ e, updF_ne _ _ e]
          by_cases e2 : p = x.1
          · subst e2
            rw [updF_at]
            have hl : (m.held x.1).length = m.tot.length := ok.hl x.1 hx.1
            rw [addW_get _ _ _ (by rw [hl]; exact hcc)]
            have := (hxl.2 c hcc).1
            omega
          · rw [updF_ne _ _ e2]
            omega)⟩
      have hs5 : (ordR (m.give y.1 y.2).avl (m.give y.1 y.2).hs (m.give y.1 y.2).cs).isSome = true := hs4
      rw [ha3] at hs5
      exact hs5
  rw [h] at this
  cases this
theorem scanF_refd : ∀ (l : List (Int × List Int)) (m : Am) (s : List (Int × List Int)) (g : List Int), (m.withP (s ++ l)).Ok → Refd m s → Refd (Am.scanF l m s g).1 (Am.scanF l m s g).2.1
  | [], m, s, g, _, h => h
  | x :: r, m, s, g, ok, h => by
    unfold Am.scanF
    by_cases hg : m.grant x (decide (s.length = 0)) = true
    · rw [if_pos hg]
      refine scanF_refd r _ s _ (ok.step_yes (Am.grant_fit hg)) (fun k hk => ?_)
      have hy : s.getD k (0, []) ∈ s := by rw [show s.getD k (0, []) = s[k] from by simp [hk]]; exact List.getElem_mem _
      exact grant_less ok hy (Am.grant_fit hg) (h k hk)
    · rw [if_neg hg]
      refine scanF_refd r m _ _ ok.step_no (fun k hk => ?_)
      rw [List.length_append, List.length_singleton] at hk
      by_cases e : k = s.length
      · subst e
        rw [show (s ++ [x]).getD s.length (0, []) = x from by rw [List.getD_eq_getElem?_getD, List.getElem?_append_right (Nat.le_refl _)]; simp]
        simpa using hg
      · rw [show (s ++ [x]).getD k (0, []) = s.getD k (0, []) from by rw [List.getD_eq_getElem?_getD, List.getD_eq_getElem?_getD, List.getElem?_append_left (by omega)]]
        exact h k (by omega)
theorem scan_refd (ok : m.Ok) : Refd m.scan.1 m.scan.1.pend := scanF_refd m.pend m [] [] (by rw [List.nil_append]; exact ok) (fun k hk => by simp at hk)
theorem ask_refd (ok : m.Ok) (h : Refd m m.pend) (q : Int) (u : List Int) : Refd (m.cAsk q u).1 (m.cAsk q u).1.pend := by
  unfold Am.cAsk
  split; exact h
  rename_i c1
  split; exact h
  rename_i c2
  split; exact h
  rename_i c3
  split; exact h
  rename_i c4
  refine scan_refd (ok.wait (by simpa using c1) (by simpa using c2) c3 (fun hcl => ?_))
  cases hf : fitsB (addW (m.held q) u) (m.claim q) with
  | true => rfl
  | false => exact absurd ⟨hcl, hf⟩ c4
theorem give_refd (ok : m.Ok) (h : Refd m m.pend) (q : Int) (u : List Int) : Refd (m.cGive q u).1 (m.cGive q u).1.pend := by
  unfold Am.cGive
  split; exact h
  rename_i c1
  split; exact h
  rename_i c2
  split; exact h
  rename_i c3
  exact scan_refd (ok.back (by simpa using c1) (by simpa using c2) (by simpa using c3))
theorem leave_refd (ok : m.Ok) (h : Refd m m.pend) (q : Int) : Refd (m.cLeave q).1 (m.cLeave q).1.pend := by
  unfold Am.cLeave
  split; exact h
  rename_i c1
  exact scan_refd (ok.quit (by simpa using c1))
/-- Of the calls that the laws make (no process comes in). -/
theorem step_refd (ok : m.Ok) (h : Refd m m.pend) {k : Int} (hk : k ≠ 0) (q : Int) (u : List Int) : Refd (m.step k q u) (m.step k q u).pend := by
  unfold Am.step
  rw [if_neg hk]
  split; exact ask_refd ok h q u
  split; exact give_refd ok h q u
  exact leave_refd ok h q
end
theorem admit_pend (m : Am) (q : Int) (u : List Int) : (m.cAdmit q u).1.pend = m.pend := by
  unfold Am.cAdmit
  split; rfl
  split; rfl
  split; rfl
  split; rfl
  rfl
theorem adms_pend : ∀ (l : List (Int × List Int)) (m : Am), (adms l m).pend = m.pend
  | [], m => rfl
  | x :: l, m => (adms_pend l (m.cAdmit x.1 x.2).1).trans (admit_pend m x.1 x.2)
end Go.Proofs.YticglfmmjgnicaaGreat

set_option linter.unusedVariables false
namespace Go.Proofs.YticglfmmjgnicaaGreat
open Go Go.RowKit

structure H3 (W w : World) (va vb vc : Value) (xa xb xc : List Value) : Prop where
  t : Touch [] W w
  a : Qu w W.heap.size 22 va xa
  b : Qu w W.heap.size 22 vb xb
  c : Qu w W.heap.size 22 vc xc
  ab : ∀ k, va.ownBlock = some k → vb.ownBlock ≠ some k
  bc : ∀ k, vb.ownBlock = some k → vc.ownBlock ≠ some k
  ca : ∀ k, vc.ownBlock = some k → va.ownBlock ≠ some k
/-- A row that lies in none of the three. -/
def Rw3 (w : World) (va vb vc : Value) (v : Value) (xs : List Int) : Prop := Sl w v xs ∧ ∀ k, v.ownBlock = some k → (va.ownBlock ≠ some k ∧ vb.ownBlock ≠ some k ∧ vc.ownBlock ≠ some k) ∧ k < w.heap.size
/-- A row of one that is to be appended. -/
def Bx (W w : World) (va vb vc : Value) (n : Nat) (x : Value) : Prop := Blk w n #[x] 22 ∧ (va.ownBlock ≠ some n ∧ vb.ownBlock ≠ some n ∧ vc.ownBlock ≠ some n) ∧ W.heap.size ≤ n
section
variable {W w w' : World} {va vb vc v x : Value} {xa xb xc : List Value} {xs : List Int} {n : Nat}
theorem H3.same (h : H3 W w va vb vc xa xb xc) (ht : Touch [] w w') : H3 W w' va vb vc xa xb xc := ⟨h.t.trans ht, h.a.later ht, h.b.later ht, h.c.later ht, h.ab, h.bc, h.ca⟩
theorem Rw3.same (h : Rw3 w va vb vc v xs) (ht : Touch [] w w') : Rw3 w' va vb vc v xs := ⟨h.1.touch ht (fun _ _ => by simp), fun k hk => ⟨(h.2 k hk).1, Nat.lt_of_lt_of_le (h.2 k hk).2 ht.size⟩⟩
theorem Bx.same (h : Bx W w va vb vc n x) (ht : Touch [] w w') : Bx W w' va vb vc n x := ⟨h.1.touch ht (by simp), h.2⟩
theorem H3.rot (h : H3 W w va vb vc xa xb xc) : H3 W w vb vc va xb xc xa := ⟨h.t, h.b, h.c, h.a, h.bc, h.ca, h.ab⟩
theorem Rw3.rot (h : Rw3 w va vb vc v xs) : Rw3 w vb vc va v xs := ⟨h.1, fun k hk => ⟨⟨(h.2 k hk).1.2.1, (h.2 k hk).1.2.2, (h.2 k hk).1.1⟩, (h.2 k hk).2⟩⟩
theorem Bx.rot (h : Bx W w va vb vc n x) : Bx W w vb vc va n x := ⟨h.1, ⟨h.2.1.2.1, h.2.1.2.2, h.2.1.1⟩, h.2.2⟩
/-- A row of the call's own that is new. -/
theorem Rw3.new (h : H3 W w va vb vc xa xb xc) (ht : Touch [] w w') (hq : Qu w' w.heap.size 3 v (xs.map (Value.int .i64))) : Rw3 w' va vb vc v xs :=
  ⟨hq.sl, fun k hk => ⟨⟨fun e => by have := (h.a.own k e).2; have := (hq.own k hk).1; omega, fun e => by have := (h.b.own k e).2; have := (hq.own k hk).1; omega, fun e => by have := (h.c.own k e).2; have := (hq.own k hk).1; omega⟩, (hq.own k hk).2⟩⟩
/-- A row that was there before. -/
theorem Rw3.old (h : H3 W w va vb vc xa xb xc) (hs : Sl w v xs) (ho : ∀ k, v.ownBlock = some k → k < W.heap.size) : Rw3 w va vb vc v xs :=
  ⟨hs, fun k hk => ⟨⟨fun e => by have := (h.a.own k e).1; have := ho k hk; omega, fun e => by have := (h.b.own k e).1; have := ho k hk; omega, fun e => by have := (h.c.own k e).1; have := ho k hk; omega⟩, by have := ho k hk; have := h.t.size; omega⟩⟩
theorem Bx.new (h : H3 W w va vb vc xa xb xc) (x : Value) (hn : n = w.heap.size) : Bx W (w.alloc (.cells #[x] 22)) va vb vc n x := by
  subst hn
  exact ⟨Blk.new rfl, ⟨fun e => by have := (h.a.own _ e).2; omega, fun e => by have := (h.b.own _ e).2; omega, fun e => by have := (h.c.own _ e).2; omega⟩, h.t.size⟩
theorem H3.appA (h : H3 W w va vb vc xa xb xc) (hb : Bx W w va vb vc n x) (hx : x.oneCell' = true) (hl : xa.length ≤ 1000) (c : Nat) :
    ∃ va' w', (∀ ty, (Builtin.append_ #[45, 45] ty #[va, .slice (some ⟨n, 0, none⟩) 1 c]).run Tryz.prog w = .ok va' w') ∧ H3 W w' va' vb vc (xa ++ [x]) xb xc ∧ (∀ v xs, Rw3 w va vb vc v xs → Rw3 w' va' vb vc v xs) ∧ ∀ n' x', Bx W w va vb vc n' x' → Bx W w' va' vb vc n' x' := by
  obtain ⟨i0, hi, hz0, hz1, hz2⟩ := infoR
  obtain ⟨v', w2, r1, A2, g2, o2⟩ := Qu.append (t := 45) Tryz.underlying45 hi hz0 hz1 hz2 rfl h.a h.t.size ⟨n, 0, none⟩ c x (hb.1.cell (i := 0) rfl) hx (by omega) (by omega)
  have tg : Touch va.ownBlock.toList w w2 := (Touch.refl va.ownBlock.toList w).grown g2 (fun k hk _ => by simp [hk])
  have nm : ∀ k, va.ownBlock ≠ some k → k ∉ va.ownBlock.toList := fun k hk hm => hk (Option.mem_toList.1 hm)
  have new : ∀ k, v'.ownBlock = some k → va.ownBlock ≠ some k → w.heap.size ≤ k := fun k hk hne => by
    rcases o2 k hk with e | e
    · exact absurd e hne
    · exact e
  refine ⟨v', w2, r1, ⟨h.t.transF tg (fun k hk hl => absurd hl (by have := (h.a.own k (Option.mem_toList.1 hk)).1; omega)), A2, h.b.touch tg (fun k hk => nm k (fun e => h.ab k e hk)), h.c.touch tg (fun k hk => nm k (h.ca k hk)), fun k hk e => ?_, h.bc, fun k hk e => ?_⟩, fun v xs hv => ⟨hv.1.touch tg (fun k hk => nm k (hv.2 k hk).1.1), fun k hk => ⟨⟨fun e => ?_, (hv.2 k hk).1.2⟩, Nat.lt_of_lt_of_le (hv.2 k hk).2 tg.size⟩⟩, fun n' x' hn' => ⟨hn'.1.touch tg (nm n' hn'.2.1.1), ⟨fun e => ?_, hn'.2.1.2⟩, hn'.2.2⟩⟩
  · have := new k hk (fun e2 => h.ab k e2 e)
    have := (h.b.own k e).2; omega
  · have := new k e (h.ca k hk)
    have := (h.c.own k hk).2; omega
  · have := new k e (hv.2 k hk).1.1
    have := (hv.2 k hk).2; omega
  · have := new n' e hn'.2.1.1
    have := hn'.1.lt; omega
theorem H3.appB (h : H3 W w va vb vc xa xb xc) (hb : Bx W w va vb vc n x) (hx : x.oneCell' = true) (hl : xb.length ≤ 1000) (c : Nat) :
    ∃ vb' w', (∀ ty, (Builtin.append_ #[45, 45] ty #[vb, .slice (some ⟨n, 0, none⟩) 1 c]).run Tryz.prog w = .ok vb' w') ∧ H3 W w' va vb' vc xa (xb ++ [x]) xc ∧ (∀ v xs, Rw3 w va vb vc v xs → Rw3 w' va vb' vc v xs) ∧ ∀ n' x', Bx W w va vb vc n' x' → Bx W w' va vb' vc n' x' := by
  obtain ⟨v', w', r1, h1, h2, h3⟩ := h.rot.appA hb.rot hx hl c
  exact ⟨v', w', r1, h1.rot.rot, fun v xs hv => (h2 v xs hv.rot).rot.rot, fun n' x' hn => (h3 n' x' hn.rot).rot.rot⟩
theorem H3.appC (h : H3 W w va vb vc xa xb xc) (hb : Bx W w va vb vc n x) (hx : x.oneCell' = true) (hl : xc.length ≤ 1000) (c : Nat) :
    ∃ vc' w', (∀ ty, (Builtin.append_ #[45, 45] ty #[vc, .slice (some ⟨n, 0, none⟩) 1 c]).run Tryz.prog w = .ok vc' w') ∧ H3 W w' va vb vc' xa xb (xc ++ [x]) ∧ (∀ v xs, Rw3 w va vb vc v xs → Rw3 w' va vb vc' v xs) ∧ ∀ n' x', Bx W w va vb vc n' x' → Bx W w' va vb vc' n' x' := by
  obtain ⟨v', w', r1, h1, h2, h3⟩ := h.rot.rot.appA hb.rot.rot hx hl c
  exact ⟨v', w', r1, h1.rot, fun v xs hv => (h2 v xs hv.rot.rot).rot, fun n' x' hn => (h3 n' x' hn.rot.rot).rot⟩
end
/-- A list of rows of a call's own: none of it among F. -/
structure Kr (w : World) (F : List Nat) (v : Value) (l : List (List Int)) : Prop where
  q : ∃ vs, vs.length = l.length ∧ (∃ base, Qu w base 22 v vs) ∧ ∀ i, i < l.length → Sl w (vs.getD i (.slice none 0 0)) (rw_ l i) ∧ ∀ k, (vs.getD i (.slice none 0 0)).ownBlock = some k → k ∉ F ∧ k < w.heap.size
  o : ∀ k, v.ownBlock = some k → k ∉ F ∧ k < w.heap.size
theorem Kr.step {w w' : World} {F F' : List Nat} {v : Value} {l : List (List Int)} (h : Kr w F v l) (hf : Fr F w F' w') : Kr w' F' v l := by
  obtain ⟨vs, h1, ⟨base, h2⟩, h3⟩ := h.q
  have nf : ∀ k, k ∉ F ∧ k < w.heap.size → k ∉ F' ∧ k < w'.heap.size := fun k hk => ⟨fun hm => by
    rcases hf.g k hm with e | e
    · exact hk.1 e
    · omega, Nat.lt_of_lt_of_le hk.2 hf.t.size⟩
  exact ⟨⟨vs, h1, ⟨base, h2.touch hf.t (fun k hk => (h.o k hk).1)⟩, fun i hi => ⟨(h3 i hi).1.touch hf.t (fun k hk => ((h3 i hi).2 k hk).1), fun k hk => nf k ((h3 i hi).2 k hk)⟩⟩, fun k hk => nf k (h.o k hk)⟩
theorem Kr.rws {w : World} {F : List Nat} {v : Value} {l : List (List Int)} (h : Kr w F v l) : Rws w v l := by
  obtain ⟨vs, h1, ⟨base, h2⟩, h3⟩ := h.q
  exact h2.rws h1 (fun i hi => (h3 i hi).1)
end Go.Proofs.YticglfmmjgnicaaGreat
