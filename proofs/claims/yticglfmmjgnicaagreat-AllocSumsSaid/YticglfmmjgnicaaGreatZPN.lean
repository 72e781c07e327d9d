/-
  What the reference's allocator is asked: who waits for what, whether it is safe, who is left.
  The reference's allocator: whether it is safe, who is left, a new one.
  Both allocators side by side: the program's and the reference's.
  Both are asked, and tell the same.
-/
import Derived.Test.YticglfmmjgnicaaGreatZPM
set_option linter.unusedVariables false
set_option linter.unusedSimpArgs false
namespace Go.Proofs.YticglfmmjgnicaaGreat
open Go Go.RowKit

theorem askOf_cons (z : List Int) (x : Int × List Int) (l : List (Int × List Int)) (q : Int) : askOf z (x :: l) q = askOf (if x.1 = q then x.2 else z) l q := rfl
theorem askOf_none (q : Int) : ∀ (l : List (Int × List Int)) (z : List Int), (∀ x, x ∈ l → x.1 ≠ q) → askOf z l q = z
  | [], _, _ => rfl
  | x :: l, z, h => by
    rw [askOf_cons, if_neg (h x (by simp)), askOf_none q l z (fun y hy => h y (by simp [hy]))]
theorem askOf_at (q : Int) : ∀ (l : List (Int × List Int)) (z : List Int) (p : Nat) (hp : p < l.length), (l[p]).1 = q → (∀ (j : Nat) (hj : j < l.length), (l[j]).1 = q → j = p) → askOf z l q = (l[p]).2
  | [], _, p, hp, _, _ => by simp at hp
  | x :: l, z, 0, hp, h1, h2 => by
    have h1 : x.1 = q := h1
    rw [askOf_cons, if_pos h1]
    refine askOf_none q l _ (fun y hy e => ?_)
    obtain ⟨j, hj, e2⟩ := List.getElem_of_mem hy
    have := h2 (j + 1) (by simpa using hj) (by simpa [e2] using e)
    omega
  | x :: l, z, p + 1, hp, h1, h2 => by
    have hx : x.1 ≠ q := fun e => by
      have := h2 0 (by simp) e
      omega
    rw [askOf_cons, if_neg hx]
    exact askOf_at q l z p (by simpa using hp) (by simpa using h1) (fun j hj e => by
      have := h2 (j + 1) (by simpa using hj) (by simpa using e)
      omega)
theorem pend_one {m : Am} (ok : m.Ok) {q : Int} {p : Nat} (hp : p < m.pend.length) (h1 : (m.pend[p]).1 = q) : ∀ (j : Nat) (hj : j < m.pend.length), (m.pend[j]).1 = q → j = p := fun j hj e => by
  have a1 : j < (m.pend.map (·.1)).length := by rw [List.length_map]; exact hj
  have a2 : p < (m.pend.map (·.1)).length := by rw [List.length_map]; exact hp
  have hpw := List.pairwise_iff_getElem.1 ok.pn
  rcases Nat.lt_trichotomy j p with c | c | c
  · exact absurd (by rw [List.getElem_map, List.getElem_map, e, h1]) (hpw j p a1 a2 c)
  · exact c
  · exact absurd (by rw [List.getElem_map, List.getElem_map, e, h1]) (hpw p j a2 a1 c)
def AskRow (w : World) (ov v : Value) (xs : List Int) : Prop := Sl w v xs ∧ ∀ k, v.ownBlock = some k → ov.ownBlock ≠ some k ∧ k < w.heap.size
/-- One row more. -/
theorem row_app {wd : World} {base : Nat} {v : Value} {vs : List Value} (h : Qu wd base 22 v vs) (hb : base ≤ wd.heap.size) (hn : vs.length ≤ 1000) (a : Option Addr) (n c : Nat) :
    ∃ v' w2, (∀ ty, (Builtin.append_ #[45, 45] ty #[v, .slice (some ⟨wd.heap.size, 0, none⟩) 1 1]).run Tryz.prog (wd.alloc (.cells #[.slice a n c] 22)) = .ok v' w2) ∧ Qu w2 base 22 v' (vs ++ [.slice a n c]) ∧ Touch v.ownBlock.toList wd w2 ∧ ∀ k, v'.ownBlock = some k → v.ownBlock = some k ∨ wd.heap.size ≤ k := by
  obtain ⟨i0, hi, hz0, hz1, hz2⟩ := infoR
  have ta : Touch [] wd (wd.alloc (.cells #[.slice a n c] 22)) := (Touch.refl _ _).alloc _
  have hsz := ta.size
  have hB : Blk (wd.alloc (.cells #[.slice a n c] 22)) wd.heap.size #[.slice a n c] 22 := Blk.new rfl
  obtain ⟨v', w2, r1, A2, g2, o2⟩ := Qu.append (t := 45) Tryz.underlying45 hi hz0 hz1 hz2 rfl (Qu.alloc h (.cells #[.slice a n c] 22)) (by omega) ⟨wd.heap.size, 0, none⟩ 1 (.slice a n c) (hB.cell (i := 0) rfl) rfl (by omega) (by omega)
  exact ⟨v', w2, r1, A2, ((Touch.refl v.ownBlock.toList wd).alloc _).grown g2 (fun k hk _ => by simp [hk]), fun k hk => by
    rcases o2 k hk with e | e
    · exact .inl e
    · exact .inr (by omega)⟩
set_option maxRecDepth 100000 in
set_option maxHeartbeats 16000000 in
theorem rasks_any (w : World) (F : List Nat) (b : Nat) (m : Am) (r : RaV) (h : Ra w F b m.rc r) (ok : m.Ok) :
    Calls Tryz.prog 61 #[.pointer (some ⟨b, 0, none⟩)] w fun e w' => ∃ v, e = .returned v ∧ Rws w' v m.asks ∧ Touch [] w w' := by
  have HRA := Lib.hid h
  have HOK := Lib.hid ok
  obtain ⟨L, hL⟩ : ∃ L, m.ps.length = L := ⟨_, rfl⟩
  have HL := Lib.hid hL
  have hL32 : L ≤ 32 := by rw [← hL]; exact ok.few
  obtain ⟨n, hn⟩ : ∃ n, m.tot.length = n := ⟨_, rfl⟩
  have HN := Lib.hid hn
  have hn6 : n ≤ 6 := by rw [← hn]; exact ok.nt
  obtain ⟨P, hP⟩ : ∃ P, m.pend.length = P := ⟨_, rfl⟩
  have HPL := Lib.hid hP
  have hP32 : P ≤ 32 := by rw [← hP]; exact pend_few ok
  obtain ⟨pa, pc, hpv⟩ : ∃ a c, r.pv = .slice a L c := by obtain ⟨a, c, e⟩ := h.ps.im.1.form; exact ⟨a, c, by rw [← hL]; exact e⟩
  obtain ⟨ta, tc, htv⟩ : ∃ a c, r.tv = .slice a n c := by obtain ⟨a, c, e⟩ := h.tot.1.form; exact ⟨a, c, by rw [← hn]; exact e⟩
  obtain ⟨qa, qc, hqv⟩ : ∃ a c, r.qv = .slice a P c := by obtain ⟨⟨base, hpe⟩, _⟩ := h.pd; obtain ⟨a, c, e, _⟩ := hpe.form; exact ⟨a, c, by rw [← hP]; exact e⟩
  have HQV := Lib.hid hqv
  have HX : Hid (∀ w', Touch [] w w' → w'.cell? ⟨b, 0, none⟩ = some (.slice ta n tc) ∧ w'.cell? ⟨b, 3, none⟩ = some (.slice pa L pc) ∧ w'.cell? ⟨b, 6, none⟩ = some (.slice qa P qc) ∧ Sl w' (.slice pa L pc) m.ps) := Lib.hid (fun w' ht => by
    have ho := h.obj.touch ht (by simp)
    refine ⟨by rw [← htv]; exact ho.cell (i := 0) rfl, by rw [← hpv]; exact ho.cell (i := 3) rfl, by rw [← hqv]; exact ho.cell (i := 6) rfl, ?_⟩
    rw [← hpv]
    exact h.ps.im.1.touch ht (fun _ _ => by simp))
  have HLB0 := Lib.hid ((Lb.start 22 (Touch.refl [] w)).empty (n := w.heap.size) rfl)
  clear h ok hL hn hP hpv htv hqv
  go_enter Tryz.func61, Tryz.ntmps61
  go_wp2_with fail
  go_loopw [3, 4] (fun ov iv wr => ∃ (j : Nat) (vs : List Value), j ≤ L ∧ iv = .int .i64 (j : Int) ∧ Lb 22 w wr ov vs none none ∧ vs.length = j ∧ ∀ i, i < j → AskRow wr ov (vs.getD i (.slice none 0 0)) (askOf m.zero m.pend (m.ps.getD i 0))) (fun _ iv _ => L + 1 - (intOf iv).toNat)
  case atStart => exact ⟨0, [], by omega, rfl, HLB0.out, rfl, fun i hi => by omega⟩
  case round =>
    clear HLB0
    obtain ⟨j, vs, hj, rfl, hlb, hvl, hrows⟩ := hrel
    have HLB := Lib.hid hlb
    have HRO := Lib.hid (And.intro hvl hrows)
    obtain ⟨oa, on_, oc, rfl⟩ : ∃ a n c, u3 = .slice a n c := by obtain ⟨a, c, e, _⟩ := hlb.a.shape; exact ⟨a, _, c, e⟩
    obtain ⟨x0, x3, x6, xs⟩ := HX.out wr hlb.t
    by_cases hk : j < L
    · have hlt : (j : Int) < (L : Int) := by omega
      have t1 : Touch [] wr (wr.alloc (.cells (rowA (fun _ => 0) n) 3)) := (Touch.refl [] wr).alloc _
      obtain ⟨z0, z3, z6, zs⟩ := HX.out _ (hlb.t.trans t1)
      obtain ⟨q, hq⟩ : ∃ q, m.ps.getD j 0 = q := ⟨_, rfl⟩
      have HQ := Lib.hid hq
      obtain ⟨g, off, hg, xo⟩ := zs.ix (q := j) (by rw [HL.out]; exact hk)
      cases hg
      have x1 := xo _ (Touch.refl _ _)
      rw [hq] at x1
      have hmk := run_mk_of (P := Tryz.prog) 22 3 Tryz.underlying22 (by kernel_rfl) n (by omega) wr
      have HZN := Lib.hid (zero_new n hn6 wr)
      have HWT := Lib.hid (rwait_any _ F b m.rc r q (HRA.out.same (hlb.t.trans t1)) (by show m.pend.length ≤ 1000; have := HPL.out; omega))
      have HLB1 := Lib.hid (hlb.same t1)
      have HT1 := Lib.hid t1
      clear hlb hvl hrows xo xs zs t1 hq
      go_wp2_with fail
      refine HWT.out.mono ?_
      rintro e w2 ⟨k1, rfl, hk1, hw2⟩
      have hk1 : FirstQ m.pend q k1 := hk1
      subst hw2
      have HK1 := Lib.hid hk1
      clear hk1 HWT x1 hmk x0 x3 x6
      go_upto_if 33 with fail
      go_cut [5] from 8 to 45 (fun v5 wx => (∃ a n c, v5 = .slice a n c) ∧ wr.alloc (.cells (rowA (fun _ => 0) n) 3) = wx ∧ AskRow (wr.alloc (.cells (rowA (fun _ => 0) n) 3)) (.slice oa on_ oc) v5 (askOf m.zero m.pend q))
      case first =>
        rcases firstQ_no HK1.out with ⟨hk1e, hno⟩ | ⟨p, hk1e, hpl, hpq⟩
        · subst hk1e
          have HF : Hid (AskRow (wr.alloc (.cells (rowA (fun _ => 0) n) 3)) (.slice oa on_ oc) (.slice (some ⟨wr.heap.size, 0, none⟩) n n) (askOf m.zero m.pend q)) := Lib.hid (by
            rw [askOf_none q m.pend m.zero hno]
            refine ⟨by unfold Am.zero; rw [HN.out]; exact HZN.out, fun k hk => ?_⟩
            simp [Value.ownBlock] at hk
            subst hk
            refine ⟨fun e => ?_, by simp⟩
            have := (HLB.out.a.own _ e).2
            omega)
          clear hno
          go_wp2_with fail
          go_meet
          case rel => exact ⟨⟨_, _, _, rfl⟩, rfl, HF.out⟩
        · subst hk1e
          have hge : ¬ ((p : Nat) : Int) < 0 := by omega
          have hpq2 : (m.pend[p]).1 = q := by simpa [hpl] using hpq
          have hao := askOf_at q m.pend m.zero p hpl hpq2 (pend_one HOK.out hpl hpq2)
          have hra := HRA.out.same (HLB.out.t.trans HT1.out)
          obtain ⟨⟨base, hpe⟩, _, hpu⟩ := hra.pd
          have hpe : Av (wr.alloc (.cells (rowA (fun _ => 0) n) 3)) base 74 2 r.qv m.pend.length (askF m.pend r.qu) := hpe
          rw [HQV.out, HPL.out] at hpe
          obtain ⟨g0, cap, e, _, _, _, _, hc, _, _⟩ := hpe.at (i := p) (by have := HPL.out; omega)
          cases e
          have him : Im (wr.alloc (.cells (rowA (fun _ => 0) n) 3)) F [b] (r.qu p) (m.pend.getD p (0, [])).2 := hpu p hpl
          obtain ⟨ua, un, uc, hue⟩ := im_form him
          have d1 : (wr.alloc (.cells (rowA (fun _ => 0) n) 3)).cell? ⟨g0, p * 2 + 1, none⟩ = some (.slice ua un uc) := by rw [← hue]; exact hc 1 (by omega)
          have hpP : (p : Int) < (P : Int) := by have := HPL.out; omega
          have HF : Hid (AskRow (wr.alloc (.cells (rowA (fun _ => 0) n) 3)) (.slice oa on_ oc) (.slice ua un uc) (askOf m.zero m.pend q)) := Lib.hid (by
            rw [hao, ← hue]
            refine ⟨by have := him.1; rwa [show m.pend.getD p (0, []) = m.pend[p] from by simp [hpl]] at this, fun k hk => ?_⟩
            have h1 := HRA.out.lt k (him.2 k hk).1
            have h2 := (HLB.out.t.trans HT1.out).size
            exact ⟨fun e => by have := (HLB.out.a.own _ e).1; omega, by omega⟩)
          clear hao hra hpe hpu him hue hc hpq hpq2
          go_wp2_with fail
          go_meet
          case rel => exact ⟨⟨_, _, _, rfl⟩, rfl, HF.out⟩
      case rest =>
        obtain ⟨⟨va, vn, vc, rfl⟩, hwx, hrow⟩ := hcut
        rw [← hwx]
        clear hwx HK1 z0 z3 z6
        obtain ⟨W, hW⟩ : ∃ W, wr.alloc (.cells (rowA (fun _ => 0) n) 3) = W := ⟨_, rfl⟩
        rw [hW] at hrow HLB1 HT1 ⊢
        have HRW := Lib.hid hrow
        obtain ⟨v8, w8, hr8, hq8, ht8, ho8⟩ := row_app HLB1.out.a HLB1.out.t.size (by have := HRO.out.1; omega) va vn vc
        obtain ⟨ra, rn, rc, rfl⟩ : ∃ a n c, v8 = .slice a n c := by obtain ⟨a, c, e, _⟩ := hq8.shape; exact ⟨a, _, c, e⟩
        have HR8 := Lib.hid hr8
        have hnew : ∀ k, k ∈ (Value.slice oa on_ oc).ownBlock.toList → w.heap.size ≤ k := fun k hk => (HLB1.out.a.own k (Option.mem_toList.1 hk)).1
        have hb8 : Lb 22 w w8 (.slice ra rn rc) (vs ++ [Value.slice va vn vc]) none none := ⟨HLB1.out.t.transF ht8 (fun k hk hl => absurd hl (by have := hnew k hk; omega)), hq8, fun _ _ h => (by cases h), fun _ _ h => (by cases h)⟩
        have hmv : ∀ v xs, AskRow W (.slice oa on_ oc) v xs → AskRow w8 (.slice ra rn rc) v xs := fun v xs h => by
          refine ⟨h.1.touch ht8 (fun k hk hm => (h.2 k hk).1 (Option.mem_toList.1 hm)), fun k hk => ⟨fun e => ?_, Nat.lt_of_lt_of_le (h.2 k hk).2 ht8.size⟩⟩
          rcases ho8 k e with e2 | e2
          · exact (h.2 k hk).1 e2
          · have := (h.2 k hk).2; omega
        have hold : ∀ i, i < j → AskRow W (.slice oa on_ oc) (vs.getD i (.slice none 0 0)) (askOf m.zero m.pend (m.ps.getD i 0)) := fun i hi => by
          have h := HRO.out.2 i hi
          exact ⟨h.1.touch HT1.out (fun _ _ => by simp), fun k hk => ⟨(h.2 k hk).1, Nat.lt_of_lt_of_le (h.2 k hk).2 HT1.out.size⟩⟩
        have HF : Hid (Lb 22 w w8 (.slice ra rn rc) (vs ++ [Value.slice va vn vc]) none none ∧ (vs ++ [Value.slice va vn vc]).length = j + 1 ∧ ∀ i, i < j + 1 → AskRow w8 (.slice ra rn rc) ((vs ++ [Value.slice va vn vc]).getD i (.slice none 0 0)) (askOf m.zero m.pend (m.ps.getD i 0))) := Lib.hid ⟨hb8, by rw [List.length_append, HRO.out.1]; rfl, fun i hi => by
          by_cases e : i = j
          · subst e
            rw [show (vs ++ [Value.slice va vn vc]).getD i (.slice none 0 0) = .slice va vn vc from by rw [List.getD_eq_getElem?_getD, List.getElem?_append_right (by rw [HRO.out.1]; exact Nat.le_refl _), HRO.out.1]; simp, HQ.out]
            exact hmv _ _ hrow
          · rw [show (vs ++ [Value.slice va vn vc]).getD i (.slice none 0 0) = vs.getD i (.slice none 0 0) from by rw [List.getD_eq_getElem?_getD, List.getD_eq_getElem?_getD, List.getElem?_append_left (by rw [HRO.out.1]; omega)]]
            exact hmv _ _ (hold i (by omega))⟩
        clear hr8 hb8 hrow hW HZN hq8 ht8 ho8 hnew hmv hold
        go_wp2_with (at_builtin; refine Lib.wpList_append_run _ rfl _ _ _ _ rfl _ _ rfl rfl _ _ (HR8.out _) ?_)
        go_roundw
        case rel => exact ⟨j + 1, _, by omega, by go_num, HF.out.1, HF.out.2.1, HF.out.2.2⟩
        case measure => simp [intOf]; omega
    · have hlt : ¬ (j : Int) < (L : Int) := by omega
      have hjL : j = L := by omega
      have HF : Hid (Rws wr (.slice oa on_ oc) m.asks) := Lib.hid (HLB.out.a.rws (by rw [HRO.out.1, hjL]; simp [Am.asks, HL.out]) (fun i hi => by
        have hi2 : i < m.ps.length := by simpa [Am.asks] using hi
        have := (HRO.out.2 i (by rw [hjL, ← HL.out]; exact hi2)).1
        rw [show rw_ m.asks i = askOf m.zero m.pend (m.ps.getD i 0) from by simp [rw_, Am.asks, hi2]]
        exact this))
      have HTT := Lib.hid HLB.out.t
      clear hlb hvl hrows xs
      go_wp2_with fail
      go_ret
      exact ⟨_, rfl, HF.out, HTT.out⟩
end Go.Proofs.YticglfmmjgnicaaGreat

set_option linter.unusedVariables false
namespace Go.Proofs.YticglfmmjgnicaaGreat
open Go Go.RowKit

set_option maxRecDepth 100000 in
set_option maxHeartbeats 8000000 in
theorem rasafe_any (w : World) (F : List Nat) (b : Nat) (m : Am) (r : RaV) (h : Ra w F b m.rc r) :
    Calls Tryz.prog 48 #[.pointer (some ⟨b, 0, none⟩)] w fun e w' => e = .returned (.bool m.safe) ∧ Touch [] w w' := by
  have HX : Hid (∀ w', Touch [] w w' → w'.cell? ⟨b, 1, none⟩ = some r.av ∧ w'.cell? ⟨b, 4, none⟩ = some r.hv ∧ w'.cell? ⟨b, 5, none⟩ = some r.cv ∧ Sl w' r.av m.avl ∧ Rws w' r.hv m.hs ∧ Rws w' r.cv m.cs) := Lib.hid (fun w' ht => by
    have ho := (h.same ht)
    exact ⟨ho.obj.cell (i := 1) rfl, ho.obj.cell (i := 4) rfl, ho.obj.cell (i := 5) rfl, ho.av.1, ho.hs.rws, ho.cs.rws⟩)
  obtain ⟨av, hav⟩ : ∃ x, r.av = x := ⟨_, rfl⟩
  obtain ⟨hv, hhv⟩ : ∃ x, r.hv = x := ⟨_, rfl⟩
  obtain ⟨cv, hcv⟩ : ∃ x, r.cv = x := ⟨_, rfl⟩
  rw [hav, hhv, hcv] at HX
  clear h hav hhv hcv
  go_enter Tryz.func48, Tryz.ntmps48
  have x1 : ∀ p : Later w, p.world.cell? ⟨b, 1, none⟩ = some av := fun p => (HX.out _ p.ok).1
  have x4 : ∀ p : Later w, p.world.cell? ⟨b, 4, none⟩ = some hv := fun p => (HX.out _ p.ok).2.1
  have x5 : ∀ p : Later w, p.world.cell? ⟨b, 5, none⟩ = some cv := fun p => (HX.out _ p.ok).2.2.1
  go_upto_region 1 with fail
  refine wp_region_later (by kernel_rfl) (by kernel_rfl) ?_
  repeat (first
    | (go_big_quiet_step ((first | (with_reducible rfl) | exact Later.met (rsafe_any av hv cv m.avl m.hs m.cs m.safe _ (HX.out _ (Later.ok _)).2.2.2.1 (HX.out _ (Later.ok _)).2.2.2.2.1 (HX.out _ (Later.ok _)).2.2.2.2.2 rfl))))
    | (quiet_step (fail)))
  refine wpQuiet_nil ?_
  intro wq hw'
  obtain ⟨⟨wq', hwq⟩, hwe⟩ := hw'
  have hwe : wq = wq' := hwe
  subst hwe
  have HT := Lib.hid hwq
  clear hwe hwq x1 x4 x5
  go_wp2_with fail
  go_ret
  exact ⟨rfl, HT.out⟩
set_option maxRecDepth 100000 in
set_option maxHeartbeats 16000000 in
theorem rastuck_any (w : World) (F : List Nat) (b : Nat) (m : Am) (r : RaV) (h : Ra w F b m.rc r) (ok : m.Ok) :
    Calls Tryz.prog 33 #[.pointer (some ⟨b, 0, none⟩)] w (Own m.stuck w) := by
  have HRA := Lib.hid h
  obtain ⟨L, hL⟩ : ∃ L, m.ps.length = L := ⟨_, rfl⟩
  have HL := Lib.hid hL
  have hL32 : L ≤ 32 := by rw [← hL]; exact ok.few
  obtain ⟨pa, pc, hpv⟩ : ∃ a c, r.pv = .slice a L c := by obtain ⟨a, c, e⟩ := h.ps.im.1.form; exact ⟨a, c, by rw [← hL]; exact e⟩
  have HX0 : Hid (∀ w', Touch [] w w' → w'.cell? ⟨b, 1, none⟩ = some r.av ∧ w'.cell? ⟨b, 4, none⟩ = some r.hv ∧ w'.cell? ⟨b, 3, none⟩ = some (.slice pa L pc) ∧ Sl w' r.av m.avl ∧ Rws w' r.hv m.hs ∧ Sl w' (.slice pa L pc) m.ps) := Lib.hid (fun w' ht => by
    have ho := (h.same ht)
    exact ⟨ho.obj.cell (i := 1) rfl, ho.obj.cell (i := 4) rfl, by rw [← hpv]; exact ho.obj.cell (i := 3) rfl, ho.av.1, ho.hs.rws, by rw [← hpv]; exact ho.ps.im.1⟩)
  have HASK : Hid (∀ w', Touch [] w w' → Calls Tryz.prog 61 #[.pointer (some ⟨b, 0, none⟩)] w' fun e w'' => ∃ v, e = .returned v ∧ Rws w'' v m.asks ∧ Touch [] w' w'') := Lib.hid (fun w' ht => rasks_any w' F b m r (h.same ht) ok)
  obtain ⟨av, hav⟩ : ∃ x, r.av = x := ⟨_, rfl⟩
  obtain ⟨hv, hhv⟩ : ∃ x, r.hv = x := ⟨_, rfl⟩
  rw [hav, hhv] at HX0
  obtain ⟨rs, hrs⟩ : ∃ x, stuckL m.avl m.hs m.asks = x := ⟨_, rfl⟩
  have HSTK : Hid (∀ w' v, Touch [] w w' → Rws w' v m.asks → Calls Tryz.prog 60 #[av, hv, v] w' (Own rs w')) := Lib.hid (fun w' v ht hv => by
    have := rstuck_any av _ v m.avl m.hs m.asks w' (HX0.out w' ht).2.2.2.1 (HX0.out w' ht).2.2.2.2.1 hv
    rw [hrs] at this
    exact this)
  have HRS : Hid (m.stuck = rs.map (fun i => m.ps.getD i.toNat 0) ∧ rs.length ≤ L ∧ ∀ i, i ∈ rs → 0 ≤ i ∧ i < L) := Lib.hid ⟨by unfold Am.stuck; rw [hrs], by have := stuckL_len (xs := m.avl) (hs := m.hs) (qs := m.asks); rw [hrs] at this; simpa [Am.hs, HL.out] using this, fun i hi => by
    have := stuckL_mem (xs := m.avl) (hs := m.hs) (qs := m.asks) (by rw [hrs]; exact hi)
    simpa [Am.hs, HL.out] using this⟩
  have HX := HX0
  have HT := Lib.hid ((Touch.refl [] w).drew)
  clear h ok hL hpv hav hhv hrs
  go_enter Tryz.func33, Tryz.ntmps33
  go_upto_region 1 with fail
  refine wp_region_till (fun _ => True) (fun w' => Touch [] w w') [] (by kernel_rfl) ?_
  obtain ⟨wk, hwk⟩ : ∃ w', World.drew w = w' := ⟨_, rfl⟩
  rw [hwk] at HT ⊢
  clear hwk
  obtain ⟨nk, hsz⟩ : ∃ n, wk.heap.size = n := ⟨_, rfl⟩
  refine wpTill.takeT (i := 0) (v := ?v1) (some 6) rfl rfl (by kernel_rfl) (fun _ _ _ h => h) (Or.inl ⟨by rfl, ?hy1⟩) ⟨trivial, HT.out⟩ ?rest1
  case hy1 => (intro w hSw; obtain ⟨q1, q2, q3, q4, q5, q6⟩ := HX.out w hSw; go_simp; try with_reducible rfl)
  simp only [Act.put, List.setIfInBounds_toArray, List.set_cons_zero, List.set_cons_succ]
  refine wpTill.takeT (i := 1) (v := ?v2) (some 7) rfl rfl (by kernel_rfl) (fun _ _ _ h => h) (Or.inl ⟨by rfl, ?hy2⟩) ⟨trivial, HT.out⟩ ?rest2
  case hy2 => (intro w hSw; obtain ⟨q1, q2, q3, q4, q5, q6⟩ := HX.out w hSw; go_simp; try with_reducible rfl)
  simp only [Act.put, List.setIfInBounds_toArray, List.set_cons_zero, List.set_cons_succ]
  refine wpTill.takeT (i := 2) (v := ?v3) (some 8) rfl rfl (by kernel_rfl) (fun _ _ _ h => h) (Or.inl ⟨by rfl, ?hy3⟩) ⟨trivial, HT.out⟩ ?rest3
  case hy3 => (intro w hSw; obtain ⟨q1, q2, q3, q4, q5, q6⟩ := HX.out w hSw; go_simp; try with_reducible rfl)
  simp only [Act.put, List.setIfInBounds_toArray, List.set_cons_zero, List.set_cons_succ]
  refine wpTill.takeT (i := 3) (v := ?v4) (some 9) rfl rfl (by kernel_rfl) (fun _ _ _ h => h) (Or.inl ⟨by rfl, ?hy4⟩) ⟨trivial, HT.out⟩ ?rest4
  case hy4 => (intro w hSw; obtain ⟨q1, q2, q3, q4, q5, q6⟩ := HX.out w hSw; go_simp; try with_reducible rfl)
  simp only [Act.put, List.setIfInBounds_toArray, List.set_cons_zero, List.set_cons_succ]
  refine wpTill.takeT (i := 4) (v := ?v5) (some 10) rfl rfl (by kernel_rfl) (fun _ _ _ h => h) (Or.inl ⟨by rfl, ?hy5⟩) ⟨trivial, HT.out⟩ ?rest5
  case hy5 => (intro w hSw; obtain ⟨q1, q2, q3, q4, q5, q6⟩ := HX.out w hSw; go_simp; try with_reducible rfl)
  simp only [Act.put, List.setIfInBounds_toArray, List.set_cons_zero, List.set_cons_succ]
  refine wpTill.takeT (i := 5) (v := ?v6) (some 11) rfl rfl (by kernel_rfl) (fun _ _ _ h => h) (Or.inl ⟨by rfl, ?hy6⟩) ⟨trivial, HT.out⟩ ?rest6
  case hy6 => (intro w hSw; obtain ⟨q1, q2, q3, q4, q5, q6⟩ := HX.out w hSw; go_simp; try with_reducible rfl)
  simp only [Act.put, List.setIfInBounds_toArray, List.set_cons_zero, List.set_cons_succ]
  refine wpTill.takeT (i := 6) (v := ?v7) (some 12) rfl rfl (by kernel_rfl) (fun _ _ _ h => h) (Or.inl ⟨by rfl, ?hy7⟩) ⟨trivial, HT.out⟩ ?rest7
  case hy7 => (intro w hSw; obtain ⟨q1, q2, q3, q4, q5, q6⟩ := HX.out w hSw; go_simp; try with_reducible rfl)
  simp only [Act.put, List.setIfInBounds_toArray, List.set_cons_zero, List.set_cons_succ]
  refine wpTill.takeT (i := 7) (v := ?v8) (some 13) rfl rfl (by kernel_rfl) (fun _ _ _ h => h) (Or.inl ⟨by rfl, ?hy8⟩) ⟨trivial, HT.out⟩ ?rest8
  case hy8 => (intro w hSw; obtain ⟨q1, q2, q3, q4, q5, q6⟩ := HX.out w hSw; go_simp; try with_reducible rfl)
  simp only [Act.put, List.setIfInBounds_toArray, List.set_cons_zero, List.set_cons_succ]
  refine wpTill.takeT (i := 8) (v := ?v9) (some 14) rfl rfl (by kernel_rfl) (fun _ _ _ h => h) (Or.inl ⟨by rfl, ?hy9⟩) ⟨trivial, HT.out⟩ ?rest9
  case hy9 => (intro w hSw; obtain ⟨q1, q2, q3, q4, q5, q6⟩ := HX.out w hSw; go_simp; try with_reducible rfl)
  simp only [Act.put, List.setIfInBounds_toArray, List.set_cons_zero, List.set_cons_succ]
  refine wpTill.ready (rs := [9]) (by kernel_rfl) (by simp) ?_
  refine AllTill.cons (i := 9) (rs := []) (by rfl) (fun K hK => ?_) ?_
  · go_simp
    go_at_call 61
    refine (HASK.out _ HT.out).mono ?_
    rintro e wk ⟨va, rfl, hra, ht7⟩
    clear hsz
    have HRW : Hid (∀ w', Touch [] wk w' → Rws w' va m.asks) := Lib.hid (fun w' ht => hra.touch ht)
    have HT := Lib.hid (HT.out.trans ht7)
    have HT0 := Lib.hid (Touch.refl [] wk)
    clear hra ht7
    obtain ⟨nk, hsz⟩ : ∃ n, wk.heap.size = n := ⟨_, rfl⟩
    simp only [Act.put, List.setIfInBounds_toArray, List.set_cons_zero, List.set_cons_succ]
    refine hK.out _ _ trivial (fun _ => HT.out) ?_
    clear hK K
    refine wpTill.ready (rs := [10]) (by kernel_rfl) (by simp) ?_
    refine AllTill.cons (i := 10) (rs := []) (by rfl) (fun K hK => ?_) ?_
    · go_simp
      go_at_call 60
      refine (HSTK.out _ _ HT.out (HRW.out _ HT0.out)).mono ?_
      rintro e wk ⟨v7, rfl, hq7, ht7⟩
      clear hsz
      obtain ⟨la, ln, lc, rfl⟩ : ∃ a n c, v7 = Value.slice a n c := (by obtain ⟨a, c, e, _⟩ := hq7.shape; exact ⟨a, _, c, e⟩)
      have HQ7 : Hid (Qu wk w.heap.size 3 (.slice la ln lc) (rs.map (Value.int .i64))) := Lib.hid (hq7.mono HT.out.size)
      have HT := Lib.hid (HT.out.trans ht7)
      clear hq7 ht7
      obtain ⟨nk, hsz⟩ : ∃ n, wk.heap.size = n := ⟨_, rfl⟩
      simp only [Act.put, List.setIfInBounds_toArray, List.set_cons_zero, List.set_cons_succ]
      refine hK.out _ _ trivial (fun _ => HT.out) ?_
      clear hK K
      refine wpTill.takeT (i := 11) (v := ?v10) (some 3) rfl rfl (by kernel_rfl) (fun _ _ _ h => h) (Or.inl ⟨by rfl, ?hy10⟩) ⟨trivial, HT.out⟩ ?rest10
      case hy10 => (intro w hSw; obtain ⟨q1, q2, q3, q4, q5, q6⟩ := HX.out w hSw; go_simp; try with_reducible rfl)
      simp only [Act.put, List.setIfInBounds_toArray, List.set_cons_zero, List.set_cons_succ]
      refine wpTill.done (by kernel_rfl) ?_ _
      clear HASK HSTK hsz
      obtain ⟨R, hR⟩ : ∃ R, rs.length = R := ⟨_, rfl⟩
      have HRL := Lib.hid hR
      have hR32 : R ≤ 32 := by have := HRS.out.2.1; omega
      obtain rfl : R = ln := by obtain ⟨a, c, e⟩ := HQ7.out.form; cases e; rw [← hR]
      clear hR
      obtain ⟨W1, hW1⟩ : ∃ W1, wk = W1 := ⟨_, rfl⟩
      rw [hW1] at HQ7 HT ⊢
      clear hW1
      have HLB0 := Lib.hid ((Lb.start 3 (Touch.refl [] W1)).empty (n := W1.heap.size) rfl)
      have HT1 := HT
      have HXB := HX0
      clear HT HX HX0
      go_wp2_with fail
      go_loopw [4, 5] (fun ov iv wr => ∃ i : Nat, i ≤ R ∧ iv = .int .i64 (i : Int) ∧ Lb 3 W1 wr ov (((rs.take i).map (fun i => m.ps.getD i.toNat 0)).map (Value.int .i64)) none none) (fun _ iv _ => R + 1 - (intOf iv).toNat)
      case atStart => exact ⟨0, by omega, rfl, HLB0.out⟩
      case round =>
        clear HLB0
        obtain ⟨i, hi, rfl, hlb⟩ := hrel
        have HLB := Lib.hid hlb
        obtain ⟨oa, on_, oc, rfl⟩ : ∃ a n c, u4 = .slice a n c := by obtain ⟨a, c, e, _⟩ := hlb.a.shape; exact ⟨a, _, c, e⟩
        by_cases hiR : i < R
        · have hlt : (i : Int) < (R : Int) := by omega
          have hir : i < rs.length := by rw [HRL.out]; exact hiR
          have hmem := HRS.out.2.2 (rs.getD i 0) (by rw [show rs.getD i 0 = rs[i] from by simp [hir]]; exact List.getElem_mem hir)
          obtain ⟨c, hc⟩ : ∃ c : Nat, rs.getD i 0 = (c : Int) := ⟨(rs.getD i 0).toNat, by omega⟩
          have hck : c < L := by omega
          have hckI : (c : Int) < (L : Int) := by omega
          obtain ⟨gr, offr, era, hxr⟩ := HQ7.out.sl.ix (q := i) hir
          obtain ⟨gp, offp, epa, hxp⟩ := (HXB.out W1 HT1.out).2.2.2.2.2.ix (q := c) (by rw [HL.out]; exact hck)
          cases era
          cases epa
          obtain ⟨q, hq2⟩ : ∃ q, m.ps.getD c 0 = q := ⟨_, rfl⟩
          have HX : Hid (∀ w', Touch [] W1 w' → w'.cell? ⟨gr, offr + i, none⟩ = some (.int .i64 (c : Int)) ∧ w'.cell? ⟨gp, offp + c, none⟩ = some (.int .i64 q) ∧ w'.cell? ⟨b, 3, none⟩ = some (.slice (some ⟨gp, offp, none⟩) L pc)) := Lib.hid (fun w' ht => ⟨by rw [← hc]; exact hxr w' ht, by rw [← hq2]; exact hxp w' ht, (HXB.out w' (HT1.out.trans ht)).2.2.1⟩)
          have htk : (rs.take (i + 1)).map (fun i => m.ps.getD i.toNat 0) = (rs.take i).map (fun i => m.ps.getD i.toNat 0) ++ [q] := by
            rw [List.take_succ_eq_append_getElem hir, List.map_append, show rs[i] = (c : Int) from by rw [← hc]; simp [hir]]
            simp only [List.map_cons, List.map_nil, Int.toNat_natCast, hq2]
          have HTK := Lib.hid htk
          have HIR := Lib.hid hiR
          have HT := Lib.hid hlb.t.drew
          have HLB := Lib.hid (hlb.same ((Touch.refl [] wr).drew))
          clear hlb hmem hc hxr hxp hq2 htk
          go_upto_region 6 with fail
          refine wp_region_till (fun _ => True) (fun w' => Touch [] W1 w') [] (by kernel_rfl) ?_
          obtain ⟨wk, hwk⟩ : ∃ w', wr.drew = w' := ⟨_, rfl⟩
          rw [hwk] at HLB HT ⊢
          clear hwk
          obtain ⟨nk, hsz⟩ : ∃ n, wk.heap.size = n := ⟨_, rfl⟩
          refine wpTill.takeT (i := 0) (v := ?v1001) (some 24) rfl rfl (by kernel_rfl) (fun _ _ _ h => h) (Or.inl ⟨by rfl, ?hy1001⟩) ⟨trivial, HT.out⟩ ?rest1001
          case hy1001 => (intro w hSw; obtain ⟨q1, q2, q3⟩ := HX.out w hSw; go_simp; try with_reducible rfl)
          simp only [Act.put, List.setIfInBounds_toArray, List.set_cons_zero, List.set_cons_succ]
          refine wpTill.takeT (i := 1) (v := ?v1002) (some 25) rfl rfl (by kernel_rfl) (fun _ _ _ h => h) (Or.inl ⟨by rfl, ?hy1002⟩) ⟨trivial, HT.out⟩ ?rest1002
          case hy1002 => (intro w hSw; obtain ⟨q1, q2, q3⟩ := HX.out w hSw; go_simp; try with_reducible rfl)
          simp only [Act.put, List.setIfInBounds_toArray, List.set_cons_zero, List.set_cons_succ]
          refine wpTill.takeT (i := 2) (v := ?v1003) (some 26) rfl rfl (by kernel_rfl) (fun _ _ _ h => h) (Or.inl ⟨by rfl, ?hy1003⟩) ⟨trivial, HT.out⟩ ?rest1003
          case hy1003 => (intro w hSw; obtain ⟨q1, q2, q3⟩ := HX.out w hSw; go_simp; try with_reducible rfl)
          simp only [Act.put, List.setIfInBounds_toArray, List.set_cons_zero, List.set_cons_succ]
          refine wpTill.takeT (i := 3) (v := ?v1004) (some 27) rfl rfl (by kernel_rfl) (fun _ _ _ h => h) (Or.inl ⟨by rfl, ?hy1004⟩) ⟨trivial, HT.out⟩ ?rest1004
          case hy1004 => (intro w hSw; obtain ⟨q1, q2, q3⟩ := HX.out w hSw; go_simp; try with_reducible rfl)
          simp only [Act.put, List.setIfInBounds_toArray, List.set_cons_zero, List.set_cons_succ]
          refine wpTill.takeT (i := 4) (v := ?v1005) (some 28) rfl rfl (by kernel_rfl) (fun _ _ _ h => h) (Or.inl ⟨by rfl, ?hy1005⟩) ⟨trivial, HT.out⟩ ?rest1005
          case hy1005 => (intro w hSw; obtain ⟨q1, q2, q3⟩ := HX.out w hSw; go_simp; try with_reducible rfl)
          simp only [Act.put, List.setIfInBounds_toArray, List.set_cons_zero, List.set_cons_succ]
          refine wpTill.takeT (i := 5) (v := ?v1006) (some 29) rfl rfl (by kernel_rfl) (fun _ _ _ h => h) (Or.inl ⟨by rfl, ?hy1006⟩) ⟨trivial, HT.out⟩ ?rest1006
          case hy1006 => (intro w hSw; obtain ⟨q1, q2, q3⟩ := HX.out w hSw; go_simp; try with_reducible rfl)
          simp only [Act.put, List.setIfInBounds_toArray, List.set_cons_zero, List.set_cons_succ]
          refine wpTill.takeT (i := 6) (v := ?v1007) (some 30) rfl rfl (by kernel_rfl) (fun _ _ _ h => h) (Or.inl ⟨by rfl, ?hy1007⟩) ⟨trivial, HT.out⟩ ?rest1007
          case hy1007 => (intro w hSw; obtain ⟨q1, q2, q3⟩ := HX.out w hSw; go_simp; try with_reducible rfl)
          simp only [Act.put, List.setIfInBounds_toArray, List.set_cons_zero, List.set_cons_succ]
          refine wpTill.takeT (i := 7) (v := ?v1008) (some 31) rfl rfl (by kernel_rfl) (fun _ _ _ h => h) (Or.inl ⟨by rfl, ?hy1008⟩) ⟨trivial, HT.out⟩ ?rest1008
          case hy1008 => (intro w hSw; obtain ⟨q1, q2, q3⟩ := HX.out w hSw; go_simp; try with_reducible rfl)
          simp only [Act.put, List.setIfInBounds_toArray, List.set_cons_zero, List.set_cons_succ]
          refine wpTill.takeT (i := 8) (v := ?v1009) (some 32) rfl rfl (by kernel_rfl) (fun _ _ _ h => h) (Or.inl ⟨by rfl, ?hy1009⟩) ⟨trivial, HT.out⟩ ?rest1009
          case hy1009 => (intro w hSw; obtain ⟨q1, q2, q3⟩ := HX.out w hSw; go_simp; try with_reducible rfl)
          simp only [Act.put, List.setIfInBounds_toArray, List.set_cons_zero, List.set_cons_succ]
          refine wpTill.takeT (i := 9) (v := ?v1010) (some 33) rfl rfl (by kernel_rfl) (fun _ _ _ h => h) (Or.inl ⟨by rfl, ?hy1010⟩) ⟨trivial, HT.out⟩ ?rest1010
          case hy1010 => (intro w hSw; obtain ⟨q1, q2, q3⟩ := HX.out w hSw; go_simp; try with_reducible rfl)
          simp only [Act.put, List.setIfInBounds_toArray, List.set_cons_zero, List.set_cons_succ]
          refine wpTill.takeT (i := 10) (v := ?v1011) (some 34) rfl rfl (by kernel_rfl) (fun _ _ _ h => h) (Or.inl ⟨by rfl, ?hy1011⟩) ⟨trivial, HT.out⟩ ?rest1011
          case hy1011 => (intro w hSw; obtain ⟨q1, q2, q3⟩ := HX.out w hSw; go_simp; try with_reducible rfl)
          simp only [Act.put, List.setIfInBounds_toArray, List.set_cons_zero, List.set_cons_succ]
          refine wpTill.ready (rs := [11]) (by kernel_rfl) (by simp) ?_
          refine AllTill.cons (i := 11) (rs := []) (by rfl) (fun K hK => ?_) ?_
          · go_simp
            have HLB := Lib.hid (HLB.out.box (.int .i64 q) hsz.symm)
            have HT := Lib.hid HLB.out.t
            clear hsz
            obtain ⟨wk, hwk⟩ : ∃ w', wk.alloc (.cells #[.int .i64 q] 3) = w' := ⟨_, rfl⟩
            rw [hwk] at HLB HT ⊢
            clear hwk
            obtain ⟨nk, hsz⟩ : ∃ n, wk.heap.size = n := ⟨_, rfl⟩
            refine hK.out _ _ trivial (fun _ => HT.out) ?_
            clear hK K
            refine wpTill.ready (rs := [12]) (by kernel_rfl) (by simp) ?_
            refine AllTill.cons (i := 12) (rs := []) (by rfl) (fun K hK => ?_) ?_
            · obtain ⟨va, wk, hr, hB⟩ := HLB.out.appIB 1 rfl (by have := HRS.out.2.1; have := HRL.out; simp; omega)
              obtain ⟨xa, xn, xc, rfl⟩ : ∃ a n c, va = Value.slice a n c := (by obtain ⟨a, c, e, _⟩ := hB.a.shape; exact ⟨a, _, c, e⟩)
              refine step_append_run rfl _ _ _ _ rfl _ _ rfl rfl _ _ (hr _) ?_
              clear hsz
              have HLB := Lib.hid hB
              have HT := Lib.hid hB.t
              obtain ⟨nk, hsz⟩ : ∃ n, wk.heap.size = n := ⟨_, rfl⟩
              clear hr hB
              simp only [Act.put, List.setIfInBounds_toArray, List.set_cons_zero, List.set_cons_succ]
              refine hK.out _ _ trivial (fun _ => HT.out) ?_
              clear hK K
              refine wpTill.takeT (i := 13) (v := ?v1012) (some 4) rfl rfl (by kernel_rfl) (fun _ _ _ h => h) (Or.inl ⟨by rfl, ?hy1012⟩) ⟨trivial, HT.out⟩ ?rest1012
              case hy1012 => (intro w hSw; obtain ⟨q1, q2, q3⟩ := HX.out w hSw; go_simp; try with_reducible rfl)
              simp only [Act.put, List.setIfInBounds_toArray, List.set_cons_zero, List.set_cons_succ]
              refine wpTill.done (by kernel_rfl) ?_ _
              have HF := HLB.out
              rw [← List.map_singleton, ← List.map_append, ← HTK.out] at HF
              have HF := Lib.hid HF
              clear hsz
              go_wp2_with fail
              go_roundw
              case rel => exact ⟨i + 1, by have := HIR.out; omega, by go_num, HF.out⟩
              case measure => have := HIR.out; simp [intOf]; omega
            exact AllTill.nil
          exact AllTill.nil
        · have hlt : ¬ (i : Int) < (R : Int) := by omega
          obtain rfl : i = R := by omega
          have HFI : Hid (Own m.stuck w (.returned (.slice oa on_ oc)) wr) := Lib.hid (by
            have hq := hlb.a
            rw [List.take_of_length_le (by rw [HRL.out]; exact Nat.le_refl _), ← HRS.out.1] at hq
            exact ⟨_, rfl, hq.mono HT1.out.size, HT1.out.trans hlb.t⟩)
          clear hlb
          go_wp2_with fail
          go_ret
          exact HFI.out
    exact AllTill.nil
  exact AllTill.nil
def RNewP (w : World) (tot : List Int) (clm : Bool) (e : Ending) (w' : World) : Prop :=
  Touch [] w w' ∧ ((newB tot = false ∧ e = .returned (.tuple #[.pointer none, .int .i64 1])) ∨ (newB tot = true ∧ ∃ b F r, e = .returned (.tuple #[.pointer (some ⟨b, 0, none⟩), .int .i64 0]) ∧ Ra w' F b (Am.new tot clm).rc r ∧ ∀ k, k ∈ F → w.heap.size ≤ k))
theorem rnew_mem {w w1 w2 : World} {tot : List Int} {clm : Bool} {v1 v2 : Value} (t1 : Touch [] w w1) (h1 : Qu w1 w.heap.size 3 v1 (tot.map (Value.int .i64))) (t2 : Touch [] w1 w2) (h2 : Qu w2 w1.heap.size 3 v2 (tot.map (Value.int .i64))) :
    Ra (w2.alloc (.cells #[v1, v2, .bool clm, .slice none 0 0, .slice none 0 0, .slice none 0 0, .slice none 0 0] 48)) ([w2.heap.size] ++ (v1.ownBlock.toList ++ v2.ownBlock.toList)) w2.heap.size (Am.new tot clm).rc ⟨v1, v2, .slice none 0 0, .slice none 0 0, .slice none 0 0, .slice none 0 0, fun _ => .slice none 0 0⟩ ∧ ∀ k, k ∈ [w2.heap.size] ++ (v1.ownBlock.toList ++ v2.ownBlock.toList) → w.heap.size ≤ k := by
  have s1 := t1.size
  have s2 := t2.size
  have ta : Touch [] w2 (w2.alloc (.cells #[v1, v2, .bool clm, .slice none 0 0, .slice none 0 0, .slice none 0 0, .slice none 0 0] 48)) := (Touch.refl _ _).alloc _
  have o1 := h1.own
  have o2 := h2.own
  have hav : (Am.new tot clm).rc.avl = tot := avlL_nil tot _
  refine ⟨⟨Blk.new rfl, fun k hk => ?_, by simp, ⟨(h1.sl.touch t2 (fun _ _ => by simp)).touch ta (fun _ _ => by simp), fun k hk => ⟨by simp [hk], fun hm => ?_⟩⟩, ⟨by rw [hav]; exact h2.sl.touch ta (fun _ _ => by simp), fun k hk => ⟨by simp [hk], fun hm => ?_⟩⟩,
    ⟨⟨0, Qu.nil _ _ _⟩, fun k hk => by simp [Value.ownBlock] at hk⟩, ⟨[], rfl, fun k hk => by simp [Value.ownBlock] at hk, ⟨0, Qu.nil _ _ _⟩, fun i hi => by cases hi⟩, ⟨[], rfl, fun k hk => by simp [Value.ownBlock] at hk, ⟨0, Qu.nil _ _ _⟩, fun i hi => by cases hi⟩, ⟨⟨0, Av.nil _ _ _ _ _⟩, fun k hk => by simp [Value.ownBlock] at hk, fun i hi => by cases hi⟩⟩, fun k hk => ?_⟩
  · have s3 : (w2.alloc (.cells #[v1, v2, .bool clm, .slice none 0 0, .slice none 0 0, .slice none 0 0, .slice none 0 0] 48)).heap.size = w2.heap.size + 1 := by simp
    simp at hk
    rcases hk with e | e | e
    · omega
    · have := (o1 k e).2; omega
    · have := (o2 k e).2; omega
  · simp at hm
    have := (o1 k hk).2; omega
  · simp at hm
    have := (o2 k hk).2; omega
  · simp at hk
    rcases hk with e | e | e
    · omega
    · exact (o1 k e).1
    · have := (o2 k e).1; omega
set_option maxRecDepth 100000 in
set_option maxHeartbeats 8000000 in
theorem rnew_any (w : World) (v : Value) (tot : List Int) (clm : Bool) (h : Sl w v tot) (hl : tot.length ≤ 1000) : Calls Tryz.prog 12 #[v, .bool clm] w (RNewP w tot clm) := by
  obtain ⟨a, c, rfl⟩ := h.form
  obtain ⟨N, hN⟩ : ∃ N, tot.length = N := ⟨_, rfl⟩
  have HN := Lib.hid hN
  have hnb : newB tot = (decide (N ≤ 6) && isB tot (N : Int) && !decide ((0 : Int) ∈ tot)) := by rw [← hN]; rfl
  have HNB := Lib.hid hnb
  have HS := Lib.hid h
  rw [hN] at HS hl ⊢
  clear h hN hnb
  by_cases h6 : N ≤ 6
  · have hgt : ¬ (6 : Int) < (N : Int) := by omega
    obtain ⟨B, hB⟩ : ∃ B, isB tot (N : Int) = B := ⟨_, rfl⟩
    have HB := Lib.hid hB
    have H1 := Lib.hid (ris_q _ tot (N : Int) B w HS.out (by have := HN.out; omega) hB)
    obtain ⟨Z, hZ⟩ : ∃ Z, decide ((0 : Int) ∈ tot) = Z := ⟨_, rfl⟩
    have HZ := Lib.hid hZ
    have h2 := has_l (.slice a N c) tot 0 w HS.out (by have := HN.out; omega)
    rw [hZ] at h2
    have H2 := Lib.hid h2
    clear h2
    have H3 := Lib.hid (copy_any (.slice a N c) tot w HS.out (by rw [HN.out]; omega))
    have H4 : Hid (∀ w', Touch [] w w' → Calls Tryz.prog 43 #[.slice a N c] w' (Own tot w')) := Lib.hid (fun w' ht => copy_any (.slice a N c) tot w' (HS.out.touch ht (fun _ _ => by simp)) (by rw [HN.out]; omega))
    have HLE : Hid (decide (N ≤ 6) = true) := Lib.hid (dT h6)
    clear hB hZ
    go_enter Tryz.func12, Tryz.ntmps12
    go_wp2_with fail
    refine H1.out.mono ?_
    rintro e w1 ⟨rfl, rfl⟩
    cases B with
    | false =>
      have HF : Hid (RNewP w tot clm (.returned (.tuple #[.pointer none, .int .i64 1])) w) := Lib.hid ⟨Touch.refl _ _, .inl ⟨by rw [HNB.out, HB.out]; simp, rfl⟩⟩
      go_wp2_with fail
      go_ret2
      exact HF.out
    | true =>
      go_wp2_with fail
      refine H2.out.mono ?_
      rintro e w1 ⟨rfl, rfl⟩
      cases Z with
      | true =>
        have HF : Hid (RNewP w tot clm (.returned (.tuple #[.pointer none, .int .i64 1])) w) := Lib.hid ⟨Touch.refl _ _, .inl ⟨by rw [HNB.out, HZ.out]; simp, rfl⟩⟩
        go_wp2_with fail
        go_ret2
        exact HF.out
      | false =>
        have HT : Hid (newB tot = true) := Lib.hid (by rw [HNB.out, HZ.out, HB.out, HLE.out]; rfl)
        go_wp2_with fail
        refine H3.out.mono ?_
        rintro e w1 ⟨v1, rfl, hq1, t1⟩
        have HQ1 := Lib.hid (And.intro hq1 t1)
        obtain ⟨a1, n1, c1, rfl⟩ : ∃ a n c, v1 = Value.slice a n c := (by obtain ⟨a, c, e, _⟩ := hq1.shape; exact ⟨a, _, c, e⟩)
        clear hq1 t1
        go_wp2_with fail
        refine (H4.out w1 HQ1.out.2).mono ?_
        rintro e w2 ⟨v2, rfl, hq2, t2⟩
        obtain ⟨a2, n2, c2, rfl⟩ : ∃ a n c, v2 = Value.slice a n c := (by obtain ⟨a, c, e, _⟩ := hq2.shape; exact ⟨a, _, c, e⟩)
        have HM := Lib.hid (rnew_mem (clm := clm) HQ1.out.2 HQ1.out.1 t2 hq2)
        have HF : Hid (RNewP w tot clm (.returned (.tuple #[.pointer (some ⟨w2.heap.size, 0, none⟩), .int .i64 0])) (w2.alloc (.cells #[.slice a1 n1 c1, .slice a2 n2 c2, .bool clm, .slice none 0 0, .slice none 0 0, .slice none 0 0, .slice none 0 0] 48))) := Lib.hid ⟨(HQ1.out.2.trans t2).alloc _, .inr ⟨HT.out, _, _, _, rfl, HM.out.1, HM.out.2⟩⟩
        clear hq2 t2 HM
        go_wp2_with fail
        go_ret2
        exact HF.out
  · have hgt : (6 : Int) < (N : Int) := by omega
    have HF : Hid (RNewP w tot clm (.returned (.tuple #[.pointer none, .int .i64 1])) w) := Lib.hid ⟨Touch.refl _ _, .inl ⟨by rw [HNB.out, dF h6]; simp, rfl⟩⟩
    go_enter Tryz.func12, Tryz.ntmps12
    go_wp2_with fail
    go_ret2
    exact HF.out
end Go.Proofs.YticglfmmjgnicaaGreat

set_option linter.unusedVariables false
namespace Go.Proofs.YticglfmmjgnicaaGreat
open Go Go.RowKit

theorem map_upd {α : Type} (f : Int → List Int) (p : Int) (v : List Int) (l : List Int) (h : p ∉ l) : l.map (updF f p v) = l.map f := List.map_congr_left (fun q hq => updF_ne f v (fun e => h (e ▸ hq)))
/-- A process comes in: the reference, by the model. -/
theorem radmit_m (w : World) (F : List Nat) (b : Nat) (m : Am) (r : RaV) (q : Int) (v : Value) (u : List Int) (h : Ra w F b m.rc r) (ok : m.Ok) (hqi : InI q) (hu : Sl w v u) (hul : u.length ≤ 1000) (hv : u ≠ [] → ∀ k, v.ownBlock = some k → k ∉ F) :
    Calls Tryz.prog 44 #[.pointer (some ⟨b, 0, none⟩), .int .i64 q, v] w fun e w' => e = .returned (.int .i64 (m.cAdmit q u).2) ∧ Up w F b (m.cAdmit q u).1.rc w' := by
  refine (radmit_any w F b m.rc r q v u h hqi hu hul hv ok.nt ok.few (by simp [Am.rc, Am.hs]) (by simp [Am.rc, Am.cs])).mono ?_
  intro e w' hp
  unfold AdmP at hp
  have e0 : m.rc.tot = m.tot := rfl
  have e1 : m.rc.ps = m.ps := rfl
  have e2 : m.rc.clm = m.clm := rfl
  have e3 : m.rc.hs = m.ps.map m.held := rfl
  have e4 : m.rc.cs = m.ps.map m.claim := rfl
  rw [e0, e1, e2, e3, e4] at hp
  unfold Am.cAdmit
  by_cases c1 : q < 1 ∨ isB u m.tot.length = false
  · rw [if_pos c1] at hp ⊢; exact hp
  · rw [if_neg c1] at hp ⊢
    by_cases c2 : q ∈ m.ps
    · rw [if_pos c2] at hp ⊢; exact hp
    · rw [if_neg c2] at hp ⊢
      by_cases c3 : 32 ≤ m.ps.length
      · rw [if_pos c3] at hp ⊢; exact hp
      · rw [if_neg c3] at hp ⊢
        by_cases c4 : m.clm = true ∧ fitsB u m.tot = false
        · rw [if_pos c4] at hp ⊢; exact hp
        · rw [if_neg c4] at hp ⊢
          obtain ⟨k, hk, hlo, hhi, he, hup⟩ := hp
          refine ⟨he, ?_⟩
          have hs := insP_split hk hlo hhi
          have hrc : (m.enrol q u).rc = ⟨m.tot, m.avl, m.clm, m.ps.take k ++ [q] ++ m.ps.drop k, (m.ps.map m.held).take k ++ [List.replicate m.tot.length 0] ++ (m.ps.map m.held).drop k, (m.ps.map m.claim).take k ++ [u] ++ (m.ps.map m.claim).drop k, m.pend⟩ := by
            show Rec.mk m.tot (m.enrol q u).avl m.clm (insP q m.ps) ((insP q m.ps).map (updF m.held q (List.replicate m.tot.length 0))) ((insP q m.ps).map (updF m.claim q u)) m.pend = _
            rw [Am.admit_avl u c2, hs, map_ins m.held (updF m.held q (List.replicate m.tot.length 0)) c2 (fun p hp => updF_ne _ _ hp), map_ins m.claim (updF m.claim q u) c2 (fun p hp => updF_ne _ _ hp), updF_at, updF_at]
          show Up w F b (m.enrol q u).rc w'
          rw [hrc]
          exact hup
/-- Both. -/
structure TwR (w : World) (FA FB : List Nat) (a b : Nat) (mA mB : Am) (r : RaV) : Prop where
  A : PaS w FA a mA
  B : Ra w FB b mB.rc r
  d : ∀ k, k ∈ FA → k ∉ FB
section
variable {w w' : World} {FA FB FA' FB' : List Nat} {a b : Nat} {mA mB mA' mB' : Am} {r r' : RaV}
theorem TwR.stepA (h : TwR w FA FB a b mA mB r) (hf : Fr FA w FA' w') (hp : PaS w' FA' a mA') : TwR w' FA' FB a b mA' mB r :=
  ⟨hp, h.B.touch hf.t (fun k hk => h.d k hk), fun k hk hm => by
    rcases hf.g k hk with e | e
    · exact h.d k e hm
    · have := h.B.lt k hm; omega⟩
theorem TwR.stepB (h : TwR w FA FB a b mA mB r) (hf : Fr FB w FB' w') (hp : Ra w' FB' b mB'.rc r') : TwR w' FA FB' a b mA mB' r' :=
  ⟨h.A.touch hf.t (fun k hk hm => h.d k hm hk), hp, fun k hk hm => by
    rcases hf.g k hm with e | e
    · exact h.d k hk e
    · have := h.A.lt k hk; omega⟩
theorem TwR.same (h : TwR w FA FB a b mA mB r) (ht : Touch [] w w') : TwR w' FA FB a b mA mB r := ⟨h.A.same ht, h.B.same ht, h.d⟩
end
/-- The program has been read: a list of its own is answered. -/
def OwT (w : World) (FA FB : List Nat) (a b : Nat) (mA mB : Am) (r : RaV) (xs : List Int) (e : Ending) (w' : World) : Prop :=
  ∃ v FA', e = .returned v ∧ TwR w' FA' FB a b mA mB r ∧ Fr FA w FA' w' ∧ Qu w' w.heap.size 3 v (xs.map (Value.int .i64)) ∧ ∀ k, v.ownBlock = some k → k ∉ FA'
section
variable {w w' : World} {FA FB : List Nat} {a b : Nat} {mA mB : Am} {r : RaV}
theorem RdOwn.owT {p : PaP} {xs : List Int} {e : Ending} (h : TwR w FA FB a b mA mB r) (hpd : p.pd = mA.pend) (hr : RdOwn w FA a mA p xs e w') : OwT w FA FB a b mA mB r xs e w' := by
  obtain ⟨v, F', he, hrd, hq, ho⟩ := hr
  obtain ⟨h1, h2⟩ := hrd.paS h.A.1 hpd
  exact ⟨v, F', he, h.stepA h1 h2, h1, hq, ho⟩
theorem avail_w (h : TwR w FA FB a b mA mB r) : Calls Tryz.prog 17 #[.pointer (some ⟨a, 0, none⟩)] w (OwT w FA FB a b mA mB r mA.avl) := by
  obtain ⟨ok, p, hp, e⟩ := h.A
  exact (avail_any w FA a mA p hp ok).mono fun _ _ hr => hr.owT h e
theorem pids_w (h : TwR w FA FB a b mA mB r) : Calls Tryz.prog 18 #[.pointer (some ⟨a, 0, none⟩)] w (OwT w FA FB a b mA mB r mA.ps) := by
  obtain ⟨ok, p, hp, e⟩ := h.A
  exact (pids_any w FA a mA p hp ok).mono fun _ _ hr => hr.owT h e
theorem stuck_w (h : TwR w FA FB a b mA mB r) : Calls Tryz.prog 25 #[.pointer (some ⟨a, 0, none⟩)] w (OwT w FA FB a b mA mB r mA.stuck) := by
  obtain ⟨ok, p, hp, e⟩ := h.A
  exact (astuck_any w FA a mA p hp ok e (by have := pend_few ok; omega)).mono fun _ _ hr => hr.owT h e
theorem safe_w (h : TwR w FA FB a b mA mB r) : Calls Tryz.prog 23 #[.pointer (some ⟨a, 0, none⟩)] w fun e w' => e = .returned (.bool mA.safe) ∧ ∃ FA', TwR w' FA' FB a b mA mB r ∧ Fr FA w FA' w' := by
  obtain ⟨ok, p, hp, e⟩ := h.A
  refine (asafe_any w FA a mA p hp ok).mono ?_
  rintro _ _ ⟨he, F', hr⟩
  obtain ⟨h1, h2⟩ := hr.paS ok e
  exact ⟨he, F', h.stepA h1 h2, h1⟩
theorem pend_w (h : TwR w FA FB a b mA mB r) : Calls Tryz.prog 26 #[.pointer (some ⟨a, 0, none⟩)] w (PendP mA.pend w) := by
  obtain ⟨ok, p, hp, e⟩ := h.A
  have := pending_any w FA a mA p hp.toPb (by rw [e]; have := pend_few ok; omega) (fun i hi => by
    rw [e] at hi ⊢
    have := (ok.pi (mA.pend.getD i (0, [])) (by rw [show mA.pend.getD i (0, []) = mA.pend[i] from by simp [hi]]; exact List.getElem_mem _)).2
    have h2 := (isB_iff.1 this).1
    have := ok.nt
    omega)
  rw [e] at this
  exact this
theorem held_w (h : TwR w FA FB a b mA mB r) {q : Int} (hq : q ∈ mA.ps) : Calls Tryz.prog 19 #[.pointer (some ⟨a, 0, none⟩), .int .i64 q] w (Own (mA.held q) w) := by
  obtain ⟨ok, p, hp, e⟩ := h.A
  exact held_in w FA a mA p q hp.toPb ok.nt hq (ok.hl q hq) (by have := ok.pos q hq; unfold InI; omega)
theorem claim_w (h : TwR w FA FB a b mA mB r) {q : Int} (hq : q ∈ mA.ps) : Calls Tryz.prog 20 #[.pointer (some ⟨a, 0, none⟩), .int .i64 q] w (Own (mA.claim q) w) := by
  obtain ⟨ok, p, hp, e⟩ := h.A
  exact claim_in w FA a mA p q hp.toPb hq (by have := (isB_iff.1 (ok.cl q hq)).1; have := ok.nt; omega)
theorem held_no (h : TwR w FA FB a b mA mB r) {q : Int} (hq : q ∉ mA.ps) : Calls Tryz.prog 19 #[.pointer (some ⟨a, 0, none⟩), .int .i64 q] w (Own [] w) := by
  obtain ⟨ok, p, hp, e⟩ := h.A
  exact held_out w FA a mA p q hp.toPb hq
theorem claim_no (h : TwR w FA FB a b mA mB r) {q : Int} (hq : q ∉ mA.ps) : Calls Tryz.prog 20 #[.pointer (some ⟨a, 0, none⟩), .int .i64 q] w (Own [] w) := by
  obtain ⟨ok, p, hp, e⟩ := h.A
  exact claim_out w FA a mA p q hp.toPb hq
end
theorem ints_t (v v' : Value) (xs ys : List Int) (B : Bool) (w : World) (h : Sl w v xs) (h' : Sl w v' ys) (h1 : xs.length ≤ 1000000) (h2 : ys.length ≤ 1000000) (hB : EqI xs ys = B) :
    Calls Tryz.prog 21 #[v, v'] w fun e w' => e = .returned (.bool B) ∧ Touch [] w w' := by
  refine (ints_any v v' xs ys w h h' h1 h2).mono ?_
  rintro e w' ⟨he, n, hw⟩
  subst hw
  exact ⟨by rw [he, hB], (Touch.refl [] w).drewN n⟩
theorem ints_e (v v' : Value) (xs : List Int) (w : World) (h : Sl w v xs) (h' : Sl w v' xs) (h1 : xs.length ≤ 1000000) :
    Calls Tryz.prog 21 #[v, v'] w fun e w' => e = .returned (.bool true) ∧ Touch [] w w' := ints_t v v' xs xs true w h h' h1 h1 (eqI_refl xs)
theorem stuck_few {m : Am} (ok : m.Ok) : m.stuck.length ≤ 32 := by
  unfold Am.stuck
  rw [List.length_map]
  have h1 := stuckL_len (xs := m.avl) (hs := m.hs) (qs := m.asks)
  have h2 := ok.few
  have h3 : m.hs.length = m.ps.length := by simp [Am.hs]
  omega
end Go.Proofs.YticglfmmjgnicaaGreat

set_option linter.unusedVariables false
namespace Go.Proofs.YticglfmmjgnicaaGreat
open Go Go.RowKit

def SameP (w : World) (FA FB : List Nat) (a b : Nat) (m : Am) (r : RaV) (e : Ending) (w' : World) : Prop := e = .returned (.bool true) ∧ ∃ FA', TwR w' FA' FB a b m m r ∧ Fr FA w FA' w'
set_option maxRecDepth 100000 in
set_option maxHeartbeats 40000000 in
theorem same_any (w : World) (FA FB : List Nat) (a b : Nat) (m : Am) (r : RaV) (h : TwR w FA FB a b m m r) :
    Calls Tryz.prog 14 #[.pointer (some ⟨a, 0, none⟩), .pointer (some ⟨b, 0, none⟩)] w (SameP w FA FB a b m r) := by
  have hok := h.A.1
  have HOK := Lib.hid hok
  obtain ⟨L, hL⟩ : ∃ L, m.ps.length = L := ⟨_, rfl⟩
  have HL := Lib.hid hL
  have hL32 : L ≤ 32 := by rw [← hL]; exact hok.few
  obtain ⟨P, hP⟩ : ∃ P, m.pend.length = P := ⟨_, rfl⟩
  have HPL := Lib.hid hP
  have hP32 : P ≤ 32 := by rw [← hP]; exact pend_few hok
  obtain ⟨SF, hSF⟩ : ∃ SF, m.safe = SF := ⟨_, rfl⟩
  have HSF := Lib.hid hSF
  obtain ⟨pa, pc, hpv⟩ : ∃ a c, r.pv = .slice a L c := by obtain ⟨a, c, e⟩ := h.B.ps.im.1.form; exact ⟨a, c, by rw [← hL]; exact e⟩
  obtain ⟨qa, qc, hqv⟩ : ∃ a c, r.qv = .slice a P c := by obtain ⟨⟨base, hpe⟩, _⟩ := h.B.pd; obtain ⟨a, c, e, _⟩ := hpe.form; exact ⟨a, c, by rw [← hP]; exact e⟩
  obtain ⟨aa, an, ac, hav⟩ : ∃ a n c, r.av = .slice a n c := im_form h.B.av
  obtain ⟨ha, hn, hc, hhv⟩ : ∃ a n c, r.hv = .slice a n c := by obtain ⟨a, c, e⟩ := h.B.hs.rws.form; exact ⟨a, _, c, e⟩
  obtain ⟨ca, cn, cc, hcv⟩ : ∃ a n c, r.cv = .slice a n c := by obtain ⟨a, c, e⟩ := h.B.cs.rws.form; exact ⟨a, _, c, e⟩
  have HEV := Lib.hid (And.intro hpv (And.intro hqv (And.intro hav (And.intro hhv hcv))))
  have HX : Hid (∀ w', Blk w' b #[r.tv, r.av, .bool m.clm, r.pv, r.hv, r.cv, r.qv] 48 → w'.cell? ⟨b, 1, none⟩ = some (.slice aa an ac) ∧ w'.cell? ⟨b, 3, none⟩ = some (.slice pa L pc)) := Lib.hid (fun w' hb => ⟨by rw [← hav]; exact hb.cell (i := 1) rfl, by rw [← hpv]; exact hb.cell (i := 3) rfl⟩)
  have HTW := Lib.hid (h.same ((Touch.refl [] w).drew))
  have HFR := Lib.hid (Fr.same ((Touch.refl [] w).drew) h.A.lt)
  have HT : Hid (Blk w.drew b #[r.tv, r.av, .bool m.clm, r.pv, r.hv, r.cv, r.qv] 48) := Lib.hid HTW.out.B.obj
  have HM6 : Hid (m.avl.length ≤ 1000 ∧ m.ps.length ≤ 1000 ∧ m.stuck.length ≤ 1000) := Lib.hid ⟨by rw [m.avl_length]; have := hok.nt; omega, by omega, by have := stuck_few hok; omega⟩
  clear h hok hL hP hSF hpv hqv hav hhv hcv
  go_enter Tryz.func14, Tryz.ntmps14
  go_upto_region 1 with fail
  refine wp_region_till (fun _ => True) (fun w' => Blk w' b #[r.tv, r.av, .bool m.clm, r.pv, r.hv, r.cv, r.qv] 48) [] (by kernel_rfl) ?_
  obtain ⟨wk, hwk⟩ : ∃ w', World.drew w = w' := ⟨_, rfl⟩
  rw [hwk] at HTW HFR HT ⊢
  clear hwk
  obtain ⟨nk, hsz⟩ : ∃ n, wk.heap.size = n := ⟨_, rfl⟩
  refine wpTill.takeT (i := 0) (v := ?v1) (some 8) rfl rfl (by kernel_rfl) (fun _ _ _ h => h) (Or.inl ⟨by rfl, ?hy1⟩) ⟨trivial, HT.out⟩ ?rest1
  case hy1 => (intro w hSw; obtain ⟨q1, q2⟩ := HX.out w hSw; go_simp; try with_reducible rfl)
  simp only [Act.put, List.setIfInBounds_toArray, List.set_cons_zero, List.set_cons_succ]
  refine wpTill.takeT (i := 2) (v := ?v2) (some 10) rfl rfl (by kernel_rfl) (fun _ _ _ h => h) (Or.inl ⟨by rfl, ?hy2⟩) ⟨trivial, HT.out⟩ ?rest2
  case hy2 => (intro w hSw; obtain ⟨q1, q2⟩ := HX.out w hSw; go_simp; try with_reducible rfl)
  simp only [Act.put, List.setIfInBounds_toArray, List.set_cons_zero, List.set_cons_succ]
  refine wpTill.takeT (i := 3) (v := ?v3) (some 11) rfl rfl (by kernel_rfl) (fun _ _ _ h => h) (Or.inl ⟨by rfl, ?hy3⟩) ⟨trivial, HT.out⟩ ?rest3
  case hy3 => (intro w hSw; obtain ⟨q1, q2⟩ := HX.out w hSw; go_simp; try with_reducible rfl)
  simp only [Act.put, List.setIfInBounds_toArray, List.set_cons_zero, List.set_cons_succ]
  refine wpTill.takeT (i := 4) (v := ?v4) (some 12) rfl rfl (by kernel_rfl) (fun _ _ _ h => h) (Or.inl ⟨by rfl, ?hy4⟩) ⟨trivial, HT.out⟩ ?rest4
  case hy4 => (intro w hSw; obtain ⟨q1, q2⟩ := HX.out w hSw; go_simp; try with_reducible rfl)
  simp only [Act.put, List.setIfInBounds_toArray, List.set_cons_zero, List.set_cons_succ]
  refine wpTill.takeT (i := 5) (v := ?v5) (some 13) rfl rfl (by kernel_rfl) (fun _ _ _ h => h) (Or.inl ⟨by rfl, ?hy5⟩) ⟨trivial, HT.out⟩ ?rest5
  case hy5 => (intro w hSw; obtain ⟨q1, q2⟩ := HX.out w hSw; go_simp; try with_reducible rfl)
  simp only [Act.put, List.setIfInBounds_toArray, List.set_cons_zero, List.set_cons_succ]
  refine wpTill.ready (rs := [1]) (by kernel_rfl) (by simp) ?_
  refine AllTill.cons (i := 1) (rs := []) (by rfl) (fun K hK => ?_) ?_
  · go_simp
    go_at_call 17
    refine (avail_w HTW.out).mono ?_
    rintro e wk ⟨v9, FA1, rfl, hw, hf, hq, ho⟩
    clear hsz
    obtain ⟨xa, xn, xc, rfl⟩ : ∃ a n c, v9 = Value.slice a n c := (by obtain ⟨a, c, e, _⟩ := hq.shape; exact ⟨a, _, c, e⟩)
    have HQ := Lib.hid hq.sl
    have HQ8 := Lib.hid (And.intro hq ho)
    have HFR := Lib.hid (HFR.out.trans hf)
    have HTW := Lib.hid hw
    have HT := Lib.hid hw.B.obj
    clear hw hf hq ho
    obtain ⟨nk, hsz⟩ : ∃ n, wk.heap.size = n := ⟨_, rfl⟩
    simp only [Act.put, List.setIfInBounds_toArray, List.set_cons_zero, List.set_cons_succ]
    refine hK.out _ _ trivial (fun _ => HT.out) ?_
    clear hK K
    refine wpTill.ready (rs := [6]) (by kernel_rfl) (by simp) ?_
    refine AllTill.cons (i := 6) (rs := []) (by rfl) (fun K hK => ?_) ?_
    · go_simp
      go_at_call 21
      refine (ints_e _ _ m.avl _ HQ.out (by have := HTW.out.B.av.1; rwa [HEV.out.2.2.1] at this) (by have := HM6.out.1; omega)).mono ?_
      rintro e wk ⟨rfl, ht7⟩
      clear hsz
      have HFR := Lib.hid (HFR.out.trans (Fr.same ht7 HTW.out.A.lt))
      have HTW := Lib.hid (HTW.out.same ht7)
      have HT := Lib.hid HTW.out.B.obj
      clear ht7
      obtain ⟨nk, hsz⟩ : ∃ n, wk.heap.size = n := ⟨_, rfl⟩
      simp only [Act.put, List.setIfInBounds_toArray, List.set_cons_zero, List.set_cons_succ]
      refine hK.out _ _ trivial (fun _ => HT.out) ?_
      clear hK K
      refine wpTill.takeT (i := 7) (v := ?v6) (some 15) rfl rfl (by kernel_rfl) (fun _ _ _ h => h) (Or.inl ⟨by rfl, ?hy6⟩) ⟨trivial, HT.out⟩ ?rest6
      case hy6 => (intro w hSw; obtain ⟨q1, q2⟩ := HX.out w hSw; go_simp; try with_reducible rfl)
      simp only [Act.put, List.setIfInBounds_toArray, List.set_cons_zero, List.set_cons_succ]
      refine wpTill.takeT (i := 8) (v := ?v7) (some 16) rfl rfl (by kernel_rfl) (fun _ _ _ h => h) (Or.inl ⟨by rfl, ?hy7⟩) ⟨trivial, HT.out⟩ ?rest7
      case hy7 => (intro w hSw; obtain ⟨q1, q2⟩ := HX.out w hSw; go_simp; try with_reducible rfl)
      simp only [Act.put, List.setIfInBounds_toArray, List.set_cons_zero, List.set_cons_succ]
      refine wpTill.takeT (i := 9) (v := ?v8) (some 17) rfl rfl (by kernel_rfl) (fun _ _ _ h => h) (Or.inl ⟨by rfl, ?hy8⟩) ⟨trivial, HT.out⟩ ?rest8
      case hy8 => (intro w hSw; obtain ⟨q1, q2⟩ := HX.out w hSw; go_simp; try with_reducible rfl)
      simp only [Act.put, List.setIfInBounds_toArray, List.set_cons_zero, List.set_cons_succ]
      refine wpTill.takeT (i := 11) (v := ?v9) (some 19) rfl rfl (by kernel_rfl) (fun _ _ _ h => h) (Or.inl ⟨by rfl, ?hy9⟩) ⟨trivial, HT.out⟩ ?rest9
      case hy9 => (intro w hSw; obtain ⟨q1, q2⟩ := HX.out w hSw; go_simp; try with_reducible rfl)
      simp only [Act.put, List.setIfInBounds_toArray, List.set_cons_zero, List.set_cons_succ]
      refine wpTill.takeT (i := 12) (v := ?v10) (some 20) rfl rfl (by kernel_rfl) (fun _ _ _ h => h) (Or.inl ⟨by rfl, ?hy10⟩) ⟨trivial, HT.out⟩ ?rest10
      case hy10 => (intro w hSw; obtain ⟨q1, q2⟩ := HX.out w hSw; go_simp; try with_reducible rfl)
      simp only [Act.put, List.setIfInBounds_toArray, List.set_cons_zero, List.set_cons_succ]
      refine wpTill.takeT (i := 13) (v := ?v11) (some 21) rfl rfl (by kernel_rfl) (fun _ _ _ h => h) (Or.inl ⟨by rfl, ?hy11⟩) ⟨trivial, HT.out⟩ ?rest11
      case hy11 => (intro w hSw; obtain ⟨q1, q2⟩ := HX.out w hSw; go_simp; try with_reducible rfl)
      simp only [Act.put, List.setIfInBounds_toArray, List.set_cons_zero, List.set_cons_succ]
      refine wpTill.takeT (i := 14) (v := ?v12) (some 22) rfl rfl (by kernel_rfl) (fun _ _ _ h => h) (Or.inl ⟨by rfl, ?hy12⟩) ⟨trivial, HT.out⟩ ?rest12
      case hy12 => (intro w hSw; obtain ⟨q1, q2⟩ := HX.out w hSw; go_simp; try with_reducible rfl)
      simp only [Act.put, List.setIfInBounds_toArray, List.set_cons_zero, List.set_cons_succ]
      refine wpTill.ready (rs := [10]) (by kernel_rfl) (by simp) ?_
      refine AllTill.cons (i := 10) (rs := []) (by rfl) (fun K hK => ?_) ?_
      · go_simp
        go_at_call 18
        refine (pids_w HTW.out).mono ?_
        rintro e wk ⟨v9, FA1, rfl, hw, hf, hq, ho⟩
        clear hsz
        obtain ⟨xa, xn, xc, rfl⟩ : ∃ a n c, v9 = Value.slice a n c := (by obtain ⟨a, c, e, _⟩ := hq.shape; exact ⟨a, _, c, e⟩)
        have HQ := Lib.hid hq.sl
        have HQ8 := Lib.hid (And.intro hq ho)
        have HFR := Lib.hid (HFR.out.trans hf)
        have HTW := Lib.hid hw
        have HT := Lib.hid hw.B.obj
        clear hw hf hq ho
        obtain ⟨nk, hsz⟩ : ∃ n, wk.heap.size = n := ⟨_, rfl⟩
        simp only [Act.put, List.setIfInBounds_toArray, List.set_cons_zero, List.set_cons_succ]
        refine hK.out _ _ trivial (fun _ => HT.out) ?_
        clear hK K
        refine wpTill.ready (rs := [15]) (by kernel_rfl) (by simp) ?_
        refine AllTill.cons (i := 15) (rs := []) (by rfl) (fun K hK => ?_) ?_
        · go_simp
          go_at_call 21
          refine (ints_e _ _ m.ps _ HQ.out (by have := HTW.out.B.ps.im.1; rwa [HEV.out.1] at this) (by have := HM6.out.2.1; omega)).mono ?_
          rintro e wk ⟨rfl, ht7⟩
          clear hsz
          have HFR := Lib.hid (HFR.out.trans (Fr.same ht7 HTW.out.A.lt))
          have HTW := Lib.hid (HTW.out.same ht7)
          have HT := Lib.hid HTW.out.B.obj
          clear ht7
          obtain ⟨nk, hsz⟩ : ∃ n, wk.heap.size = n := ⟨_, rfl⟩
          simp only [Act.put, List.setIfInBounds_toArray, List.set_cons_zero, List.set_cons_succ]
          refine hK.out _ _ trivial (fun _ => HT.out) ?_
          clear hK K
          refine wpTill.takeT (i := 16) (v := ?v13) (some 24) rfl rfl (by kernel_rfl) (fun _ _ _ h => h) (Or.inl ⟨by rfl, ?hy13⟩) ⟨trivial, HT.out⟩ ?rest13
          case hy13 => (intro w hSw; obtain ⟨q1, q2⟩ := HX.out w hSw; go_simp; try with_reducible rfl)
          simp only [Act.put, List.setIfInBounds_toArray, List.set_cons_zero, List.set_cons_succ]
          refine wpTill.takeT (i := 17) (v := ?v14) (some 25) rfl rfl (by kernel_rfl) (fun _ _ _ h => h) (Or.inl ⟨by rfl, ?hy14⟩) ⟨trivial, HT.out⟩ ?rest14
          case hy14 => (intro w hSw; obtain ⟨q1, q2⟩ := HX.out w hSw; go_simp; try with_reducible rfl)
          simp only [Act.put, List.setIfInBounds_toArray, List.set_cons_zero, List.set_cons_succ]
          refine wpTill.takeT (i := 18) (v := ?v15) (some 26) rfl rfl (by kernel_rfl) (fun _ _ _ h => h) (Or.inl ⟨by rfl, ?hy15⟩) ⟨trivial, HT.out⟩ ?rest15
          case hy15 => (intro w hSw; obtain ⟨q1, q2⟩ := HX.out w hSw; go_simp; try with_reducible rfl)
          simp only [Act.put, List.setIfInBounds_toArray, List.set_cons_zero, List.set_cons_succ]
          refine wpTill.takeT (i := 19) (v := ?v16) (some 27) rfl rfl (by kernel_rfl) (fun _ _ _ h => h) (Or.inl ⟨by rfl, ?hy16⟩) ⟨trivial, HT.out⟩ ?rest16
          case hy16 => (intro w hSw; obtain ⟨q1, q2⟩ := HX.out w hSw; go_simp; try with_reducible rfl)
          simp only [Act.put, List.setIfInBounds_toArray, List.set_cons_zero, List.set_cons_succ]
          refine wpTill.takeT (i := 21) (v := ?v17) (some 29) rfl rfl (by kernel_rfl) (fun _ _ _ h => h) (Or.inl ⟨by rfl, ?hy17⟩) ⟨trivial, HT.out⟩ ?rest17
          case hy17 => (intro w hSw; obtain ⟨q1, q2⟩ := HX.out w hSw; go_simp; try with_reducible rfl)
          simp only [Act.put, List.setIfInBounds_toArray, List.set_cons_zero, List.set_cons_succ]
          refine wpTill.ready (rs := [20]) (by kernel_rfl) (by simp) ?_
          refine AllTill.cons (i := 20) (rs := []) (by rfl) (fun K hK => ?_) ?_
          · go_simp
            go_at_call 23
            refine ((HSF.out ▸ safe_w HTW.out)).mono ?_
            rintro e wk ⟨rfl, FA1, hw, hf⟩
            clear hsz
            have HFR := Lib.hid (HFR.out.trans hf)
            have HTW := Lib.hid hw
            have HT := Lib.hid hw.B.obj
            clear hw hf
            obtain ⟨nk, hsz⟩ : ∃ n, wk.heap.size = n := ⟨_, rfl⟩
            simp only [Act.put, List.setIfInBounds_toArray, List.set_cons_zero, List.set_cons_succ]
            refine hK.out _ _ trivial (fun _ => HT.out) ?_
            clear hK K
            refine wpTill.ready (rs := [22]) (by kernel_rfl) (by simp) ?_
            refine AllTill.cons (i := 22) (rs := []) (by rfl) (fun K hK => ?_) ?_
            · go_simp
              go_at_call 48
              refine ((HSF.out ▸ rasafe_any _ FB b m r HTW.out.B)).mono ?_
              rintro e wk ⟨rfl, ht7⟩
              clear hsz
              have HFR := Lib.hid (HFR.out.trans (Fr.same ht7 HTW.out.A.lt))
              have HTW := Lib.hid (HTW.out.same ht7)
              have HT := Lib.hid HTW.out.B.obj
              clear ht7
              obtain ⟨nk, hsz⟩ : ∃ n, wk.heap.size = n := ⟨_, rfl⟩
              simp only [Act.put, List.setIfInBounds_toArray, List.set_cons_zero, List.set_cons_succ]
              refine hK.out _ _ trivial (fun _ => HT.out) ?_
              clear hK K
              refine wpTill.takeT (i := 23) (v := ?v18) (some 31) rfl rfl (by kernel_rfl) (fun _ _ _ h => h) (Or.inl ⟨by rfl, ?hy18⟩) ⟨trivial, HT.out⟩ ?rest18
              case hy18 => (intro w hSw; obtain ⟨q1, q2⟩ := HX.out w hSw; go_simp; try with_reducible rfl)
              simp only [Act.put, List.setIfInBounds_toArray, List.set_cons_zero, List.set_cons_succ]
              refine wpTill.takeT (i := 24) (v := ?v19) (some 32) rfl rfl (by kernel_rfl) (fun _ _ _ h => h) (Or.inl ⟨by rfl, ?hy19⟩) ⟨trivial, HT.out⟩ ?rest19
              case hy19 => (intro w hSw; obtain ⟨q1, q2⟩ := HX.out w hSw; go_simp; try with_reducible rfl)
              simp only [Act.put, List.setIfInBounds_toArray, List.set_cons_zero, List.set_cons_succ]
              refine wpTill.takeT (i := 25) (v := ?v20) (some 33) rfl rfl (by kernel_rfl) (fun _ _ _ h => h) (Or.inl ⟨by rfl, ?hy20⟩) ⟨trivial, HT.out⟩ ?rest20
              case hy20 => (intro w hSw; obtain ⟨q1, q2⟩ := HX.out w hSw; go_simp; try with_reducible rfl)
              simp only [Act.put, List.setIfInBounds_toArray, List.set_cons_zero, List.set_cons_succ]
              refine wpTill.takeT (i := 26) (v := ?v21) (some 34) rfl rfl (by kernel_rfl) (fun _ _ _ h => h) (Or.inl ⟨by rfl, ?hy21⟩) ⟨trivial, HT.out⟩ ?rest21
              case hy21 => (intro w hSw; obtain ⟨q1, q2⟩ := HX.out w hSw; go_simp; try with_reducible rfl)
              simp only [Act.put, List.setIfInBounds_toArray, List.set_cons_zero, List.set_cons_succ]
              refine wpTill.takeT (i := 28) (v := ?v22) (some 36) rfl rfl (by kernel_rfl) (fun _ _ _ h => h) (Or.inl ⟨by rfl, ?hy22⟩) ⟨trivial, HT.out⟩ ?rest22
              case hy22 => (intro w hSw; obtain ⟨q1, q2⟩ := HX.out w hSw; go_simp; try with_reducible rfl)
              simp only [Act.put, List.setIfInBounds_toArray, List.set_cons_zero, List.set_cons_succ]
              refine wpTill.ready (rs := [27]) (by kernel_rfl) (by simp) ?_
              refine AllTill.cons (i := 27) (rs := []) (by rfl) (fun K hK => ?_) ?_
              · go_simp
                go_at_call 25
                refine (stuck_w HTW.out).mono ?_
                rintro e wk ⟨v9, FA1, rfl, hw, hf, hq, ho⟩
                clear hsz
                obtain ⟨xa, xn, xc, rfl⟩ : ∃ a n c, v9 = Value.slice a n c := (by obtain ⟨a, c, e, _⟩ := hq.shape; exact ⟨a, _, c, e⟩)
                have HQ := Lib.hid hq.sl
                have HQ8 := Lib.hid (And.intro hq ho)
                have HFR := Lib.hid (HFR.out.trans hf)
                have HTW := Lib.hid hw
                have HT := Lib.hid hw.B.obj
                clear hw hf hq ho
                obtain ⟨nk, hsz⟩ : ∃ n, wk.heap.size = n := ⟨_, rfl⟩
                simp only [Act.put, List.setIfInBounds_toArray, List.set_cons_zero, List.set_cons_succ]
                refine hK.out _ _ trivial (fun _ => HT.out) ?_
                clear hK K
                refine wpTill.ready (rs := [29]) (by kernel_rfl) (by simp) ?_
                refine AllTill.cons (i := 29) (rs := []) (by rfl) (fun K hK => ?_) ?_
                · go_simp
                  go_at_call 33
                  refine (rastuck_any _ FB b m r HTW.out.B HOK.out).mono ?_
                  rintro e wk ⟨v9, rfl, hq, ht7⟩
                  clear hsz
                  obtain ⟨ya, yn, yc, rfl⟩ : ∃ a n c, v9 = Value.slice a n c := (by obtain ⟨a, c, e, _⟩ := hq.shape; exact ⟨a, _, c, e⟩)
                  have HQ := Lib.hid (HQ.out.touch ht7 (fun _ _ => by simp))
                  have HQ2 := Lib.hid hq.sl
                  have HFR := Lib.hid (HFR.out.trans (Fr.same ht7 HTW.out.A.lt))
                  have HTW := Lib.hid (HTW.out.same ht7)
                  have HT := Lib.hid HTW.out.B.obj
                  clear hq ht7
                  obtain ⟨nk, hsz⟩ : ∃ n, wk.heap.size = n := ⟨_, rfl⟩
                  simp only [Act.put, List.setIfInBounds_toArray, List.set_cons_zero, List.set_cons_succ]
                  refine hK.out _ _ trivial (fun _ => HT.out) ?_
                  clear hK K
                  refine wpTill.ready (rs := [30]) (by kernel_rfl) (by simp) ?_
                  refine AllTill.cons (i := 30) (rs := []) (by rfl) (fun K hK => ?_) ?_
                  · go_simp
                    go_at_call 21
                    refine (ints_e _ _ m.stuck _ HQ.out HQ2.out (by have := HM6.out.2.2; omega)).mono ?_
                    rintro e wk ⟨rfl, ht7⟩
                    clear hsz
                    have HFR := Lib.hid (HFR.out.trans (Fr.same ht7 HTW.out.A.lt))
                    have HTW := Lib.hid (HTW.out.same ht7)
                    have HT := Lib.hid HTW.out.B.obj
                    clear ht7
                    obtain ⟨nk, hsz⟩ : ∃ n, wk.heap.size = n := ⟨_, rfl⟩
                    simp only [Act.put, List.setIfInBounds_toArray, List.set_cons_zero, List.set_cons_succ]
                    refine hK.out _ _ trivial (fun _ => HT.out) ?_
                    clear hK K
                    refine wpTill.takeT (i := 31) (v := ?v23) (some 39) rfl rfl (by kernel_rfl) (fun _ _ _ h => h) (Or.inl ⟨by rfl, ?hy23⟩) ⟨trivial, HT.out⟩ ?rest23
                    case hy23 => (intro w hSw; obtain ⟨q1, q2⟩ := HX.out w hSw; go_simp; try with_reducible rfl)
                    simp only [Act.put, List.setIfInBounds_toArray, List.set_cons_zero, List.set_cons_succ]
                    refine wpTill.takeT (i := 32) (v := ?v24) (some 40) rfl rfl (by kernel_rfl) (fun _ _ _ h => h) (Or.inl ⟨by rfl, ?hy24⟩) ⟨trivial, HT.out⟩ ?rest24
                    case hy24 => (intro w hSw; obtain ⟨q1, q2⟩ := HX.out w hSw; go_simp; try with_reducible rfl)
                    simp only [Act.put, List.setIfInBounds_toArray, List.set_cons_zero, List.set_cons_succ]
                    refine wpTill.done (by kernel_rfl) ?_ _
                    clear HX HM6 HT
                    obtain ⟨W, hW⟩ : ∃ W, wk = W := ⟨_, rfl⟩
                    rw [hW] at HTW HFR ⊢
                    clear hW hsz
                    have HPW := Lib.hid (pend_w HTW.out)
                    go_wp2_with fail
                    refine HPW.out.mono ?_
                    rintro e w3 ⟨v5, qu, rfl, haks, ht3⟩
                    obtain ⟨ka, kc, hkv, _⟩ := haks.s.form
                    rw [HPL.out] at hkv
                    subst hkv
                    have HAK := Lib.hid haks
                    have HFR := Lib.hid (HFR.out.trans (Fr.same ht3 HTW.out.A.lt))
                    have HTW := Lib.hid (HTW.out.same ht3)
                    have c6 : w3.cell? ⟨b, 6, none⟩ = some (.slice qa P qc) := by rw [← HEV.out.2.1]; exact HTW.out.B.obj.cell (i := 6) rfl
                    have HT0 := Lib.hid (Touch.refl [] w3)
                    clear haks ht3 HPW
                    go_wp2_with fail
                    clear c6
                    go_loopw [6] (fun iv wr => ∃ i : Nat, i ≤ P ∧ iv = .int .i64 (i : Int) ∧ Touch [] w3 wr) (fun iv _ => P + 1 - (intOf iv).toNat)
                    case atStart => exact ⟨0, by omega, rfl, HT0.out⟩
                    case round =>
                      obtain ⟨i, hi, rfl, ht⟩ := hrel
                      have HTR := Lib.hid ht
                      by_cases hk : i < P
                      · have hlt : (i : Int) < (P : Int) := by omega
                        have hi2 : i < m.pend.length := by rw [HPL.out]; exact hk
                        obtain ⟨q, hq⟩ : ∃ q, (m.pend.getD i (0, [])).1 = q := ⟨_, rfl⟩
                        obtain ⟨u, hu⟩ : ∃ u, (m.pend.getD i (0, [])).2 = u := ⟨_, rfl⟩
                        have hak := HAK.out.touch ht
                        have hsa := hak.s
                        rw [HPL.out] at hsa
                        obtain ⟨g1, cap1, e1, _, _, _, _, hc1, _, _⟩ := hsa.at hk
                        cases e1
                        have hqu : Sl wr (qu i) u := by rw [← hu]; exact (hak.u i hi2).1.sl
                        obtain ⟨ua, un, uc, hue⟩ : ∃ a n c, qu i = .slice a n c := by obtain ⟨a, c, e⟩ := hqu.form; exact ⟨a, _, c, e⟩
                        obtain ⟨⟨base, hpe⟩, _, hpu⟩ := (HTW.out.same ht).B.pd
                        have hpe : Av wr base 74 2 r.qv m.pend.length (askF m.pend r.qu) := hpe
                        rw [HEV.out.2.1, HPL.out] at hpe
                        obtain ⟨g2, cap2, e2, _, _, _, _, hc2, _, _⟩ := hpe.at hk
                        cases e2
                        have him : Im wr FB [b] (r.qu i) (m.pend.getD i (0, [])).2 := hpu i hi2
                        obtain ⟨va, vn, vc, hve⟩ := im_form him
                        have hqu2 := him.1
                        rw [hu, hve] at hqu2
                        rw [hue] at hqu
                        have hun : u.length ≤ 1000 := by
                          have h1 := (HOK.out.pi (m.pend.getD i (0, [])) (by rw [show m.pend.getD i (0, []) = m.pend[i] from by simp [hi2]]; exact List.getElem_mem _)).2
                          rw [hu] at h1
                          have := (isB_iff.1 h1).1
                          have := HOK.out.nt
                          omega
                        have HIN : Hid (∀ p : Later wr, Calls Tryz.prog 21 #[.slice ua un uc, .slice va vn vc] p.world fun e w' => e = .returned (.bool true) ∧ Touch [] p.world w') := Lib.hid (fun p => ints_e _ _ u _ (hqu.touch p.ok (fun _ _ => by simp)) (hqu2.touch p.ok (fun _ _ => by simp)) (by omega))
                        have x1 : ∀ p : Later wr, p.world.cell? ⟨g1, i * 2, none⟩ = some (.int .i64 q) := fun p => p.cell (by have := hc1 0 (by omega); rw [Nat.add_zero] at this; rw [this, ← hq]; rfl)
                        have x2 : ∀ p : Later wr, p.world.cell? ⟨g1, i * 2 + 1, none⟩ = some (.slice ua un uc) := fun p => p.cell (by rw [← hue]; exact hc1 1 (by omega))
                        have x3 : ∀ p : Later wr, p.world.cell? ⟨g2, i * 2, none⟩ = some (.int .i64 q) := fun p => p.cell (by have := hc2 0 (by omega); rw [Nat.add_zero] at this; rw [this, ← hq]; rfl)
                        have x4 : ∀ p : Later wr, p.world.cell? ⟨g2, i * 2 + 1, none⟩ = some (.slice va vn vc) := fun p => p.cell (by rw [← hve]; exact hc2 1 (by omega))
                        have x6 : ∀ p : Later wr, p.world.cell? ⟨b, 6, none⟩ = some (.slice (some ⟨g2, 0, none⟩) P qc) := fun p => p.cell (by have := (HTW.out.same ht).B.obj.cell (i := 6) rfl; rw [HEV.out.2.1] at this; exact this)
                        clear hq hu hak hsa hqu hpe hpu him hqu2 hun hue hve hc1 hc2
                        go_upto_region 9 with fail
                        refine wp_region_later (by kernel_rfl) (by kernel_rfl) ?_
                        repeat (first
                          | (go_big_quiet_step ((first | (with_reducible rfl) | exact Later.met (HIN.out _))))
                          | (quiet_step (fail)))
                        refine wpQuiet_nil ?_
                        intro wq hw'
                        obtain ⟨⟨wq', hwq⟩, hwe⟩ := hw'
                        have hwe : wq = wq' := hwe
                        subst hwe
                        have HT9 := Lib.hid (HTR.out.trans hwq)
                        clear hwe hwq x1 x2 x3 x4 x6 ht
                        go_wp2_with fail
                        go_roundw
                        case rel => exact ⟨i + 1, by omega, by go_num, HT9.out⟩
                        case measure => simp [intOf]; omega
                      · have hlt : ¬ (i : Int) < (P : Int) := by omega
                        have HFR := Lib.hid (HFR.out.trans (Fr.same ht HTW.out.A.lt))
                        have HTW := Lib.hid (HTW.out.same ht)
                        clear ht HTR HT0 HAK
                        obtain ⟨W4, hW4⟩ : ∃ W, wr = W := ⟨_, rfl⟩
                        rw [hW4] at HTW HFR ⊢
                        clear hW4
                        have HT0 := Lib.hid (Touch.refl [] W4)
                        go_wp2_with fail
                        go_loopw [7] (fun iv wr => ∃ i : Nat, i ≤ L ∧ iv = .int .i64 (i : Int) ∧ Touch [] W4 wr) (fun iv _ => L + 1 - (intOf iv).toNat)
                        case atStart => exact ⟨0, by omega, rfl, HT0.out⟩
                        case round =>
                          clear HT0
                          obtain ⟨j, hj, rfl, ht⟩ := hrel
                          have HTR := Lib.hid ht
                          have HTWr := Lib.hid (HTW.out.same ht)
                          have c3 : wr.cell? ⟨b, 3, none⟩ = some (.slice pa L pc) := by rw [← HEV.out.1]; exact HTWr.out.B.obj.cell (i := 3) rfl
                          by_cases hk : j < L
                          · have hlt : (j : Int) < (L : Int) := by omega
                            have hj2 : j < m.ps.length := by rw [HL.out]; exact hk
                            obtain ⟨q, hq⟩ : ∃ q, m.ps.getD j 0 = q := ⟨_, rfl⟩
                            have hqm : q ∈ m.ps := by rw [← hq, show m.ps.getD j 0 = m.ps[j] from by simp [hj2]]; exact List.getElem_mem _
                            obtain ⟨vs0, hvl0, ⟨baseh0, hqh0⟩, hvr0, _⟩ := HTWr.out.B.hs.vals
                            have hvl0 : vs0.length = m.ps.length := by rw [hvl0]; simp [Am.rc, Am.hs]
                            have hvr0 : ∀ i, i < m.hs.length → Im wr FB [b] (vs0.getD i (.slice none 0 0)) (rw_ m.hs i) := hvr0
                            have hrow0 : Im wr FB [b] (vs0.getD j (.slice none 0 0)) (m.held q) := by
                              have := hvr0 j (by simpa [Am.hs] using hj2)
                              rw [show rw_ m.hs j = m.held (m.ps.getD j 0) from by simp [rw_, Am.hs, hj2], hq] at this
                              exact this
                            obtain ⟨ja, jn, jc, hrv0⟩ := im_form hrow0
                            rw [hrv0] at hrow0
                            obtain ⟨ys0, hyl0, ⟨basec0, hqc0⟩, hyr0, _⟩ := HTWr.out.B.cs.vals
                            have hyl0 : ys0.length = m.ps.length := by rw [hyl0]; simp [Am.rc, Am.cs]
                            have hyr0 : ∀ i, i < m.cs.length → Im wr FB [b] (ys0.getD i (.slice none 0 0)) (rw_ m.cs i) := hyr0
                            have hrowc : Im wr FB [b] (ys0.getD j (.slice none 0 0)) (m.claim q) := by
                              have := hyr0 j (by simpa [Am.cs] using hj2)
                              rw [show rw_ m.cs j = m.claim (m.ps.getD j 0) from by simp [rw_, Am.cs, hj2], hq] at this
                              exact this
                            obtain ⟨da, dn, dc, hrvc⟩ := im_form hrowc
                            rw [hrvc] at hrowc
                            rw [HEV.out.2.2.2.1] at hqh0
                            rw [HEV.out.2.2.2.2] at hqc0
                            obtain ⟨gi, oi, ci, hhv0, _, _, _, _, _⟩ := hqh0.setV j (by rw [hvl0]; exact hj2)
                            obtain ⟨gc, oc, ec, hcv0, _, _, _, _, _⟩ := hqc0.setV j (by rw [hyl0]; exact hj2)
                            rw [hvl0, HL.out] at hhv0
                            rw [hyl0, HL.out] at hcv0
                            obtain ⟨gp, op, epa, hxp⟩ := (by have := HTWr.out.B.ps.im.1; rwa [HEV.out.1] at this : Sl wr (.slice pa L pc) m.ps).ix (q := j) hj2
                            cases epa
                            have HX : Hid (∀ w', Touch [] wr w' → w'.cell? ⟨b, 3, none⟩ = some (.slice (some ⟨gp, op, none⟩) L pc) ∧ w'.cell? ⟨b, 4, none⟩ = some (.slice (some ⟨gi, oi, none⟩) L ci) ∧ w'.cell? ⟨b, 5, none⟩ = some (.slice (some ⟨gc, oc, none⟩) L ec) ∧ w'.cell? ⟨gi, oi + j, none⟩ = some (.slice ja jn jc) ∧ w'.cell? ⟨gc, oc + j, none⟩ = some (.slice da dn dc) ∧ w'.cell? ⟨gp, op + j, none⟩ = some (.int .i64 q)) := Lib.hid (fun w' ht => by
                              have ho := HTWr.out.B.obj.touch ht (by simp)
                              refine ⟨?_, ?_, ?_, ?_, ?_, by rw [← hq]; exact hxp w' ht⟩
                              · rw [← HEV.out.1]; exact ho.cell (i := 3) rfl
                              · rw [← hhv0, ← HEV.out.2.2.2.1]; exact ho.cell (i := 4) rfl
                              · rw [← hcv0, ← HEV.out.2.2.2.2]; exact ho.cell (i := 5) rfl
                              · obtain ⟨g', o', c', e', _, _, _, hc', _⟩ := (hqh0.later ht).setV j (by rw [hvl0]; exact hj2)
                                rw [hhv0] at e'
                                cases e'
                                rw [hrv0] at hc'
                                exact hc'
                              · obtain ⟨g', o', c', e', _, _, _, hc', _⟩ := (hqc0.later ht).setV j (by rw [hyl0]; exact hj2)
                                rw [hcv0] at e'
                                cases e'
                                rw [hrvc] at hc'
                                exact hc')
                            have HRH : Hid (∀ w', Touch [] wr w' → Sl w' (.slice ja jn jc) (m.held q) ∧ Sl w' (.slice da dn dc) (m.claim q)) := Lib.hid (fun w' ht => ⟨hrow0.1.touch ht (fun _ _ => by simp), hrowc.1.touch ht (fun _ _ => by simp)⟩)
                            have HQM := Lib.hid hqm
                            have HT := Lib.hid ((Touch.refl [] wr).drew)
                            have HLN : Hid ((m.held q).length ≤ 1000 ∧ (m.claim q).length ≤ 1000) := Lib.hid (by
                              have h1 := HOK.out.hl q hqm
                              have h2 := (isB_iff.1 (HOK.out.cl q hqm)).1
                              have := HOK.out.nt
                              omega)
                            clear hq hqm hqh0 hvr0 hhv0 hrow0 hrv0 hvl0 hyl0 hqc0 hyr0 hcv0 hrowc hrvc hxp ht
                            go_upto_region 14 with fail
                            clear c3
                            refine wp_region_till (fun _ => True) (fun w' => Touch [] wr w') [] (by kernel_rfl) ?_
                            obtain ⟨wk, hwk⟩ : ∃ w', World.drew wr = w' := ⟨_, rfl⟩
                            rw [hwk] at HT ⊢
                            clear hwk
                            obtain ⟨nk, hsz⟩ : ∃ n, wk.heap.size = n := ⟨_, rfl⟩
                            refine wpTill.takeT (i := 0) (v := ?v5001) (some 97) rfl rfl (by kernel_rfl) (fun _ _ _ h => h) (Or.inl ⟨by rfl, ?hy5001⟩) ⟨trivial, HT.out⟩ ?rest5001
                            case hy5001 => (intro w hSw; obtain ⟨q1, q2, q3, q4, q5, q6⟩ := HX.out w hSw; go_simp; try with_reducible rfl)
                            simp only [Act.put, List.setIfInBounds_toArray, List.set_cons_zero, List.set_cons_succ]
                            refine wpTill.takeT (i := 1) (v := ?v5002) (some 98) rfl rfl (by kernel_rfl) (fun _ _ _ h => h) (Or.inl ⟨by rfl, ?hy5002⟩) ⟨trivial, HT.out⟩ ?rest5002
                            case hy5002 => (intro w hSw; obtain ⟨q1, q2, q3, q4, q5, q6⟩ := HX.out w hSw; go_simp; try with_reducible rfl)
                            simp only [Act.put, List.setIfInBounds_toArray, List.set_cons_zero, List.set_cons_succ]
                            refine wpTill.takeT (i := 2) (v := ?v5003) (some 99) rfl rfl (by kernel_rfl) (fun _ _ _ h => h) (Or.inl ⟨by rfl, ?hy5003⟩) ⟨trivial, HT.out⟩ ?rest5003
                            case hy5003 => (intro w hSw; obtain ⟨q1, q2, q3, q4, q5, q6⟩ := HX.out w hSw; go_simp; try with_reducible rfl)
                            simp only [Act.put, List.setIfInBounds_toArray, List.set_cons_zero, List.set_cons_succ]
                            refine wpTill.takeT (i := 3) (v := ?v5004) (some 100) rfl rfl (by kernel_rfl) (fun _ _ _ h => h) (Or.inl ⟨by rfl, ?hy5004⟩) ⟨trivial, HT.out⟩ ?rest5004
                            case hy5004 => (intro w hSw; obtain ⟨q1, q2, q3, q4, q5, q6⟩ := HX.out w hSw; go_simp; try with_reducible rfl)
                            simp only [Act.put, List.setIfInBounds_toArray, List.set_cons_zero, List.set_cons_succ]
                            refine wpTill.takeT (i := 4) (v := ?v5005) (some 101) rfl rfl (by kernel_rfl) (fun _ _ _ h => h) (Or.inl ⟨by rfl, ?hy5005⟩) ⟨trivial, HT.out⟩ ?rest5005
                            case hy5005 => (intro w hSw; obtain ⟨q1, q2, q3, q4, q5, q6⟩ := HX.out w hSw; go_simp; try with_reducible rfl)
                            simp only [Act.put, List.setIfInBounds_toArray, List.set_cons_zero, List.set_cons_succ]
                            refine wpTill.takeT (i := 5) (v := ?v5006) (some 102) rfl rfl (by kernel_rfl) (fun _ _ _ h => h) (Or.inl ⟨by rfl, ?hy5006⟩) ⟨trivial, HT.out⟩ ?rest5006
                            case hy5006 => (intro w hSw; obtain ⟨q1, q2, q3, q4, q5, q6⟩ := HX.out w hSw; go_simp; try with_reducible rfl)
                            simp only [Act.put, List.setIfInBounds_toArray, List.set_cons_zero, List.set_cons_succ]
                            refine wpTill.takeT (i := 6) (v := ?v5007) (some 103) rfl rfl (by kernel_rfl) (fun _ _ _ h => h) (Or.inl ⟨by rfl, ?hy5007⟩) ⟨trivial, HT.out⟩ ?rest5007
                            case hy5007 => (intro w hSw; obtain ⟨q1, q2, q3, q4, q5, q6⟩ := HX.out w hSw; go_simp; try with_reducible rfl)
                            simp only [Act.put, List.setIfInBounds_toArray, List.set_cons_zero, List.set_cons_succ]
                            refine wpTill.takeT (i := 7) (v := ?v5008) (some 104) rfl rfl (by kernel_rfl) (fun _ _ _ h => h) (Or.inl ⟨by rfl, ?hy5008⟩) ⟨trivial, HT.out⟩ ?rest5008
                            case hy5008 => (intro w hSw; obtain ⟨q1, q2, q3, q4, q5, q6⟩ := HX.out w hSw; go_simp; try with_reducible rfl)
                            simp only [Act.put, List.setIfInBounds_toArray, List.set_cons_zero, List.set_cons_succ]
                            refine wpTill.takeT (i := 9) (v := ?v5009) (some 106) rfl rfl (by kernel_rfl) (fun _ _ _ h => h) (Or.inl ⟨by rfl, ?hy5009⟩) ⟨trivial, HT.out⟩ ?rest5009
                            case hy5009 => (intro w hSw; obtain ⟨q1, q2, q3, q4, q5, q6⟩ := HX.out w hSw; go_simp; try with_reducible rfl)
                            simp only [Act.put, List.setIfInBounds_toArray, List.set_cons_zero, List.set_cons_succ]
                            refine wpTill.takeT (i := 10) (v := ?v5010) (some 107) rfl rfl (by kernel_rfl) (fun _ _ _ h => h) (Or.inl ⟨by rfl, ?hy5010⟩) ⟨trivial, HT.out⟩ ?rest5010
                            case hy5010 => (intro w hSw; obtain ⟨q1, q2, q3, q4, q5, q6⟩ := HX.out w hSw; go_simp; try with_reducible rfl)
                            simp only [Act.put, List.setIfInBounds_toArray, List.set_cons_zero, List.set_cons_succ]
                            refine wpTill.takeT (i := 11) (v := ?v5011) (some 108) rfl rfl (by kernel_rfl) (fun _ _ _ h => h) (Or.inl ⟨by rfl, ?hy5011⟩) ⟨trivial, HT.out⟩ ?rest5011
                            case hy5011 => (intro w hSw; obtain ⟨q1, q2, q3, q4, q5, q6⟩ := HX.out w hSw; go_simp; try with_reducible rfl)
                            simp only [Act.put, List.setIfInBounds_toArray, List.set_cons_zero, List.set_cons_succ]
                            refine wpTill.takeT (i := 12) (v := ?v5012) (some 109) rfl rfl (by kernel_rfl) (fun _ _ _ h => h) (Or.inl ⟨by rfl, ?hy5012⟩) ⟨trivial, HT.out⟩ ?rest5012
                            case hy5012 => (intro w hSw; obtain ⟨q1, q2, q3, q4, q5, q6⟩ := HX.out w hSw; go_simp; try with_reducible rfl)
                            simp only [Act.put, List.setIfInBounds_toArray, List.set_cons_zero, List.set_cons_succ]
                            refine wpTill.takeT (i := 13) (v := ?v5013) (some 110) rfl rfl (by kernel_rfl) (fun _ _ _ h => h) (Or.inl ⟨by rfl, ?hy5013⟩) ⟨trivial, HT.out⟩ ?rest5013
                            case hy5013 => (intro w hSw; obtain ⟨q1, q2, q3, q4, q5, q6⟩ := HX.out w hSw; go_simp; try with_reducible rfl)
                            simp only [Act.put, List.setIfInBounds_toArray, List.set_cons_zero, List.set_cons_succ]
                            refine wpTill.takeT (i := 14) (v := ?v5014) (some 111) rfl rfl (by kernel_rfl) (fun _ _ _ h => h) (Or.inl ⟨by rfl, ?hy5014⟩) ⟨trivial, HT.out⟩ ?rest5014
                            case hy5014 => (intro w hSw; obtain ⟨q1, q2, q3, q4, q5, q6⟩ := HX.out w hSw; go_simp; try with_reducible rfl)
                            simp only [Act.put, List.setIfInBounds_toArray, List.set_cons_zero, List.set_cons_succ]
                            refine wpTill.takeT (i := 15) (v := ?v5015) (some 112) rfl rfl (by kernel_rfl) (fun _ _ _ h => h) (Or.inl ⟨by rfl, ?hy5015⟩) ⟨trivial, HT.out⟩ ?rest5015
                            case hy5015 => (intro w hSw; obtain ⟨q1, q2, q3, q4, q5, q6⟩ := HX.out w hSw; go_simp; try with_reducible rfl)
                            simp only [Act.put, List.setIfInBounds_toArray, List.set_cons_zero, List.set_cons_succ]
                            refine wpTill.ready (rs := [8]) (by kernel_rfl) (by simp) ?_
                            refine AllTill.cons (i := 8) (rs := []) (by rfl) (fun K hK => ?_) ?_
                            · go_simp
                              go_at_call 19
                              refine (held_w (HTWr.out.same HT.out) HQM.out).mono ?_
                              rintro e wk ⟨v9, rfl, hq, ht7⟩
                              clear hsz
                              obtain ⟨xa, xn, xc, rfl⟩ : ∃ a n c, v9 = Value.slice a n c := (by obtain ⟨a, c, e, _⟩ := hq.shape; exact ⟨a, _, c, e⟩)
                              have HQ := Lib.hid hq.sl
                              have HT := Lib.hid (HT.out.trans ht7)
                              clear hq ht7
                              obtain ⟨nk, hsz⟩ : ∃ n, wk.heap.size = n := ⟨_, rfl⟩
                              simp only [Act.put, List.setIfInBounds_toArray, List.set_cons_zero, List.set_cons_succ]
                              refine hK.out _ _ trivial (fun _ => HT.out) ?_
                              clear hK K
                              refine wpTill.ready (rs := [16]) (by kernel_rfl) (by simp) ?_
                              refine AllTill.cons (i := 16) (rs := []) (by rfl) (fun K hK => ?_) ?_
                              · go_simp
                                go_at_call 21
                                refine (ints_e _ _ (m.held q) _ HQ.out (HRH.out _ HT.out).1 (by have := HLN.out.1; omega)).mono ?_
                                rintro e wk ⟨rfl, ht7⟩
                                clear hsz
                                have HT := Lib.hid (HT.out.trans ht7)
                                clear ht7
                                obtain ⟨nk, hsz⟩ : ∃ n, wk.heap.size = n := ⟨_, rfl⟩
                                simp only [Act.put, List.setIfInBounds_toArray, List.set_cons_zero, List.set_cons_succ]
                                refine hK.out _ _ trivial (fun _ => HT.out) ?_
                                clear hK K
                                refine wpTill.takeT (i := 17) (v := ?v5016) (some 114) rfl rfl (by kernel_rfl) (fun _ _ _ h => h) (Or.inl ⟨by rfl, ?hy5016⟩) ⟨trivial, HT.out⟩ ?rest5016
                                case hy5016 => (intro w hSw; obtain ⟨q1, q2, q3, q4, q5, q6⟩ := HX.out w hSw; go_simp; try with_reducible rfl)
                                simp only [Act.put, List.setIfInBounds_toArray, List.set_cons_zero, List.set_cons_succ]
                                refine wpTill.takeT (i := 18) (v := ?v5017) (some 115) rfl rfl (by kernel_rfl) (fun _ _ _ h => h) (Or.inl ⟨by rfl, ?hy5017⟩) ⟨trivial, HT.out⟩ ?rest5017
                                case hy5017 => (intro w hSw; obtain ⟨q1, q2, q3, q4, q5, q6⟩ := HX.out w hSw; go_simp; try with_reducible rfl)
                                simp only [Act.put, List.setIfInBounds_toArray, List.set_cons_zero, List.set_cons_succ]
                                refine wpTill.takeT (i := 19) (v := ?v5018) (some 116) rfl rfl (by kernel_rfl) (fun _ _ _ h => h) (Or.inl ⟨by rfl, ?hy5018⟩) ⟨trivial, HT.out⟩ ?rest5018
                                case hy5018 => (intro w hSw; obtain ⟨q1, q2, q3, q4, q5, q6⟩ := HX.out w hSw; go_simp; try with_reducible rfl)
                                simp only [Act.put, List.setIfInBounds_toArray, List.set_cons_zero, List.set_cons_succ]
                                refine wpTill.takeT (i := 20) (v := ?v5019) (some 117) rfl rfl (by kernel_rfl) (fun _ _ _ h => h) (Or.inl ⟨by rfl, ?hy5019⟩) ⟨trivial, HT.out⟩ ?rest5019
                                case hy5019 => (intro w hSw; obtain ⟨q1, q2, q3, q4, q5, q6⟩ := HX.out w hSw; go_simp; try with_reducible rfl)
                                simp only [Act.put, List.setIfInBounds_toArray, List.set_cons_zero, List.set_cons_succ]
                                refine wpTill.takeT (i := 21) (v := ?v5020) (some 118) rfl rfl (by kernel_rfl) (fun _ _ _ h => h) (Or.inl ⟨by rfl, ?hy5020⟩) ⟨trivial, HT.out⟩ ?rest5020
                                case hy5020 => (intro w hSw; obtain ⟨q1, q2, q3, q4, q5, q6⟩ := HX.out w hSw; go_simp; try with_reducible rfl)
                                simp only [Act.put, List.setIfInBounds_toArray, List.set_cons_zero, List.set_cons_succ]
                                refine wpTill.takeT (i := 22) (v := ?v5021) (some 119) rfl rfl (by kernel_rfl) (fun _ _ _ h => h) (Or.inl ⟨by rfl, ?hy5021⟩) ⟨trivial, HT.out⟩ ?rest5021
                                case hy5021 => (intro w hSw; obtain ⟨q1, q2, q3, q4, q5, q6⟩ := HX.out w hSw; go_simp; try with_reducible rfl)
                                simp only [Act.put, List.setIfInBounds_toArray, List.set_cons_zero, List.set_cons_succ]
                                refine wpTill.takeT (i := 23) (v := ?v5022) (some 120) rfl rfl (by kernel_rfl) (fun _ _ _ h => h) (Or.inl ⟨by rfl, ?hy5022⟩) ⟨trivial, HT.out⟩ ?rest5022
                                case hy5022 => (intro w hSw; obtain ⟨q1, q2, q3, q4, q5, q6⟩ := HX.out w hSw; go_simp; try with_reducible rfl)
                                simp only [Act.put, List.setIfInBounds_toArray, List.set_cons_zero, List.set_cons_succ]
                                refine wpTill.takeT (i := 24) (v := ?v5023) (some 121) rfl rfl (by kernel_rfl) (fun _ _ _ h => h) (Or.inl ⟨by rfl, ?hy5023⟩) ⟨trivial, HT.out⟩ ?rest5023
                                case hy5023 => (intro w hSw; obtain ⟨q1, q2, q3, q4, q5, q6⟩ := HX.out w hSw; go_simp; try with_reducible rfl)
                                simp only [Act.put, List.setIfInBounds_toArray, List.set_cons_zero, List.set_cons_succ]
                                refine wpTill.takeT (i := 25) (v := ?v5024) (some 122) rfl rfl (by kernel_rfl) (fun _ _ _ h => h) (Or.inl ⟨by rfl, ?hy5024⟩) ⟨trivial, HT.out⟩ ?rest5024
                                case hy5024 => (intro w hSw; obtain ⟨q1, q2, q3, q4, q5, q6⟩ := HX.out w hSw; go_simp; try with_reducible rfl)
                                simp only [Act.put, List.setIfInBounds_toArray, List.set_cons_zero, List.set_cons_succ]
                                refine wpTill.takeT (i := 26) (v := ?v5025) (some 123) rfl rfl (by kernel_rfl) (fun _ _ _ h => h) (Or.inl ⟨by rfl, ?hy5025⟩) ⟨trivial, HT.out⟩ ?rest5025
                                case hy5025 => (intro w hSw; obtain ⟨q1, q2, q3, q4, q5, q6⟩ := HX.out w hSw; go_simp; try with_reducible rfl)
                                simp only [Act.put, List.setIfInBounds_toArray, List.set_cons_zero, List.set_cons_succ]
                                refine wpTill.takeT (i := 28) (v := ?v5026) (some 125) rfl rfl (by kernel_rfl) (fun _ _ _ h => h) (Or.inl ⟨by rfl, ?hy5026⟩) ⟨trivial, HT.out⟩ ?rest5026
                                case hy5026 => (intro w hSw; obtain ⟨q1, q2, q3, q4, q5, q6⟩ := HX.out w hSw; go_simp; try with_reducible rfl)
                                simp only [Act.put, List.setIfInBounds_toArray, List.set_cons_zero, List.set_cons_succ]
                                refine wpTill.takeT (i := 29) (v := ?v5027) (some 126) rfl rfl (by kernel_rfl) (fun _ _ _ h => h) (Or.inl ⟨by rfl, ?hy5027⟩) ⟨trivial, HT.out⟩ ?rest5027
                                case hy5027 => (intro w hSw; obtain ⟨q1, q2, q3, q4, q5, q6⟩ := HX.out w hSw; go_simp; try with_reducible rfl)
                                simp only [Act.put, List.setIfInBounds_toArray, List.set_cons_zero, List.set_cons_succ]
                                refine wpTill.takeT (i := 30) (v := ?v5028) (some 127) rfl rfl (by kernel_rfl) (fun _ _ _ h => h) (Or.inl ⟨by rfl, ?hy5028⟩) ⟨trivial, HT.out⟩ ?rest5028
                                case hy5028 => (intro w hSw; obtain ⟨q1, q2, q3, q4, q5, q6⟩ := HX.out w hSw; go_simp; try with_reducible rfl)
                                simp only [Act.put, List.setIfInBounds_toArray, List.set_cons_zero, List.set_cons_succ]
                                refine wpTill.takeT (i := 31) (v := ?v5029) (some 128) rfl rfl (by kernel_rfl) (fun _ _ _ h => h) (Or.inl ⟨by rfl, ?hy5029⟩) ⟨trivial, HT.out⟩ ?rest5029
                                case hy5029 => (intro w hSw; obtain ⟨q1, q2, q3, q4, q5, q6⟩ := HX.out w hSw; go_simp; try with_reducible rfl)
                                simp only [Act.put, List.setIfInBounds_toArray, List.set_cons_zero, List.set_cons_succ]
                                refine wpTill.takeT (i := 32) (v := ?v5030) (some 129) rfl rfl (by kernel_rfl) (fun _ _ _ h => h) (Or.inl ⟨by rfl, ?hy5030⟩) ⟨trivial, HT.out⟩ ?rest5030
                                case hy5030 => (intro w hSw; obtain ⟨q1, q2, q3, q4, q5, q6⟩ := HX.out w hSw; go_simp; try with_reducible rfl)
                                simp only [Act.put, List.setIfInBounds_toArray, List.set_cons_zero, List.set_cons_succ]
                                refine wpTill.takeT (i := 33) (v := ?v5031) (some 130) rfl rfl (by kernel_rfl) (fun _ _ _ h => h) (Or.inl ⟨by rfl, ?hy5031⟩) ⟨trivial, HT.out⟩ ?rest5031
                                case hy5031 => (intro w hSw; obtain ⟨q1, q2, q3, q4, q5, q6⟩ := HX.out w hSw; go_simp; try with_reducible rfl)
                                simp only [Act.put, List.setIfInBounds_toArray, List.set_cons_zero, List.set_cons_succ]
                                refine wpTill.takeT (i := 34) (v := ?v5032) (some 131) rfl rfl (by kernel_rfl) (fun _ _ _ h => h) (Or.inl ⟨by rfl, ?hy5032⟩) ⟨trivial, HT.out⟩ ?rest5032
                                case hy5032 => (intro w hSw; obtain ⟨q1, q2, q3, q4, q5, q6⟩ := HX.out w hSw; go_simp; try with_reducible rfl)
                                simp only [Act.put, List.setIfInBounds_toArray, List.set_cons_zero, List.set_cons_succ]
                                refine wpTill.ready (rs := [27]) (by kernel_rfl) (by simp) ?_
                                refine AllTill.cons (i := 27) (rs := []) (by rfl) (fun K hK => ?_) ?_
                                · go_simp
                                  go_at_call 20
                                  refine (claim_w (HTWr.out.same HT.out) HQM.out).mono ?_
                                  rintro e wk ⟨v9, rfl, hq, ht7⟩
                                  clear hsz
                                  obtain ⟨xa, xn, xc, rfl⟩ : ∃ a n c, v9 = Value.slice a n c := (by obtain ⟨a, c, e, _⟩ := hq.shape; exact ⟨a, _, c, e⟩)
                                  have HQ := Lib.hid hq.sl
                                  have HT := Lib.hid (HT.out.trans ht7)
                                  clear hq ht7
                                  obtain ⟨nk, hsz⟩ : ∃ n, wk.heap.size = n := ⟨_, rfl⟩
                                  simp only [Act.put, List.setIfInBounds_toArray, List.set_cons_zero, List.set_cons_succ]
                                  refine hK.out _ _ trivial (fun _ => HT.out) ?_
                                  clear hK K
                                  refine wpTill.ready (rs := [35]) (by kernel_rfl) (by simp) ?_
                                  refine AllTill.cons (i := 35) (rs := []) (by rfl) (fun K hK => ?_) ?_
                                  · go_simp
                                    go_at_call 21
                                    refine (ints_e _ _ (m.claim q) _ HQ.out (HRH.out _ HT.out).2 (by have := HLN.out.2; omega)).mono ?_
                                    rintro e wk ⟨rfl, ht7⟩
                                    clear hsz
                                    have HT := Lib.hid (HT.out.trans ht7)
                                    clear ht7
                                    obtain ⟨nk, hsz⟩ : ∃ n, wk.heap.size = n := ⟨_, rfl⟩
                                    simp only [Act.put, List.setIfInBounds_toArray, List.set_cons_zero, List.set_cons_succ]
                                    refine hK.out _ _ trivial (fun _ => HT.out) ?_
                                    clear hK K
                                    refine wpTill.takeT (i := 36) (v := ?v5033) (some 133) rfl rfl (by kernel_rfl) (fun _ _ _ h => h) (Or.inl ⟨by rfl, ?hy5033⟩) ⟨trivial, HT.out⟩ ?rest5033
                                    case hy5033 => (intro w hSw; obtain ⟨q1, q2, q3, q4, q5, q6⟩ := HX.out w hSw; go_simp; try with_reducible rfl)
                                    simp only [Act.put, List.setIfInBounds_toArray, List.set_cons_zero, List.set_cons_succ]
                                    refine wpTill.takeT (i := 37) (v := ?v5034) (some 134) rfl rfl (by kernel_rfl) (fun _ _ _ h => h) (Or.inl ⟨by rfl, ?hy5034⟩) ⟨trivial, HT.out⟩ ?rest5034
                                    case hy5034 => (intro w hSw; obtain ⟨q1, q2, q3, q4, q5, q6⟩ := HX.out w hSw; go_simp; try with_reducible rfl)
                                    simp only [Act.put, List.setIfInBounds_toArray, List.set_cons_zero, List.set_cons_succ]
                                    refine wpTill.done (by kernel_rfl) ?_ _
                                    have HT9 := Lib.hid (HTR.out.trans HT.out)
                                    clear hsz
                                    go_wp2_with fail
                                    go_roundw
                                    case rel => exact ⟨j + 1, by omega, by go_num, HT9.out⟩
                                    case measure => simp [intOf]; omega
                                  exact AllTill.nil
                                exact AllTill.nil
                              exact AllTill.nil
                            exact AllTill.nil
                          · have hlt : ¬ (j : Int) < (L : Int) := by omega
                            have h0 : (0 : Int) ∉ m.ps := fun h => by have := HOK.out.pos 0 h; omega
                            have h1 : (-1 : Int) ∉ m.ps := fun h => by have := HOK.out.pos (-1) h; omega
                            have HH := Lib.hid (held_no HTWr.out h0)
                            have HN1 := Lib.hid h1
                            clear ht h0 h1
                            go_wp2_with fail
                            refine HH.out.mono ?_
                            rintro e w8 ⟨v8, rfl, hq8, ht8⟩
                            obtain ⟨ea, ec, rfl⟩ : ∃ a c, v8 = .slice a 0 c := by obtain ⟨a, c, e, _⟩ := hq8.shape; exact ⟨a, c, e⟩
                            have HT8 := Lib.hid (HTR.out.trans ht8)
                            have HC := Lib.hid (claim_no (HTWr.out.same ht8) HN1.out)
                            clear hq8 ht8 c3
                            go_wp2_with fail
                            refine HC.out.mono ?_
                            rintro e w9 ⟨v9, rfl, hq9, ht9⟩
                            obtain ⟨ea9, ec9, rfl⟩ : ∃ a c, v9 = .slice a 0 c := by obtain ⟨a, c, e, _⟩ := hq9.shape; exact ⟨a, c, e⟩
                            have HT9 := Lib.hid (HT8.out.trans ht9)
                            have HF : Hid (SameP w FA FB a b m r (.returned (.bool true)) w9) := Lib.hid ⟨rfl, FA1, HTW.out.same HT9.out, HFR.out.trans (Fr.same HT9.out HTW.out.A.lt)⟩
                            clear hq9 ht9
                            go_wp2_with fail
                            go_ret
                            exact HF.out
                  exact AllTill.nil
                exact AllTill.nil
              exact AllTill.nil
            exact AllTill.nil
          exact AllTill.nil
        exact AllTill.nil
      exact AllTill.nil
    exact AllTill.nil
  exact AllTill.nil
end Go.Proofs.YticglfmmjgnicaaGreat
