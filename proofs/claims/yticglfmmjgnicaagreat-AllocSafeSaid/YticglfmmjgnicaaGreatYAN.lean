/-
  What the reference's allocator is asked: who waits for what, whether it is safe, who is left.
  The reference's allocator: whether it is safe, who is left, a new one.
  Both allocators side by side: the program's and the reference's.
  One call on both.
  The law's own small run of the program's allocator.
  Both allocators in a law: the state, a list of calls as an argument; AllocPlays.
-/
import Derived.Test.YticglfmmjgnicaaGreatYAM
set_option linter.unusedVariables false
set_option linter.unusedSimpArgs false
namespace Go.Proofs.YticglfmmjgnicaaGreat
open Go Go.RowKit

theorem askOf_cons (z : List Int) (x : Int × List Int) (l : List (Int × List Int)) (q : Int) : askOf z (x :: l) q = askOf (if x.1 = q then x.2 else z) l q := rfl
theorem askOf_none (q : Int) : ∀ (l : List (Int × List Int)) (z : List Int), (∀ x, x ∈ l → x.1 ≠ q) → askOf z l q = z
  | [], _, _ => rfl
  | x :: l, z, h => by
    rw [askOf_cons, if_neg (h x (by simp)), askOf_none q l z (fun y hy => h y (by simp [hy]))]
theorem askOf_at (q : Int) : ∀ (l : List (Int × List Int)) (z : List Int) (p : Nat) (hp : p < l.length), (l[p]).1 = q → (∀ (j : Nat) (hj : j < l.length), (l[j]).1 = q → j = p) → askOf z l q = (l[p]).2
  | [], _, p, hp, _, _ => by simp at hp
  | x :: l, z, 0, hp, h1, h2 => by
    have h1 : x.1 = q := h1
    rw [askOf_cons, if_pos h1]
    refine askOf_none q l _ (fun y hy e => ?_)
    obtain ⟨j, hj, e2⟩ := List.getElem_of_mem hy
    have := h2 (j + 1) (by simpa using hj) (by simpa [e2] using e)
    omega
  | x :: l, z, p + 1, hp, h1, h2 => by
    have hx : x.1 ≠ q := fun e => by
      have := h2 0 (by simp) e
      omega
    rw [askOf_cons, if_neg hx]
    exact askOf_at q l z p (by simpa using hp) (by simpa using h1) (fun j hj e => by
      have := h2 (j + 1) (by simpa using hj) (by simpa using e)
      omega)
theorem pend_one {m : Am} (ok : m.Ok) {q : Int} {p : Nat} (hp : p < m.pend.length) (h1 : (m.pend[p]).1 = q) : ∀ (j : Nat) (hj : j < m.pend.length), (m.pend[j]).1 = q → j = p := fun j hj e => by
  have a1 : j < (m.pend.map (·.1)).length := by rw [List.length_map]; exact hj
  have a2 : p < (m.pend.map (·.1)).length := by rw [List.length_map]; exact hp
  have hpw := List.pairwise_iff_getElem.1 ok.pn
  rcases Nat.lt_trichotomy j p with c | c | c
  · exact absurd (by rw [List.getElem_map, List.getElem_map, e, h1]) (hpw j p a1 a2 c)
  · exact c
  · exact absurd (by rw [List.getElem_map, List.getElem_map, e, h1]) (hpw p j a2 a1 c)
def AskRow (w : World) (ov v : Value) (xs : List Int) : Prop := Sl w v xs ∧ ∀ k, v.ownBlock = some k → ov.ownBlock ≠ some k ∧ k < w.heap.size
/-- One row more. -/
theorem row_app {wd : World} {base : Nat} {v : Value} {vs : List Value} (h : Qu wd base 22 v vs) (hb : base ≤ wd.heap.size) (hn : vs.length ≤ 1000) (a : Option Addr) (n c : Nat) :
    ∃ v' w2, (∀ ty, (Builtin.append_ #[45, 45] ty #[v, .slice (some ⟨wd.heap.size, 0, none⟩) 1 1]).run Tryz.prog (wd.alloc (.cells #[.slice a n c] 22)) = .ok v' w2) ∧ Qu w2 base 22 v' (vs ++ [.slice a n c]) ∧ Touch v.ownBlock.toList wd w2 ∧ ∀ k, v'.ownBlock = some k → v.ownBlock = some k ∨ wd.heap.size ≤ k := by
  obtain ⟨i0, hi, hz0, hz1, hz2⟩ := infoR
  have ta : Touch [] wd (wd.alloc (.cells #[.slice a n c] 22)) := (Touch.refl _ _).alloc _
  have hsz := ta.size
  have hB : Blk (wd.alloc (.cells #[.slice a n c] 22)) wd.heap.size #[.slice a n c] 22 := Blk.new rfl
  obtain ⟨v', w2, r1, A2, g2, o2⟩ := Qu.append (t := 45) Tryz.underlying45 hi hz0 hz1 hz2 rfl (Qu.alloc h (.cells #[.slice a n c] 22)) (by omega) ⟨wd.heap.size, 0, none⟩ 1 (.slice a n c) (hB.cell (i := 0) rfl) rfl (by omega) (by omega)
  exact ⟨v', w2, r1, A2, ((Touch.refl v.ownBlock.toList wd).alloc _).grown g2 (fun k hk _ => by simp [hk]), fun k hk => by
    rcases o2 k hk with e | e
    · exact .inl e
    · exact .inr (by omega)⟩
set_option maxRecDepth 100000 in
set_option maxHeartbeats 16000000 in
theorem rasks_any (w : World) (F : List Nat) (b : Nat) (m : Am) (r : RaV) (h : Ra w F b m.rc r) (ok : m.Ok) :
    Calls Tryz.prog 61 #[.pointer (some ⟨b, 0, none⟩)] w fun e w' => ∃ v, e = .returned v ∧ Rws w' v m.asks ∧ Touch [] w w' := by
  have HRA := Lib.hid h
  have HOK := Lib.hid ok
  obtain ⟨L, hL⟩ : ∃ L, m.ps.length = L := ⟨_, rfl⟩
  have HL := Lib.hid hL
  have hL32 : L ≤ 32 := by rw [← hL]; exact ok.few
  obtain ⟨n, hn⟩ : ∃ n, m.tot.length = n := ⟨_, rfl⟩
  have HN := Lib.hid hn
  have hn6 : n ≤ 6 := by rw [← hn]; exact ok.nt
  obtain ⟨P, hP⟩ : ∃ P, m.pend.length = P := ⟨_, rfl⟩
  have HPL := Lib.hid hP
  have hP32 : P ≤ 32 := by rw [← hP]; exact pend_few ok
  obtain ⟨pa, pc, hpv⟩ : ∃ a c, r.pv = .slice a L c := by obtain ⟨a, c, e⟩ := h.ps.im.1.form; exact ⟨a, c, by rw [← hL]; exact e⟩
  obtain ⟨ta, tc, htv⟩ : ∃ a c, r.tv = .slice a n c := by obtain ⟨a, c, e⟩ := h.tot.1.form; exact ⟨a, c, by rw [← hn]; exact e⟩
  obtain ⟨qa, qc, hqv⟩ : ∃ a c, r.qv = .slice a P c := by obtain ⟨⟨base, hpe⟩, _⟩ := h.pd; obtain ⟨a, c, e, _⟩ := hpe.form; exact ⟨a, c, by rw [← hP]; exact e⟩
  have HQV := Lib.hid hqv
  have HX : Hid (∀ w', Touch [] w w' → w'.cell? ⟨b, 0, none⟩ = some (.slice ta n tc) ∧ w'.cell? ⟨b, 3, none⟩ = some (.slice pa L pc) ∧ w'.cell? ⟨b, 6, none⟩ = some (.slice qa P qc) ∧ Sl w' (.slice pa L pc) m.ps) := Lib.hid (fun w' ht => by
    have ho := h.obj.touch ht (by simp)
    refine ⟨by rw [← htv]; exact ho.cell (i := 0) rfl, by rw [← hpv]; exact ho.cell (i := 3) rfl, by rw [← hqv]; exact ho.cell (i := 6) rfl, ?_⟩
    rw [← hpv]
    exact h.ps.im.1.touch ht (fun _ _ => by simp))
  have HLB0 := Lib.hid ((Lb.start 22 (Touch.refl [] w)).empty (n := w.heap.size) rfl)
  clear h ok hL hn hP hpv htv hqv
  go_enter Tryz.func61, Tryz.ntmps61
  go_wp2_with fail
  go_loopw [3, 4] (fun ov iv wr => ∃ (j : Nat) (vs : List Value), j ≤ L ∧ iv = .int .i64 (j : Int) ∧ Lb 22 w wr ov vs none none ∧ vs.length = j ∧ ∀ i, i < j → AskRow wr ov (vs.getD i (.slice none 0 0)) (askOf m.zero m.pend (m.ps.getD i 0))) (fun _ iv _ => L + 1 - (intOf iv).toNat)
  case atStart => exact ⟨0, [], by omega, rfl, HLB0.out, rfl, fun i hi => by omega⟩
  case round =>
    clear HLB0
    obtain ⟨j, vs, hj, rfl, hlb, hvl, hrows⟩ := hrel
    have HLB := Lib.hid hlb
    have HRO := Lib.hid (And.intro hvl hrows)
    obtain ⟨oa, on_, oc, rfl⟩ : ∃ a n c, u3 = .slice a n c := by obtain ⟨a, c, e, _⟩ := hlb.a.shape; exact ⟨a, _, c, e⟩
    obtain ⟨x0, x3, x6, xs⟩ := HX.out wr hlb.t
    by_cases hk : j < L
    · have hlt : (j : Int) < (L : Int) := by omega
      have t1 : Touch [] wr (wr.alloc (.cells (rowA (fun _ => 0) n) 3)) := (Touch.refl [] wr).alloc _
      obtain ⟨z0, z3, z6, zs⟩ := HX.out _ (hlb.t.trans t1)
      obtain ⟨q, hq⟩ : ∃ q, m.ps.getD j 0 = q := ⟨_, rfl⟩
      have HQ := Lib.hid hq
      obtain ⟨g, off, hg, xo⟩ := zs.ix (q := j) (by rw [HL.out]; exact hk)
      cases hg
      have x1 := xo _ (Touch.refl _ _)
      rw [hq] at x1
      have hmk := run_mk_of (P := Tryz.prog) 22 3 Tryz.underlying22 (by kernel_rfl) n (by omega) wr
      have HZN := Lib.hid (zero_new n hn6 wr)
      have HWT := Lib.hid (rwait_any _ F b m.rc r q (HRA.out.same (hlb.t.trans t1)) (by show m.pend.length ≤ 1000; have := HPL.out; omega))
      have HLB1 := Lib.hid (hlb.same t1)
      have HT1 := Lib.hid t1
      clear hlb hvl hrows xo xs zs t1 hq
      go_wp2_with fail
      refine HWT.out.mono ?_
      rintro e w2 ⟨k1, rfl, hk1, hw2⟩
      have hk1 : FirstQ m.pend q k1 := hk1
      subst hw2
      have HK1 := Lib.hid hk1
      clear hk1 HWT x1 hmk x0 x3 x6
      go_upto_if 33 with fail
      go_cut [5] from 8 to 45 (fun v5 wx => (∃ a n c, v5 = .slice a n c) ∧ wr.alloc (.cells (rowA (fun _ => 0) n) 3) = wx ∧ AskRow (wr.alloc (.cells (rowA (fun _ => 0) n) 3)) (.slice oa on_ oc) v5 (askOf m.zero m.pend q))
      case first =>
        rcases firstQ_no HK1.out with ⟨hk1e, hno⟩ | ⟨p, hk1e, hpl, hpq⟩
        · subst hk1e
          have HF : Hid (AskRow (wr.alloc (.cells (rowA (fun _ => 0) n) 3)) (.slice oa on_ oc) (.slice (some ⟨wr.heap.size, 0, none⟩) n n) (askOf m.zero m.pend q)) := Lib.hid (by
            rw [askOf_none q m.pend m.zero hno]
            refine ⟨by unfold Am.zero; rw [HN.out]; exact HZN.out, fun k hk => ?_⟩
            simp [Value.ownBlock] at hk
            subst hk
            refine ⟨fun e => ?_, by simp⟩
            have := (HLB.out.a.own _ e).2
            omega)
          clear hno
          go_wp2_with fail
          go_meet
          case rel => exact ⟨⟨_, _, _, rfl⟩, rfl, HF.out⟩
        · subst hk1e
          have hge : ¬ ((p : Nat) : Int) < 0 := by omega
          have hpq2 : (m.pend[p]).1 = q := by simpa [hpl] using hpq
          have hao := askOf_at q m.pend m.zero p hpl hpq2 (pend_one HOK.out hpl hpq2)
          have hra := HRA.out.same (HLB.out.t.trans HT1.out)
          obtain ⟨⟨base, hpe⟩, _, hpu⟩ := hra.pd
          have hpe : Av (wr.alloc (.cells (rowA (fun _ => 0) n) 3)) base 74 2 r.qv m.pend.length (askF m.pend r.qu) := hpe
          rw [HQV.out, HPL.out] at hpe
          obtain ⟨g0, cap, e, _, _, _, _, hc, _, _⟩ := hpe.at (i := p) (by have := HPL.out; omega)
          cases e
          have him : Im (wr.alloc (.cells (rowA (fun _ => 0) n) 3)) F [b] (r.qu p) (m.pend.getD p (0, [])).2 := hpu p hpl
          obtain ⟨ua, un, uc, hue⟩ := im_form him
          have d1 : (wr.alloc (.cells (rowA (fun _ => 0) n) 3)).cell? ⟨g0, p * 2 + 1, none⟩ = some (.slice ua un uc) := by rw [← hue]; exact hc 1 (by omega)
          have hpP : (p : Int) < (P : Int) := by have := HPL.out; omega
          have HF : Hid (AskRow (wr.alloc (.cells (rowA (fun _ => 0) n) 3)) (.slice oa on_ oc) (.slice ua un uc) (askOf m.zero m.pend q)) := Lib.hid (by
            rw [hao, ← hue]
            refine ⟨by have := him.1; rwa [show m.pend.getD p (0, []) = m.pend[p] from by simp [hpl]] at this, fun k hk => ?_⟩
            have h1 := HRA.out.lt k (him.2 k hk).1
            have h2 := (HLB.out.t.trans HT1.out).size
            exact ⟨fun e => by have := (HLB.out.a.own _ e).1; omega, by omega⟩)
          clear hao hra hpe hpu him hue hc hpq hpq2
          go_wp2_with fail
          go_meet
          case rel => exact ⟨⟨_, _, _, rfl⟩, rfl, HF.out⟩
      case rest =>
        obtain ⟨⟨va, vn, vc, rfl⟩, hwx, hrow⟩ := hcut
        rw [← hwx]
        clear hwx HK1 z0 z3 z6
        obtain ⟨W, hW⟩ : ∃ W, wr.alloc (.cells (rowA (fun _ => 0) n) 3) = W := ⟨_, rfl⟩
        rw [hW] at hrow HLB1 HT1 ⊢
        have HRW := Lib.hid hrow
        obtain ⟨v8, w8, hr8, hq8, ht8, ho8⟩ := row_app HLB1.out.a HLB1.out.t.size (by have := HRO.out.1; omega) va vn vc
        obtain ⟨ra, rn, rc, rfl⟩ : ∃ a n c, v8 = .slice a n c := by obtain ⟨a, c, e, _⟩ := hq8.shape; exact ⟨a, _, c, e⟩
        have HR8 := Lib.hid hr8
        have hnew : ∀ k, k ∈ (Value.slice oa on_ oc).ownBlock.toList → w.heap.size ≤ k := fun k hk => (HLB1.out.a.own k (Option.mem_toList.1 hk)).1
        have hb8 : Lb 22 w w8 (.slice ra rn rc) (vs ++ [Value.slice va vn vc]) none none := ⟨HLB1.out.t.transF ht8 (fun k hk hl => absurd hl (by have := hnew k hk; omega)), hq8, fun _ _ h => (by cases h), fun _ _ h => (by cases h)⟩
        have hmv : ∀ v xs, AskRow W (.slice oa on_ oc) v xs → AskRow w8 (.slice ra rn rc) v xs := fun v xs h => by
          refine ⟨h.1.touch ht8 (fun k hk hm => (h.2 k hk).1 (Option.mem_toList.1 hm)), fun k hk => ⟨fun e => ?_, Nat.lt_of_lt_of_le (h.2 k hk).2 ht8.size⟩⟩
          rcases ho8 k e with e2 | e2
          · exact (h.2 k hk).1 e2
          · have := (h.2 k hk).2; omega
        have hold : ∀ i, i < j → AskRow W (.slice oa on_ oc) (vs.getD i (.slice none 0 0)) (askOf m.zero m.pend (m.ps.getD i 0)) := fun i hi => by
          have h := HRO.out.2 i hi
          exact ⟨h.1.touch HT1.out (fun _ _ => by simp), fun k hk => ⟨(h.2 k hk).1, Nat.lt_of_lt_of_le (h.2 k hk).2 HT1.out.size⟩⟩
        have HF : Hid (Lb 22 w w8 (.slice ra rn rc) (vs ++ [Value.slice va vn vc]) none none ∧ (vs ++ [Value.slice va vn vc]).length = j + 1 ∧ ∀ i, i < j + 1 → AskRow w8 (.slice ra rn rc) ((vs ++ [Value.slice va vn vc]).getD i (.slice none 0 0)) (askOf m.zero m.pend (m.ps.getD i 0))) := Lib.hid ⟨hb8, by rw [List.length_append, HRO.out.1]; rfl, fun i hi => by
          by_cases e : i = j
          · subst e
            rw [show (vs ++ [Value.slice va vn vc]).getD i (.slice none 0 0) = .slice va vn vc from by rw [List.getD_eq_getElem?_getD, List.getElem?_append_right (by rw [HRO.out.1]; exact Nat.le_refl _), HRO.out.1]; simp, HQ.out]
            exact hmv _ _ hrow
          · rw [show (vs ++ [Value.slice va vn vc]).getD i (.slice none 0 0) = vs.getD i (.slice none 0 0) from by rw [List.getD_eq_getElem?_getD, List.getD_eq_getElem?_getD, List.getElem?_append_left (by rw [HRO.out.1]; omega)]]
            exact hmv _ _ (hold i (by omega))⟩
        clear hr8 hb8 hrow hW HZN hq8 ht8 ho8 hnew hmv hold
        go_wp2_with (at_builtin; refine Lib.wpList_append_run _ rfl _ _ _ _ rfl _ _ rfl rfl _ _ (HR8.out _) ?_)
        go_roundw
        case rel => exact ⟨j + 1, _, by omega, by go_num, HF.out.1, HF.out.2.1, HF.out.2.2⟩
        case measure => simp [intOf]; omega
    · have hlt : ¬ (j : Int) < (L : Int) := by omega
      have hjL : j = L := by omega
      have HF : Hid (Rws wr (.slice oa on_ oc) m.asks) := Lib.hid (HLB.out.a.rws (by rw [HRO.out.1, hjL]; simp [Am.asks, HL.out]) (fun i hi => by
        have hi2 : i < m.ps.length := by simpa [Am.asks] using hi
        have := (HRO.out.2 i (by rw [hjL, ← HL.out]; exact hi2)).1
        rw [show rw_ m.asks i = askOf m.zero m.pend (m.ps.getD i 0) from by simp [rw_, Am.asks, hi2]]
        exact this))
      have HTT := Lib.hid HLB.out.t
      clear hlb hvl hrows xs
      go_wp2_with fail
      go_ret
      exact ⟨_, rfl, HF.out, HTT.out⟩
end Go.Proofs.YticglfmmjgnicaaGreat

set_option linter.unusedVariables false
namespace Go.Proofs.YticglfmmjgnicaaGreat
open Go Go.RowKit

set_option maxRecDepth 100000 in
set_option maxHeartbeats 16000000 in
theorem rastuck_any (w : World) (F : List Nat) (b : Nat) (m : Am) (r : RaV) (h : Ra w F b m.rc r) (ok : m.Ok) :
    Calls Tryz.prog 33 #[.pointer (some ⟨b, 0, none⟩)] w (Own m.stuck w) := by
  have HRA := Lib.hid h
  obtain ⟨L, hL⟩ : ∃ L, m.ps.length = L := ⟨_, rfl⟩
  have HL := Lib.hid hL
  have hL32 : L ≤ 32 := by rw [← hL]; exact ok.few
  obtain ⟨pa, pc, hpv⟩ : ∃ a c, r.pv = .slice a L c := by obtain ⟨a, c, e⟩ := h.ps.im.1.form; exact ⟨a, c, by rw [← hL]; exact e⟩
  have HX0 : Hid (∀ w', Touch [] w w' → w'.cell? ⟨b, 1, none⟩ = some r.av ∧ w'.cell? ⟨b, 4, none⟩ = some r.hv ∧ w'.cell? ⟨b, 3, none⟩ = some (.slice pa L pc) ∧ Sl w' r.av m.avl ∧ Rws w' r.hv m.hs ∧ Sl w' (.slice pa L pc) m.ps) := Lib.hid (fun w' ht => by
    have ho := (h.same ht)
    exact ⟨ho.obj.cell (i := 1) rfl, ho.obj.cell (i := 4) rfl, by rw [← hpv]; exact ho.obj.cell (i := 3) rfl, ho.av.1, ho.hs.rws, by rw [← hpv]; exact ho.ps.im.1⟩)
  have HASK : Hid (∀ w', Touch [] w w' → Calls Tryz.prog 61 #[.pointer (some ⟨b, 0, none⟩)] w' fun e w'' => ∃ v, e = .returned v ∧ Rws w'' v m.asks ∧ Touch [] w' w'') := Lib.hid (fun w' ht => rasks_any w' F b m r (h.same ht) ok)
  obtain ⟨av, hav⟩ : ∃ x, r.av = x := ⟨_, rfl⟩
  obtain ⟨hv, hhv⟩ : ∃ x, r.hv = x := ⟨_, rfl⟩
  rw [hav, hhv] at HX0
  obtain ⟨rs, hrs⟩ : ∃ x, stuckL m.avl m.hs m.asks = x := ⟨_, rfl⟩
  have HSTK : Hid (∀ w' v, Touch [] w w' → Rws w' v m.asks → Calls Tryz.prog 60 #[av, hv, v] w' (Own rs w')) := Lib.hid (fun w' v ht hv => by
    have := rstuck_any av _ v m.avl m.hs m.asks w' (HX0.out w' ht).2.2.2.1 (HX0.out w' ht).2.2.2.2.1 hv
    rw [hrs] at this
    exact this)
  have HRS : Hid (m.stuck = rs.map (fun i => m.ps.getD i.toNat 0) ∧ rs.length ≤ L ∧ ∀ i, i ∈ rs → 0 ≤ i ∧ i < L) := Lib.hid ⟨by unfold Am.stuck; rw [hrs], by have := stuckL_len (xs := m.avl) (hs := m.hs) (qs := m.asks); rw [hrs] at this; simpa [Am.hs, HL.out] using this, fun i hi => by
    have := stuckL_mem (xs := m.avl) (hs := m.hs) (qs := m.asks) (by rw [hrs]; exact hi)
    simpa [Am.hs, HL.out] using this⟩
  have HX := HX0
  have HT := Lib.hid ((Touch.refl [] w).drew)
  clear h ok hL hpv hav hhv hrs
  go_enter Tryz.func33, Tryz.ntmps33
  go_upto_region 1 with fail
  refine wp_region_till (fun _ => True) (fun w' => Touch [] w w') [] (by kernel_rfl) ?_
  obtain ⟨wk, hwk⟩ : ∃ w', World.drew w = w' := ⟨_, rfl⟩
  rw [hwk] at HT ⊢
  clear hwk
  obtain ⟨nk, hsz⟩ : ∃ n, wk.heap.size = n := ⟨_, rfl⟩
  refine wpTill.takeT (i := 0) (v := ?v1) (some 6) rfl rfl (by kernel_rfl) (fun _ _ _ h => h) (Or.inl ⟨by rfl, ?hy1⟩) ⟨trivial, HT.out⟩ ?rest1
  case hy1 => (intro w hSw; obtain ⟨q1, q2, q3, q4, q5, q6⟩ := HX.out w hSw; go_simp; try with_reducible rfl)
  simp only [Act.put, List.setIfInBounds_toArray, List.set_cons_zero, List.set_cons_succ]
  refine wpTill.takeT (i := 1) (v := ?v2) (some 7) rfl rfl (by kernel_rfl) (fun _ _ _ h => h) (Or.inl ⟨by rfl, ?hy2⟩) ⟨trivial, HT.out⟩ ?rest2
  case hy2 => (intro w hSw; obtain ⟨q1, q2, q3, q4, q5, q6⟩ := HX.out w hSw; go_simp; try with_reducible rfl)
  simp only [Act.put, List.setIfInBounds_toArray, List.set_cons_zero, List.set_cons_succ]
  refine wpTill.takeT (i := 2) (v := ?v3) (some 8) rfl rfl (by kernel_rfl) (fun _ _ _ h => h) (Or.inl ⟨by rfl, ?hy3⟩) ⟨trivial, HT.out⟩ ?rest3
  case hy3 => (intro w hSw; obtain ⟨q1, q2, q3, q4, q5, q6⟩ := HX.out w hSw; go_simp; try with_reducible rfl)
  simp only [Act.put, List.setIfInBounds_toArray, List.set_cons_zero, List.set_cons_succ]
  refine wpTill.takeT (i := 3) (v := ?v4) (some 9) rfl rfl (by kernel_rfl) (fun _ _ _ h => h) (Or.inl ⟨by rfl, ?hy4⟩) ⟨trivial, HT.out⟩ ?rest4
  case hy4 => (intro w hSw; obtain ⟨q1, q2, q3, q4, q5, q6⟩ := HX.out w hSw; go_simp; try with_reducible rfl)
  simp only [Act.put, List.setIfInBounds_toArray, List.set_cons_zero, List.set_cons_succ]
  refine wpTill.takeT (i := 4) (v := ?v5) (some 10) rfl rfl (by kernel_rfl) (fun _ _ _ h => h) (Or.inl ⟨by rfl, ?hy5⟩) ⟨trivial, HT.out⟩ ?rest5
  case hy5 => (intro w hSw; obtain ⟨q1, q2, q3, q4, q5, q6⟩ := HX.out w hSw; go_simp; try with_reducible rfl)
  simp only [Act.put, List.setIfInBounds_toArray, List.set_cons_zero, List.set_cons_succ]
  refine wpTill.takeT (i := 5) (v := ?v6) (some 11) rfl rfl (by kernel_rfl) (fun _ _ _ h => h) (Or.inl ⟨by rfl, ?hy6⟩) ⟨trivial, HT.out⟩ ?rest6
  case hy6 => (intro w hSw; obtain ⟨q1, q2, q3, q4, q5, q6⟩ := HX.out w hSw; go_simp; try with_reducible rfl)
  simp only [Act.put, List.setIfInBounds_toArray, List.set_cons_zero, List.set_cons_succ]
  refine wpTill.takeT (i := 6) (v := ?v7) (some 12) rfl rfl (by kernel_rfl) (fun _ _ _ h => h) (Or.inl ⟨by rfl, ?hy7⟩) ⟨trivial, HT.out⟩ ?rest7
  case hy7 => (intro w hSw; obtain ⟨q1, q2, q3, q4, q5, q6⟩ := HX.out w hSw; go_simp; try with_reducible rfl)
  simp only [Act.put, List.setIfInBounds_toArray, List.set_cons_zero, List.set_cons_succ]
  refine wpTill.takeT (i := 7) (v := ?v8) (some 13) rfl rfl (by kernel_rfl) (fun _ _ _ h => h) (Or.inl ⟨by rfl, ?hy8⟩) ⟨trivial, HT.out⟩ ?rest8
  case hy8 => (intro w hSw; obtain ⟨q1, q2, q3, q4, q5, q6⟩ := HX.out w hSw; go_simp; try with_reducible rfl)
  simp only [Act.put, List.setIfInBounds_toArray, List.set_cons_zero, List.set_cons_succ]
  refine wpTill.takeT (i := 8) (v := ?v9) (some 14) rfl rfl (by kernel_rfl) (fun _ _ _ h => h) (Or.inl ⟨by rfl, ?hy9⟩) ⟨trivial, HT.out⟩ ?rest9
  case hy9 => (intro w hSw; obtain ⟨q1, q2, q3, q4, q5, q6⟩ := HX.out w hSw; go_simp; try with_reducible rfl)
  simp only [Act.put, List.setIfInBounds_toArray, List.set_cons_zero, List.set_cons_succ]
  refine wpTill.ready (rs := [9]) (by kernel_rfl) (by simp) ?_
  refine AllTill.cons (i := 9) (rs := []) (by rfl) (fun K hK => ?_) ?_
  · go_simp
    go_at_call 61
    refine (HASK.out _ HT.out).mono ?_
    rintro e wk ⟨va, rfl, hra, ht7⟩
    clear hsz
    have HRW : Hid (∀ w', Touch [] wk w' → Rws w' va m.asks) := Lib.hid (fun w' ht => hra.touch ht)
    have HT := Lib.hid (HT.out.trans ht7)
    have HT0 := Lib.hid (Touch.refl [] wk)
    clear hra ht7
    obtain ⟨nk, hsz⟩ : ∃ n, wk.heap.size = n := ⟨_, rfl⟩
    simp only [Act.put, List.setIfInBounds_toArray, List.set_cons_zero, List.set_cons_succ]
    refine hK.out _ _ trivial (fun _ => HT.out) ?_
    clear hK K
    refine wpTill.ready (rs := [10]) (by kernel_rfl) (by simp) ?_
    refine AllTill.cons (i := 10) (rs := []) (by rfl) (fun K hK => ?_) ?_
    · go_simp
      go_at_call 60
      refine (HSTK.out _ _ HT.out (HRW.out _ HT0.out)).mono ?_
      rintro e wk ⟨v7, rfl, hq7, ht7⟩
      clear hsz
      obtain ⟨la, ln, lc, rfl⟩ : ∃ a n c, v7 = Value.slice a n c := (by obtain ⟨a, c, e, _⟩ := hq7.shape; exact ⟨a, _, c, e⟩)
      have HQ7 : Hid (Qu wk w.heap.size 3 (.slice la ln lc) (rs.map (Value.int .i64))) := Lib.hid (hq7.mono HT.out.size)
      have HT := Lib.hid (HT.out.trans ht7)
      clear hq7 ht7
      obtain ⟨nk, hsz⟩ : ∃ n, wk.heap.size = n := ⟨_, rfl⟩
      simp only [Act.put, List.setIfInBounds_toArray, List.set_cons_zero, List.set_cons_succ]
      refine hK.out _ _ trivial (fun _ => HT.out) ?_
      clear hK K
      refine wpTill.takeT (i := 11) (v := ?v10) (some 3) rfl rfl (by kernel_rfl) (fun _ _ _ h => h) (Or.inl ⟨by rfl, ?hy10⟩) ⟨trivial, HT.out⟩ ?rest10
      case hy10 => (intro w hSw; obtain ⟨q1, q2, q3, q4, q5, q6⟩ := HX.out w hSw; go_simp; try with_reducible rfl)
      simp only [Act.put, List.setIfInBounds_toArray, List.set_cons_zero, List.set_cons_succ]
      refine wpTill.done (by kernel_rfl) ?_ _
      clear HASK HSTK hsz
      obtain ⟨R, hR⟩ : ∃ R, rs.length = R := ⟨_, rfl⟩
      have HRL := Lib.hid hR
      have hR32 : R ≤ 32 := by have := HRS.out.2.1; omega
      obtain rfl : R = ln := by obtain ⟨a, c, e⟩ := HQ7.out.form; cases e; rw [← hR]
      clear hR
      obtain ⟨W1, hW1⟩ : ∃ W1, wk = W1 := ⟨_, rfl⟩
      rw [hW1] at HQ7 HT ⊢
      clear hW1
      have HLB0 := Lib.hid ((Lb.start 3 (Touch.refl [] W1)).empty (n := W1.heap.size) rfl)
      have HT1 := HT
      have HXB := HX0
      clear HT HX HX0
      go_wp2_with fail
      go_loopw [4, 5] (fun ov iv wr => ∃ i : Nat, i ≤ R ∧ iv = .int .i64 (i : Int) ∧ Lb 3 W1 wr ov (((rs.take i).map (fun i => m.ps.getD i.toNat 0)).map (Value.int .i64)) none none) (fun _ iv _ => R + 1 - (intOf iv).toNat)
      case atStart => exact ⟨0, by omega, rfl, HLB0.out⟩
      case round =>
        clear HLB0
        obtain ⟨i, hi, rfl, hlb⟩ := hrel
        have HLB := Lib.hid hlb
        obtain ⟨oa, on_, oc, rfl⟩ : ∃ a n c, u4 = .slice a n c := by obtain ⟨a, c, e, _⟩ := hlb.a.shape; exact ⟨a, _, c, e⟩
        by_cases hiR : i < R
        · have hlt : (i : Int) < (R : Int) := by omega
          have hir : i < rs.length := by rw [HRL.out]; exact hiR
          have hmem := HRS.out.2.2 (rs.getD i 0) (by rw [show rs.getD i 0 = rs[i] from by simp [hir]]; exact List.getElem_mem hir)
          obtain ⟨c, hc⟩ : ∃ c : Nat, rs.getD i 0 = (c : Int) := ⟨(rs.getD i 0).toNat, by omega⟩
          have hck : c < L := by omega
          have hckI : (c : Int) < (L : Int) := by omega
          obtain ⟨gr, offr, era, hxr⟩ := HQ7.out.sl.ix (q := i) hir
          obtain ⟨gp, offp, epa, hxp⟩ := (HXB.out W1 HT1.out).2.2.2.2.2.ix (q := c) (by rw [HL.out]; exact hck)
          cases era
          cases epa
          obtain ⟨q, hq2⟩ : ∃ q, m.ps.getD c 0 = q := ⟨_, rfl⟩
          have HX : Hid (∀ w', Touch [] W1 w' → w'.cell? ⟨gr, offr + i, none⟩ = some (.int .i64 (c : Int)) ∧ w'.cell? ⟨gp, offp + c, none⟩ = some (.int .i64 q) ∧ w'.cell? ⟨b, 3, none⟩ = some (.slice (some ⟨gp, offp, none⟩) L pc)) := Lib.hid (fun w' ht => ⟨by rw [← hc]; exact hxr w' ht, by rw [← hq2]; exact hxp w' ht, (HXB.out w' (HT1.out.trans ht)).2.2.1⟩)
          have htk : (rs.take (i + 1)).map (fun i => m.ps.getD i.toNat 0) = (rs.take i).map (fun i => m.ps.getD i.toNat 0) ++ [q] := by
            rw [List.take_succ_eq_append_getElem hir, List.map_append, show rs[i] = (c : Int) from by rw [← hc]; simp [hir]]
            simp only [List.map_cons, List.map_nil, Int.toNat_natCast, hq2]
          have HTK := Lib.hid htk
          have HIR := Lib.hid hiR
          have HT := Lib.hid hlb.t.drew
          have HLB := Lib.hid (hlb.same ((Touch.refl [] wr).drew))
          clear hlb hmem hc hxr hxp hq2 htk
          go_upto_region 6 with fail
          refine wp_region_till (fun _ => True) (fun w' => Touch [] W1 w') [] (by kernel_rfl) ?_
          obtain ⟨wk, hwk⟩ : ∃ w', wr.drew = w' := ⟨_, rfl⟩
          rw [hwk] at HLB HT ⊢
          clear hwk
          obtain ⟨nk, hsz⟩ : ∃ n, wk.heap.size = n := ⟨_, rfl⟩
          refine wpTill.takeT (i := 0) (v := ?v1001) (some 24) rfl rfl (by kernel_rfl) (fun _ _ _ h => h) (Or.inl ⟨by rfl, ?hy1001⟩) ⟨trivial, HT.out⟩ ?rest1001
          case hy1001 => (intro w hSw; obtain ⟨q1, q2, q3⟩ := HX.out w hSw; go_simp; try with_reducible rfl)
          simp only [Act.put, List.setIfInBounds_toArray, List.set_cons_zero, List.set_cons_succ]
          refine wpTill.takeT (i := 1) (v := ?v1002) (some 25) rfl rfl (by kernel_rfl) (fun _ _ _ h => h) (Or.inl ⟨by rfl, ?hy1002⟩) ⟨trivial, HT.out⟩ ?rest1002
          case hy1002 => (intro w hSw; obtain ⟨q1, q2, q3⟩ := HX.out w hSw; go_simp; try with_reducible rfl)
          simp only [Act.put, List.setIfInBounds_toArray, List.set_cons_zero, List.set_cons_succ]
          refine wpTill.takeT (i := 2) (v := ?v1003) (some 26) rfl rfl (by kernel_rfl) (fun _ _ _ h => h) (Or.inl ⟨by rfl, ?hy1003⟩) ⟨trivial, HT.out⟩ ?rest1003
          case hy1003 => (intro w hSw; obtain ⟨q1, q2, q3⟩ := HX.out w hSw; go_simp; try with_reducible rfl)
          simp only [Act.put, List.setIfInBounds_toArray, List.set_cons_zero, List.set_cons_succ]
          refine wpTill.takeT (i := 3) (v := ?v1004) (some 27) rfl rfl (by kernel_rfl) (fun _ _ _ h => h) (Or.inl ⟨by rfl, ?hy1004⟩) ⟨trivial, HT.out⟩ ?rest1004
          case hy1004 => (intro w hSw; obtain ⟨q1, q2, q3⟩ := HX.out w hSw; go_simp; try with_reducible rfl)
          simp only [Act.put, List.setIfInBounds_toArray, List.set_cons_zero, List.set_cons_succ]
          refine wpTill.takeT (i := 4) (v := ?v1005) (some 28) rfl rfl (by kernel_rfl) (fun _ _ _ h => h) (Or.inl ⟨by rfl, ?hy1005⟩) ⟨trivial, HT.out⟩ ?rest1005
          case hy1005 => (intro w hSw; obtain ⟨q1, q2, q3⟩ := HX.out w hSw; go_simp; try with_reducible rfl)
          simp only [Act.put, List.setIfInBounds_toArray, List.set_cons_zero, List.set_cons_succ]
          refine wpTill.takeT (i := 5) (v := ?v1006) (some 29) rfl rfl (by kernel_rfl) (fun _ _ _ h => h) (Or.inl ⟨by rfl, ?hy1006⟩) ⟨trivial, HT.out⟩ ?rest1006
          case hy1006 => (intro w hSw; obtain ⟨q1, q2, q3⟩ := HX.out w hSw; go_simp; try with_reducible rfl)
          simp only [Act.put, List.setIfInBounds_toArray, List.set_cons_zero, List.set_cons_succ]
          refine wpTill.takeT (i := 6) (v := ?v1007) (some 30) rfl rfl (by kernel_rfl) (fun _ _ _ h => h) (Or.inl ⟨by rfl, ?hy1007⟩) ⟨trivial, HT.out⟩ ?rest1007
          case hy1007 => (intro w hSw; obtain ⟨q1, q2, q3⟩ := HX.out w hSw; go_simp; try with_reducible rfl)
          simp only [Act.put, List.setIfInBounds_toArray, List.set_cons_zero, List.set_cons_succ]
          refine wpTill.takeT (i := 7) (v := ?v1008) (some 31) rfl rfl (by kernel_rfl) (fun _ _ _ h => h) (Or.inl ⟨by rfl, ?hy1008⟩) ⟨trivial, HT.out⟩ ?rest1008
          case hy1008 => (intro w hSw; obtain ⟨q1, q2, q3⟩ := HX.out w hSw; go_simp; try with_reducible rfl)
          simp only [Act.put, List.setIfInBounds_toArray, List.set_cons_zero, List.set_cons_succ]
          refine wpTill.takeT (i := 8) (v := ?v1009) (some 32) rfl rfl (by kernel_rfl) (fun _ _ _ h => h) (Or.inl ⟨by rfl, ?hy1009⟩) ⟨trivial, HT.out⟩ ?rest1009
          case hy1009 => (intro w hSw; obtain ⟨q1, q2, q3⟩ := HX.out w hSw; go_simp; try with_reducible rfl)
          simp only [Act.put, List.setIfInBounds_toArray, List.set_cons_zero, List.set_cons_succ]
          refine wpTill.takeT (i := 9) (v := ?v1010) (some 33) rfl rfl (by kernel_rfl) (fun _ _ _ h => h) (Or.inl ⟨by rfl, ?hy1010⟩) ⟨trivial, HT.out⟩ ?rest1010
          case hy1010 => (intro w hSw; obtain ⟨q1, q2, q3⟩ := HX.out w hSw; go_simp; try with_reducible rfl)
          simp only [Act.put, List.setIfInBounds_toArray, List.set_cons_zero, List.set_cons_succ]
          refine wpTill.takeT (i := 10) (v := ?v1011) (some 34) rfl rfl (by kernel_rfl) (fun _ _ _ h => h) (Or.inl ⟨by rfl, ?hy1011⟩) ⟨trivial, HT.out⟩ ?rest1011
          case hy1011 => (intro w hSw; obtain ⟨q1, q2, q3⟩ := HX.out w hSw; go_simp; try with_reducible rfl)
          simp only [Act.put, List.setIfInBounds_toArray, List.set_cons_zero, List.set_cons_succ]
          refine wpTill.ready (rs := [11]) (by kernel_rfl) (by simp) ?_
          refine AllTill.cons (i := 11) (rs := []) (by rfl) (fun K hK => ?_) ?_
          · go_simp
            have HLB := Lib.hid (HLB.out.box (.int .i64 q) hsz.symm)
            have HT := Lib.hid HLB.out.t
            clear hsz
            obtain ⟨wk, hwk⟩ : ∃ w', wk.alloc (.cells #[.int .i64 q] 3) = w' := ⟨_, rfl⟩
            rw [hwk] at HLB HT ⊢
            clear hwk
            obtain ⟨nk, hsz⟩ : ∃ n, wk.heap.size = n := ⟨_, rfl⟩
            refine hK.out _ _ trivial (fun _ => HT.out) ?_
            clear hK K
            refine wpTill.ready (rs := [12]) (by kernel_rfl) (by simp) ?_
            refine AllTill.cons (i := 12) (rs := []) (by rfl) (fun K hK => ?_) ?_
            · obtain ⟨va, wk, hr, hB⟩ := HLB.out.appIB 1 rfl (by have := HRS.out.2.1; have := HRL.out; simp; omega)
              obtain ⟨xa, xn, xc, rfl⟩ : ∃ a n c, va = Value.slice a n c := (by obtain ⟨a, c, e, _⟩ := hB.a.shape; exact ⟨a, _, c, e⟩)
              refine step_append_run rfl _ _ _ _ rfl _ _ rfl rfl _ _ (hr _) ?_
              clear hsz
              have HLB := Lib.hid hB
              have HT := Lib.hid hB.t
              obtain ⟨nk, hsz⟩ : ∃ n, wk.heap.size = n := ⟨_, rfl⟩
              clear hr hB
              simp only [Act.put, List.setIfInBounds_toArray, List.set_cons_zero, List.set_cons_succ]
              refine hK.out _ _ trivial (fun _ => HT.out) ?_
              clear hK K
              refine wpTill.takeT (i := 13) (v := ?v1012) (some 4) rfl rfl (by kernel_rfl) (fun _ _ _ h => h) (Or.inl ⟨by rfl, ?hy1012⟩) ⟨trivial, HT.out⟩ ?rest1012
              case hy1012 => (intro w hSw; obtain ⟨q1, q2, q3⟩ := HX.out w hSw; go_simp; try with_reducible rfl)
              simp only [Act.put, List.setIfInBounds_toArray, List.set_cons_zero, List.set_cons_succ]
              refine wpTill.done (by kernel_rfl) ?_ _
              have HF := HLB.out
              rw [← List.map_singleton, ← List.map_append, ← HTK.out] at HF
              have HF := Lib.hid HF
              clear hsz
              go_wp2_with fail
              go_roundw
              case rel => exact ⟨i + 1, by have := HIR.out; omega, by go_num, HF.out⟩
              case measure => have := HIR.out; simp [intOf]; omega
            exact AllTill.nil
          exact AllTill.nil
        · have hlt : ¬ (i : Int) < (R : Int) := by omega
          obtain rfl : i = R := by omega
          have HFI : Hid (Own m.stuck w (.returned (.slice oa on_ oc)) wr) := Lib.hid (by
            have hq := hlb.a
            rw [List.take_of_length_le (by rw [HRL.out]; exact Nat.le_refl _), ← HRS.out.1] at hq
            exact ⟨_, rfl, hq.mono HT1.out.size, HT1.out.trans hlb.t⟩)
          clear hlb
          go_wp2_with fail
          go_ret
          exact HFI.out
    exact AllTill.nil
  exact AllTill.nil
def RNewP (w : World) (tot : List Int) (clm : Bool) (e : Ending) (w' : World) : Prop :=
  Touch [] w w' ∧ ((newB tot = false ∧ e = .returned (.tuple #[.pointer none, .int .i64 1])) ∨ (newB tot = true ∧ ∃ b F r, e = .returned (.tuple #[.pointer (some ⟨b, 0, none⟩), .int .i64 0]) ∧ Ra w' F b (Am.new tot clm).rc r ∧ ∀ k, k ∈ F → w.heap.size ≤ k))
theorem rnew_mem {w w1 w2 : World} {tot : List Int} {clm : Bool} {v1 v2 : Value} (t1 : Touch [] w w1) (h1 : Qu w1 w.heap.size 3 v1 (tot.map (Value.int .i64))) (t2 : Touch [] w1 w2) (h2 : Qu w2 w1.heap.size 3 v2 (tot.map (Value.int .i64))) :
    Ra (w2.alloc (.cells #[v1, v2, .bool clm, .slice none 0 0, .slice none 0 0, .slice none 0 0, .slice none 0 0] 48)) ([w2.heap.size] ++ (v1.ownBlock.toList ++ v2.ownBlock.toList)) w2.heap.size (Am.new tot clm).rc ⟨v1, v2, .slice none 0 0, .slice none 0 0, .slice none 0 0, .slice none 0 0, fun _ => .slice none 0 0⟩ ∧ ∀ k, k ∈ [w2.heap.size] ++ (v1.ownBlock.toList ++ v2.ownBlock.toList) → w.heap.size ≤ k := by
  have s1 := t1.size
  have s2 := t2.size
  have ta : Touch [] w2 (w2.alloc (.cells #[v1, v2, .bool clm, .slice none 0 0, .slice none 0 0, .slice none 0 0, .slice none 0 0] 48)) := (Touch.refl _ _).alloc _
  have o1 := h1.own
  have o2 := h2.own
  have hav : (Am.new tot clm).rc.avl = tot := avlL_nil tot _
  refine ⟨⟨Blk.new rfl, fun k hk => ?_, by simp, ⟨(h1.sl.touch t2 (fun _ _ => by simp)).touch ta (fun _ _ => by simp), fun k hk => ⟨by simp [hk], fun hm => ?_⟩⟩, ⟨by rw [hav]; exact h2.sl.touch ta (fun _ _ => by simp), fun k hk => ⟨by simp [hk], fun hm => ?_⟩⟩,
    ⟨⟨0, Qu.nil _ _ _⟩, fun k hk => by simp [Value.ownBlock] at hk⟩, ⟨[], rfl, fun k hk => by simp [Value.ownBlock] at hk, ⟨0, Qu.nil _ _ _⟩, fun i hi => by cases hi⟩, ⟨[], rfl, fun k hk => by simp [Value.ownBlock] at hk, ⟨0, Qu.nil _ _ _⟩, fun i hi => by cases hi⟩, ⟨⟨0, Av.nil _ _ _ _ _⟩, fun k hk => by simp [Value.ownBlock] at hk, fun i hi => by cases hi⟩⟩, fun k hk => ?_⟩
  · have s3 : (w2.alloc (.cells #[v1, v2, .bool clm, .slice none 0 0, .slice none 0 0, .slice none 0 0, .slice none 0 0] 48)).heap.size = w2.heap.size + 1 := by simp
    simp at hk
    rcases hk with e | e | e
    · omega
    · have := (o1 k e).2; omega
    · have := (o2 k e).2; omega
  · simp at hm
    have := (o1 k hk).2; omega
  · simp at hm
    have := (o2 k hk).2; omega
  · simp at hk
    rcases hk with e | e | e
    · omega
    · exact (o1 k e).1
    · have := (o2 k e).1; omega
set_option maxRecDepth 100000 in
set_option maxHeartbeats 8000000 in
theorem rnew_any (w : World) (v : Value) (tot : List Int) (clm : Bool) (h : Sl w v tot) (hl : tot.length ≤ 1000) : Calls Tryz.prog 12 #[v, .bool clm] w (RNewP w tot clm) := by
  obtain ⟨a, c, rfl⟩ := h.form
  obtain ⟨N, hN⟩ : ∃ N, tot.length = N := ⟨_, rfl⟩
  have HN := Lib.hid hN
  have hnb : newB tot = (decide (N ≤ 6) && isB tot (N : Int) && !decide ((0 : Int) ∈ tot)) := by rw [← hN]; rfl
  have HNB := Lib.hid hnb
  have HS := Lib.hid h
  rw [hN] at HS hl ⊢
  clear h hN hnb
  by_cases h6 : N ≤ 6
  · have hgt : ¬ (6 : Int) < (N : Int) := by omega
    obtain ⟨B, hB⟩ : ∃ B, isB tot (N : Int) = B := ⟨_, rfl⟩
    have HB := Lib.hid hB
    have H1 := Lib.hid (ris_q _ tot (N : Int) B w HS.out (by have := HN.out; omega) hB)
    obtain ⟨Z, hZ⟩ : ∃ Z, decide ((0 : Int) ∈ tot) = Z := ⟨_, rfl⟩
    have HZ := Lib.hid hZ
    have h2 := has_l (.slice a N c) tot 0 w HS.out (by have := HN.out; omega)
    rw [hZ] at h2
    have H2 := Lib.hid h2
    clear h2
    have H3 := Lib.hid (copy_any (.slice a N c) tot w HS.out (by rw [HN.out]; omega))
    have H4 : Hid (∀ w', Touch [] w w' → Calls Tryz.prog 43 #[.slice a N c] w' (Own tot w')) := Lib.hid (fun w' ht => copy_any (.slice a N c) tot w' (HS.out.touch ht (fun _ _ => by simp)) (by rw [HN.out]; omega))
    have HLE : Hid (decide (N ≤ 6) = true) := Lib.hid (dT h6)
    clear hB hZ
    go_enter Tryz.func12, Tryz.ntmps12
    go_wp2_with fail
    refine H1.out.mono ?_
    rintro e w1 ⟨rfl, rfl⟩
    cases B with
    | false =>
      have HF : Hid (RNewP w tot clm (.returned (.tuple #[.pointer none, .int .i64 1])) w) := Lib.hid ⟨Touch.refl _ _, .inl ⟨by rw [HNB.out, HB.out]; simp, rfl⟩⟩
      go_wp2_with fail
      go_ret2
      exact HF.out
    | true =>
      go_wp2_with fail
      refine H2.out.mono ?_
      rintro e w1 ⟨rfl, rfl⟩
      cases Z with
      | true =>
        have HF : Hid (RNewP w tot clm (.returned (.tuple #[.pointer none, .int .i64 1])) w) := Lib.hid ⟨Touch.refl _ _, .inl ⟨by rw [HNB.out, HZ.out]; simp, rfl⟩⟩
        go_wp2_with fail
        go_ret2
        exact HF.out
      | false =>
        have HT : Hid (newB tot = true) := Lib.hid (by rw [HNB.out, HZ.out, HB.out, HLE.out]; rfl)
        go_wp2_with fail
        refine H3.out.mono ?_
        rintro e w1 ⟨v1, rfl, hq1, t1⟩
        have HQ1 := Lib.hid (And.intro hq1 t1)
        obtain ⟨a1, n1, c1, rfl⟩ : ∃ a n c, v1 = Value.slice a n c := (by obtain ⟨a, c, e, _⟩ := hq1.shape; exact ⟨a, _, c, e⟩)
        clear hq1 t1
        go_wp2_with fail
        refine (H4.out w1 HQ1.out.2).mono ?_
        rintro e w2 ⟨v2, rfl, hq2, t2⟩
        obtain ⟨a2, n2, c2, rfl⟩ : ∃ a n c, v2 = Value.slice a n c := (by obtain ⟨a, c, e, _⟩ := hq2.shape; exact ⟨a, _, c, e⟩)
        have HM := Lib.hid (rnew_mem (clm := clm) HQ1.out.2 HQ1.out.1 t2 hq2)
        have HF : Hid (RNewP w tot clm (.returned (.tuple #[.pointer (some ⟨w2.heap.size, 0, none⟩), .int .i64 0])) (w2.alloc (.cells #[.slice a1 n1 c1, .slice a2 n2 c2, .bool clm, .slice none 0 0, .slice none 0 0, .slice none 0 0, .slice none 0 0] 48))) := Lib.hid ⟨(HQ1.out.2.trans t2).alloc _, .inr ⟨HT.out, _, _, _, rfl, HM.out.1, HM.out.2⟩⟩
        clear hq2 t2 HM
        go_wp2_with fail
        go_ret2
        exact HF.out
  · have hgt : (6 : Int) < (N : Int) := by omega
    have HF : Hid (RNewP w tot clm (.returned (.tuple #[.pointer none, .int .i64 1])) w) := Lib.hid ⟨Touch.refl _ _, .inl ⟨by rw [HNB.out, dF h6]; simp, rfl⟩⟩
    go_enter Tryz.func12, Tryz.ntmps12
    go_wp2_with fail
    go_ret2
    exact HF.out
end Go.Proofs.YticglfmmjgnicaaGreat

set_option linter.unusedVariables false
namespace Go.Proofs.YticglfmmjgnicaaGreat
open Go Go.RowKit

/-- A process comes in: the reference, by the model. -/
theorem radmit_m (w : World) (F : List Nat) (b : Nat) (m : Am) (r : RaV) (q : Int) (v : Value) (u : List Int) (h : Ra w F b m.rc r) (ok : m.Ok) (hqi : InI q) (hu : Sl w v u) (hul : u.length ≤ 1000) (hv : u ≠ [] → ∀ k, v.ownBlock = some k → k ∉ F) :
    Calls Tryz.prog 44 #[.pointer (some ⟨b, 0, none⟩), .int .i64 q, v] w fun e w' => e = .returned (.int .i64 (m.cAdmit q u).2) ∧ Up w F b (m.cAdmit q u).1.rc w' := by
  refine (radmit_any w F b m.rc r q v u h hqi hu hul hv ok.nt ok.few (by simp [Am.rc, Am.hs]) (by simp [Am.rc, Am.cs])).mono ?_
  intro e w' hp
  unfold AdmP at hp
  have e0 : m.rc.tot = m.tot := rfl
  have e1 : m.rc.ps = m.ps := rfl
  have e2 : m.rc.clm = m.clm := rfl
  have e3 : m.rc.hs = m.ps.map m.held := rfl
  have e4 : m.rc.cs = m.ps.map m.claim := rfl
  rw [e0, e1, e2, e3, e4] at hp
  unfold Am.cAdmit
  by_cases c1 : q < 1 ∨ isB u m.tot.length = false
  · rw [if_pos c1] at hp ⊢; exact hp
  · rw [if_neg c1] at hp ⊢
    by_cases c2 : q ∈ m.ps
    · rw [if_pos c2] at hp ⊢; exact hp
    · rw [if_neg c2] at hp ⊢
      by_cases c3 : 32 ≤ m.ps.length
      · rw [if_pos c3] at hp ⊢; exact hp
      · rw [if_neg c3] at hp ⊢
        by_cases c4 : m.clm = true ∧ fitsB u m.tot = false
        · rw [if_pos c4] at hp ⊢; exact hp
        · rw [if_neg c4] at hp ⊢
          obtain ⟨k, hk, hlo, hhi, he, hup⟩ := hp
          refine ⟨he, ?_⟩
          have hs := insP_split hk hlo hhi
          have hrc : (m.enrol q u).rc = ⟨m.tot, m.avl, m.clm, m.ps.take k ++ [q] ++ m.ps.drop k, (m.ps.map m.held).take k ++ [List.replicate m.tot.length 0] ++ (m.ps.map m.held).drop k, (m.ps.map m.claim).take k ++ [u] ++ (m.ps.map m.claim).drop k, m.pend⟩ := by
            show Rec.mk m.tot (m.enrol q u).avl m.clm (insP q m.ps) ((insP q m.ps).map (updF m.held q (List.replicate m.tot.length 0))) ((insP q m.ps).map (updF m.claim q u)) m.pend = _
            rw [Am.admit_avl u c2, hs, map_ins m.held (updF m.held q (List.replicate m.tot.length 0)) c2 (fun p hp => updF_ne _ _ hp), map_ins m.claim (updF m.claim q u) c2 (fun p hp => updF_ne _ _ hp), updF_at, updF_at]
          show Up w F b (m.enrol q u).rc w'
          rw [hrc]
          exact hup
/-- Both. -/
structure TwR (w : World) (FA FB : List Nat) (a b : Nat) (mA mB : Am) (r : RaV) : Prop where
  A : PaS w FA a mA
  B : Ra w FB b mB.rc r
  d : ∀ k, k ∈ FA → k ∉ FB
section
variable {w w' : World} {FA FB FA' FB' : List Nat} {a b : Nat} {mA mB mA' mB' : Am} {r r' : RaV}
theorem TwR.stepA (h : TwR w FA FB a b mA mB r) (hf : Fr FA w FA' w') (hp : PaS w' FA' a mA') : TwR w' FA' FB a b mA' mB r :=
  ⟨hp, h.B.touch hf.t (fun k hk => h.d k hk), fun k hk hm => by
    rcases hf.g k hk with e | e
    · exact h.d k e hm
    · have := h.B.lt k hm; omega⟩
theorem TwR.stepB (h : TwR w FA FB a b mA mB r) (hf : Fr FB w FB' w') (hp : Ra w' FB' b mB'.rc r') : TwR w' FA FB' a b mA mB' r' :=
  ⟨h.A.touch hf.t (fun k hk hm => h.d k hm hk), hp, fun k hk hm => by
    rcases hf.g k hm with e | e
    · exact h.d k hk e
    · have := h.A.lt k hk; omega⟩
theorem TwR.same (h : TwR w FA FB a b mA mB r) (ht : Touch [] w w') : TwR w' FA FB a b mA mB r := ⟨h.A.same ht, h.B.same ht, h.d⟩
end
/-- The program has been read: a list of its own is answered. -/
def OwT (w : World) (FA FB : List Nat) (a b : Nat) (mA mB : Am) (r : RaV) (xs : List Int) (e : Ending) (w' : World) : Prop :=
  ∃ v FA', e = .returned v ∧ TwR w' FA' FB a b mA mB r ∧ Fr FA w FA' w' ∧ Qu w' w.heap.size 3 v (xs.map (Value.int .i64)) ∧ ∀ k, v.ownBlock = some k → k ∉ FA'
section
variable {w w' : World} {FA FB : List Nat} {a b : Nat} {mA mB : Am} {r : RaV}
theorem RdOwn.owT {p : PaP} {xs : List Int} {e : Ending} (h : TwR w FA FB a b mA mB r) (hpd : p.pd = mA.pend) (hr : RdOwn w FA a mA p xs e w') : OwT w FA FB a b mA mB r xs e w' := by
  obtain ⟨v, F', he, hrd, hq, ho⟩ := hr
  obtain ⟨h1, h2⟩ := hrd.paS h.A.1 hpd
  exact ⟨v, F', he, h.stepA h1 h2, h1, hq, ho⟩
theorem avail_w (h : TwR w FA FB a b mA mB r) : Calls Tryz.prog 17 #[.pointer (some ⟨a, 0, none⟩)] w (OwT w FA FB a b mA mB r mA.avl) := by
  obtain ⟨ok, p, hp, e⟩ := h.A
  exact (avail_any w FA a mA p hp ok).mono fun _ _ hr => hr.owT h e
theorem pids_w (h : TwR w FA FB a b mA mB r) : Calls Tryz.prog 18 #[.pointer (some ⟨a, 0, none⟩)] w (OwT w FA FB a b mA mB r mA.ps) := by
  obtain ⟨ok, p, hp, e⟩ := h.A
  exact (pids_any w FA a mA p hp ok).mono fun _ _ hr => hr.owT h e
theorem stuck_w (h : TwR w FA FB a b mA mB r) : Calls Tryz.prog 25 #[.pointer (some ⟨a, 0, none⟩)] w (OwT w FA FB a b mA mB r mA.stuck) := by
  obtain ⟨ok, p, hp, e⟩ := h.A
  exact (astuck_any w FA a mA p hp ok e (by have := pend_few ok; omega)).mono fun _ _ hr => hr.owT h e
theorem safe_w (h : TwR w FA FB a b mA mB r) : Calls Tryz.prog 23 #[.pointer (some ⟨a, 0, none⟩)] w fun e w' => e = .returned (.bool mA.safe) ∧ ∃ FA', TwR w' FA' FB a b mA mB r ∧ Fr FA w FA' w' := by
  obtain ⟨ok, p, hp, e⟩ := h.A
  refine (asafe_any w FA a mA p hp ok).mono ?_
  rintro _ _ ⟨he, F', hr⟩
  obtain ⟨h1, h2⟩ := hr.paS ok e
  exact ⟨he, F', h.stepA h1 h2, h1⟩
theorem pend_w (h : TwR w FA FB a b mA mB r) : Calls Tryz.prog 26 #[.pointer (some ⟨a, 0, none⟩)] w (PendP mA.pend w) := by
  obtain ⟨ok, p, hp, e⟩ := h.A
  have := pending_any w FA a mA p hp.toPb (by rw [e]; have := pend_few ok; omega) (fun i hi => by
    rw [e] at hi ⊢
    have := (ok.pi (mA.pend.getD i (0, [])) (by rw [show mA.pend.getD i (0, []) = mA.pend[i] from by simp [hi]]; exact List.getElem_mem _)).2
    have h2 := (isB_iff.1 this).1
    have := ok.nt
    omega)
  rw [e] at this
  exact this
theorem held_w (h : TwR w FA FB a b mA mB r) {q : Int} (hq : q ∈ mA.ps) : Calls Tryz.prog 19 #[.pointer (some ⟨a, 0, none⟩), .int .i64 q] w (Own (mA.held q) w) := by
  obtain ⟨ok, p, hp, e⟩ := h.A
  exact held_in w FA a mA p q hp.toPb ok.nt hq (ok.hl q hq) (by have := ok.pos q hq; unfold InI; omega)
theorem claim_w (h : TwR w FA FB a b mA mB r) {q : Int} (hq : q ∈ mA.ps) : Calls Tryz.prog 20 #[.pointer (some ⟨a, 0, none⟩), .int .i64 q] w (Own (mA.claim q) w) := by
  obtain ⟨ok, p, hp, e⟩ := h.A
  exact claim_in w FA a mA p q hp.toPb hq (by have := (isB_iff.1 (ok.cl q hq)).1; have := ok.nt; omega)
end
theorem ints_t (v v' : Value) (xs ys : List Int) (B : Bool) (w : World) (h : Sl w v xs) (h' : Sl w v' ys) (h1 : xs.length ≤ 1000000) (h2 : ys.length ≤ 1000000) (hB : EqI xs ys = B) :
    Calls Tryz.prog 21 #[v, v'] w fun e w' => e = .returned (.bool B) ∧ Touch [] w w' := by
  refine (ints_any v v' xs ys w h h' h1 h2).mono ?_
  rintro e w' ⟨he, n, hw⟩
  subst hw
  exact ⟨by rw [he, hB], (Touch.refl [] w).drewN n⟩
theorem ints_e (v v' : Value) (xs : List Int) (w : World) (h : Sl w v xs) (h' : Sl w v' xs) (h1 : xs.length ≤ 1000000) :
    Calls Tryz.prog 21 #[v, v'] w fun e w' => e = .returned (.bool true) ∧ Touch [] w w' := ints_t v v' xs xs true w h h' h1 h1 (eqI_refl xs)
theorem stuck_few {m : Am} (ok : m.Ok) : m.stuck.length ≤ 32 := by
  unfold Am.stuck
  rw [List.length_map]
  have h1 := stuckL_len (xs := m.avl) (hs := m.hs) (qs := m.asks)
  have h2 := ok.few
  have h3 : m.hs.length = m.ps.length := by simp [Am.hs]
  omega
end Go.Proofs.YticglfmmjgnicaaGreat

set_option linter.unusedVariables false
namespace Go.Proofs.YticglfmmjgnicaaGreat
open Go Go.RowKit

/-- The step on the model. -/
def Am.step (m : Am) (k q : Int) (u : List Int) : Am :=
  if k = 0 then (m.cAdmit q u).1 else if k = 1 then (m.cAsk q u).1 else if k = 2 then (m.cGive q u).1 else (m.cLeave q).1
def PlyP (w : World) (FA FB : List Nat) (a b : Nat) (m' : Am) (e : Ending) (w' : World) : Prop := e = .returned (.bool true) ∧ Touch (FA ++ FB) w w' ∧ ∃ FA' FB' r', TwR w' FA' FB' a b m' m' r' ∧ (∀ k, k ∈ FA' → k ∈ FA ∨ w.heap.size ≤ k) ∧ ∀ k, k ∈ FB' → k ∈ FB ∨ w.heap.size ≤ k
/-- First the one, then the other. -/
theorem PlyP.both {w w1 w2 w3 : World} {FA FB FA' FB' : List Nat} {a b : Nat} {m m' : Am} {r r' : RaV} (h : TwR w FA FB a b m m r) (hf1 : Fr FA w FA' w1) (hp : PaS w1 FA' a m') (hf2 : Fr FB w1 FB' w2) (hr : Ra w2 FB' b m'.rc r') (ht : Touch [] w2 w3) : PlyP w FA FB a b m' (.returned (.bool true)) w3 := by
  have h1 := h.stepA hf1 hp
  have h2 := h1.stepB hf2 hr
  have hs := hf1.t.size
  refine ⟨rfl, ?_, FA', FB', r', h2.same ht, hf1.g, fun k hk => ?_⟩
  · exact ((hf1.t.mono (fun k hk => List.mem_append.2 (.inl hk))).trans (hf2.t.mono (fun k hk => List.mem_append.2 (.inr hk)))).trans (ht.mono (by simp))
  · rcases hf2.g k hk with e | e
    · exact .inl e
    · exact .inr (by omega)
theorem PlyP.wider {w w0 w' : World} {FA FB : List Nat} {a b : Nat} {m' : Am} {e : Ending} (ht : Touch [] w0 w) (hA : ∀ k, k ∈ FA → k < w0.heap.size) (hB : ∀ k, k ∈ FB → k < w0.heap.size) (h : PlyP w FA FB a b m' e w') : PlyP w0 FA FB a b m' e w' := by
  obtain ⟨h1, h2, FA', FB', r', h3, h4, h5⟩ := h
  have hs := ht.size
  exact ⟨h1, (ht.mono (by simp)).trans h2, FA', FB', r', h3, fun k hk => (h4 k hk).imp id (fun e => by omega), fun k hk => (h5 k hk).imp id (fun e => by omega)⟩
theorem scanF_few : ∀ (l : List (Int × List Int)) (m : Am) (s : List (Int × List Int)) (g : List Int), (Am.scanF l m s g).2.2.length ≤ l.length + g.length := fun l m s g => by
  have h := Am.scanF_len l m s g
  have : ∀ (l : List (Int × List Int)) (m : Am) (s : List (Int × List Int)) (g : List Int), s.length ≤ (Am.scanF l m s g).2.1.length := fun l => by
    induction l with
    | nil => intro m s g; exact Nat.le_refl _
    | cons x l ih =>
      intro m s g
      unfold Am.scanF
      by_cases hg : m.grant x (decide (s.length = 0)) = true
      · rw [if_pos hg]; exact ih _ _ _
      · rw [if_neg hg]; have := ih m (s ++ [x]) g; simp at this; omega
  have := this l m s g
  omega
theorem scan_few {m : Am} (ok : m.Ok) : m.scan.2.length ≤ 32 := by
  have h := scanF_few m.pend m [] []
  have := pend_few ok
  have e : m.scan.2 = (Am.scanF m.pend m [] []).2.2 := rfl
  rw [e]
  simp at h
  omega
theorem ask_few {m : Am} (ok : m.Ok) (q : Int) (u : List Int) : (m.cAsk q u).2.1.length ≤ 1000 := by
  unfold Am.cAsk
  split; simp
  split; simp
  split; simp
  split; simp
  rename_i h1 h2 h3 h4
  have := scan_few (ok.wait (p := q) (u := u) (by simpa using h1) (by simpa using h2) h3 (fun hc => by
    cases hf : fitsB (addW (m.held q) u) (m.claim q) with
    | true => rfl
    | false => exact absurd ⟨hc, hf⟩ h4))
  simp only
  omega
theorem give_few {m : Am} (ok : m.Ok) (q : Int) (u : List Int) : (m.cGive q u).2.1.length ≤ 1000 := by
  unfold Am.cGive
  split; simp
  split; simp
  split; simp
  rename_i h1 h2 h3
  have := scan_few (ok.back (p := q) (u := u) (by simpa using h1) (by simpa using h2) (by simpa using h3))
  simp only
  omega
theorem leave_few {m : Am} (ok : m.Ok) (q : Int) : (m.cLeave q).2.1.length ≤ 1000 := by
  unfold Am.cLeave
  split; simp
  rename_i h1
  have := scan_few (ok.quit (p := q) (by simpa using h1))
  simp only
  omega
set_option maxRecDepth 100000 in
set_option maxHeartbeats 40000000 in
theorem plays_any (w : World) (FA FB : List Nat) (a b : Nat) (m : Am) (r : RaV) (kd q : Int) (ua : Option Addr) (un uc : Nat) (u : List Int) (h : TwR w FA FB a b m m r) (hqi : InI q) (hu : Sl w (.slice ua un uc) u) (hul : u.length ≤ 1000) (hv : u ≠ [] → ∀ k, (Value.slice ua un uc).ownBlock = some k → k ∉ FA ∧ k ∉ FB) :
    Calls Tryz.prog 13 #[.pointer (some ⟨a, 0, none⟩), .pointer (some ⟨b, 0, none⟩), .agg #[.int .i64 kd, .int .i64 q, .slice ua un uc]] w (PlyP w FA FB a b (m.step kd q u)) := by
  have tb : Touch [] w (w.alloc (.cells #[.int .i64 kd, .int .i64 q, .slice ua un uc] 35)) := (Touch.refl [] w).alloc _
  have bx : Blk (w.alloc (.cells #[.int .i64 kd, .int .i64 q, .slice ua un uc] 35)) w.heap.size #[.int .i64 kd, .int .i64 q, .slice ua un uc] 35 := Blk.new rfl
  have HBX := Lib.hid bx
  have HTB := Lib.hid tb
  have HTW := Lib.hid (h.same tb)
  have HU := Lib.hid (hu.touch tb (fun _ _ => by simp))
  have HV := Lib.hid hv
  have HLT : Hid ((∀ k, k ∈ FA → k < w.heap.size) ∧ ∀ k, k ∈ FB → k < w.heap.size) := Lib.hid ⟨h.A.lt, h.B.lt⟩
  obtain ⟨W, hW⟩ : ∃ W, w.alloc (.cells #[.int .i64 kd, .int .i64 q, .slice ua un uc] 35) = W := ⟨_, rfl⟩
  have HW := Lib.hid hW
  rw [hW] at HTB HTW HU HBX
  obtain ⟨bq, hbq⟩ : ∃ k, w.heap.size = k := ⟨_, rfl⟩
  have HBQ := Lib.hid hbq
  rw [hbq] at HBX
  have HOK := Lib.hid h.A.1
  -- what is done first leaves the step, the units and the other's
  have HA : Hid (∀ FA' w' m', Fr FA W FA' w' → PaS w' FA' a m' → TwR w' FA' FB a b m' m r ∧ Blk w' bq #[.int .i64 kd, .int .i64 q, .slice ua un uc] 35 ∧ Sl w' (.slice ua un uc) u) := Lib.hid (fun FA' w' m' hf hp => by
    refine ⟨HTW.out.stepA hf hp, HBX.out.touch hf.t (fun hm => by have := HLT.out.1 _ hm; have := HBQ.out; omega), HU.out.keep hf.t (fun hne k hk => (HV.out hne k hk).1)⟩)
  have b0 : W.cell? ⟨bq, 0, none⟩ = some (.int .i64 kd) := HBX.out.cell (i := 0) rfl
  have b1 : W.cell? ⟨bq, 1, none⟩ = some (.int .i64 q) := HBX.out.cell (i := 1) rfl
  have b2 : W.cell? ⟨bq, 2, none⟩ = some (.slice ua un uc) := HBX.out.cell (i := 2) rfl
  clear h hu tb bx hv
  by_cases k0 : kd = 0
  · have HS : Hid (m.step kd q u = (m.cAdmit q u).1) := Lib.hid (by unfold Am.step; rw [if_pos k0])
    subst k0
    go_enter Tryz.func13, Tryz.ntmps13
    go_upto_region 3 with fail
    have HTD := Lib.hid ((Touch.refl [] W).drew)
    have HC1 := Lib.hid (admit_any W.drew FA a m q (.slice ua un uc) u (HTW.out.same HTD.out).A hqi (HU.out.touch HTD.out (fun _ _ => by simp)))
    clear b0 b1 b2
    have HT := Lib.hid (HBX.out.touch HTD.out (by simp))
    have HX : Hid (∀ w', Blk w' bq #[.int .i64 0, .int .i64 q, .slice ua un uc] 35 → w'.cell? ⟨bq, 1, none⟩ = some (.int .i64 q) ∧ w'.cell? ⟨bq, 2, none⟩ = some (.slice ua un uc)) := Lib.hid (fun w' hb => ⟨hb.cell (i := 1) rfl, hb.cell (i := 2) rfl⟩)
    have HA : Hid (∀ FA' w' m', Fr FA W.drew FA' w' → PaS w' FA' a m' → TwR w' FA' FB a b m' m r ∧ Blk w' bq #[.int .i64 0, .int .i64 q, .slice ua un uc] 35 ∧ Sl w' (.slice ua un uc) u) := Lib.hid (fun FA' w' m' hf hp => HA.out FA' w' m' (Fr.trans (Fr.same HTD.out HTW.out.A.lt) hf) hp)
    have HTW := Lib.hid (HTW.out.same HTD.out)
    obtain ⟨X, hX⟩ : ∃ X, (m.cAdmit q u).2 = X := ⟨_, rfl⟩
    have HXX := Lib.hid hX
    clear hW hX
    refine wp_region_till (fun _ => True) (fun w' => Blk w' bq #[.int .i64 0, .int .i64 q, .slice ua un uc] 35) [] (by kernel_rfl) ?_
    obtain ⟨wk, hwk⟩ : ∃ w', World.drew W = w' := ⟨_, rfl⟩
    rw [hwk] at HTD HC1 HTW HA HT ⊢
    clear hwk
    obtain ⟨nk, hsz⟩ : ∃ n, wk.heap.size = n := ⟨_, rfl⟩
    refine wpTill.takeT (i := 0) (v := ?v1) (some 23) rfl rfl (by kernel_rfl) (fun _ _ _ h => h) (Or.inl ⟨by rfl, ?hy1⟩) ⟨trivial, HT.out⟩ ?rest1
    case hy1 => (intro w hSw; obtain ⟨q1, q2⟩ := HX.out w hSw; go_simp; try with_reducible rfl)
    simp only [Act.put, List.setIfInBounds_toArray, List.set_cons_zero, List.set_cons_succ]
    refine wpTill.takeT (i := 1) (v := ?v2) (some 24) rfl rfl (by kernel_rfl) (fun _ _ _ h => h) (Or.inl ⟨by rfl, ?hy2⟩) ⟨trivial, HT.out⟩ ?rest2
    case hy2 => (intro w hSw; obtain ⟨q1, q2⟩ := HX.out w hSw; go_simp; try with_reducible rfl)
    simp only [Act.put, List.setIfInBounds_toArray, List.set_cons_zero, List.set_cons_succ]
    refine wpTill.takeT (i := 2) (v := ?v3) (some 25) rfl rfl (by kernel_rfl) (fun _ _ _ h => h) (Or.inl ⟨by rfl, ?hy3⟩) ⟨trivial, HT.out⟩ ?rest3
    case hy3 => (intro w hSw; obtain ⟨q1, q2⟩ := HX.out w hSw; go_simp; try with_reducible rfl)
    simp only [Act.put, List.setIfInBounds_toArray, List.set_cons_zero, List.set_cons_succ]
    refine wpTill.takeT (i := 3) (v := ?v4) (some 26) rfl rfl (by kernel_rfl) (fun _ _ _ h => h) (Or.inl ⟨by rfl, ?hy4⟩) ⟨trivial, HT.out⟩ ?rest4
    case hy4 => (intro w hSw; obtain ⟨q1, q2⟩ := HX.out w hSw; go_simp; try with_reducible rfl)
    simp only [Act.put, List.setIfInBounds_toArray, List.set_cons_zero, List.set_cons_succ]
    refine wpTill.takeT (i := 4) (v := ?v5) (some 27) rfl rfl (by kernel_rfl) (fun _ _ _ h => h) (Or.inl ⟨by rfl, ?hy5⟩) ⟨trivial, HT.out⟩ ?rest5
    case hy5 => (intro w hSw; obtain ⟨q1, q2⟩ := HX.out w hSw; go_simp; try with_reducible rfl)
    simp only [Act.put, List.setIfInBounds_toArray, List.set_cons_zero, List.set_cons_succ]
    refine wpTill.takeT (i := 6) (v := ?v6) (some 29) rfl rfl (by kernel_rfl) (fun _ _ _ h => h) (Or.inl ⟨by rfl, ?hy6⟩) ⟨trivial, HT.out⟩ ?rest6
    case hy6 => (intro w hSw; obtain ⟨q1, q2⟩ := HX.out w hSw; go_simp; try with_reducible rfl)
    simp only [Act.put, List.setIfInBounds_toArray, List.set_cons_zero, List.set_cons_succ]
    refine wpTill.takeT (i := 7) (v := ?v7) (some 30) rfl rfl (by kernel_rfl) (fun _ _ _ h => h) (Or.inl ⟨by rfl, ?hy7⟩) ⟨trivial, HT.out⟩ ?rest7
    case hy7 => (intro w hSw; obtain ⟨q1, q2⟩ := HX.out w hSw; go_simp; try with_reducible rfl)
    simp only [Act.put, List.setIfInBounds_toArray, List.set_cons_zero, List.set_cons_succ]
    refine wpTill.takeT (i := 8) (v := ?v8) (some 31) rfl rfl (by kernel_rfl) (fun _ _ _ h => h) (Or.inl ⟨by rfl, ?hy8⟩) ⟨trivial, HT.out⟩ ?rest8
    case hy8 => (intro w hSw; obtain ⟨q1, q2⟩ := HX.out w hSw; go_simp; try with_reducible rfl)
    simp only [Act.put, List.setIfInBounds_toArray, List.set_cons_zero, List.set_cons_succ]
    refine wpTill.takeT (i := 9) (v := ?v9) (some 32) rfl rfl (by kernel_rfl) (fun _ _ _ h => h) (Or.inl ⟨by rfl, ?hy9⟩) ⟨trivial, HT.out⟩ ?rest9
    case hy9 => (intro w hSw; obtain ⟨q1, q2⟩ := HX.out w hSw; go_simp; try with_reducible rfl)
    simp only [Act.put, List.setIfInBounds_toArray, List.set_cons_zero, List.set_cons_succ]
    refine wpTill.takeT (i := 10) (v := ?v10) (some 33) rfl rfl (by kernel_rfl) (fun _ _ _ h => h) (Or.inl ⟨by rfl, ?hy10⟩) ⟨trivial, HT.out⟩ ?rest10
    case hy10 => (intro w hSw; obtain ⟨q1, q2⟩ := HX.out w hSw; go_simp; try with_reducible rfl)
    simp only [Act.put, List.setIfInBounds_toArray, List.set_cons_zero, List.set_cons_succ]
    refine wpTill.ready (rs := [5]) (by kernel_rfl) (by simp) ?_
    refine AllTill.cons (i := 5) (rs := []) (by rfl) (fun K hK => ?_) ?_
    · go_simp
      go_at_call 34
      refine (HC1.out).mono ?_
      rintro e wk ⟨rfl, FA1, hf, hp⟩
      clear hsz
      have HA2 := Lib.hid (HA.out FA1 wk _ hf hp)
      have HP2 := Lib.hid (And.intro hf hp)
      have HT := Lib.hid HA2.out.2.1
      clear hf hp
      obtain ⟨nk, hsz⟩ : ∃ n, wk.heap.size = n := ⟨_, rfl⟩
      simp only [Act.put, List.setIfInBounds_toArray, List.set_cons_zero, List.set_cons_succ]
      refine hK.out _ _ trivial (fun _ => HT.out) ?_
      clear hK K
      refine wpTill.ready (rs := [11]) (by kernel_rfl) (by simp) ?_
      refine AllTill.cons (i := 11) (rs := []) (by rfl) (fun K hK => ?_) ?_
      · go_simp
        go_at_call 44
        refine (radmit_m _ FB b m r q (.slice ua un uc) u HA2.out.1.B HOK.out hqi HA2.out.2.2 hul (fun hne k hk => (HV.out hne k hk).2)).mono ?_
        rintro e wk ⟨rfl, FB1, r1, hf1, hr1⟩
        clear hsz
        have HF3 := Lib.hid (And.intro hf1 hr1)
        have HT := Lib.hid (HT.out.touch hf1.t (fun hm => by have := HLT.out.2 _ hm; have := HBQ.out; omega))
        clear hf1 hr1
        obtain ⟨nk, hsz⟩ : ∃ n, wk.heap.size = n := ⟨_, rfl⟩
        simp only [Act.put, List.setIfInBounds_toArray, List.set_cons_zero, List.set_cons_succ]
        refine hK.out _ _ trivial (fun _ => HT.out) ?_
        clear hK K
        refine wpTill.takeT (i := 12) (v := ?v11) (some 35) rfl rfl (by kernel_rfl) (fun _ _ _ h => h) (Or.inl ⟨by rfl, ?hy11⟩) ⟨trivial, HT.out⟩ ?rest11
        case hy11 => (intro w hSw; obtain ⟨q1, q2⟩ := HX.out w hSw; go_simp; try with_reducible rfl)
        simp only [Act.put, List.setIfInBounds_toArray, List.set_cons_zero, List.set_cons_succ]
        refine wpTill.takeT (i := 13) (v := ?v12) (some 6) rfl rfl (by kernel_rfl) (fun _ _ _ h => h) (Or.inl ⟨by rfl, ?hy12⟩) ⟨trivial, HT.out⟩ ?rest12
        case hy12 => (intro w hSw; obtain ⟨q1, q2⟩ := HX.out w hSw; go_simp; try with_reducible rfl)
        simp only [Act.put, List.setIfInBounds_toArray, List.set_cons_zero, List.set_cons_succ]
        refine wpTill.done (by kernel_rfl) ?_ _
        have HF : Hid (PlyP w FA FB a b (m.step 0 q u) (.returned (.bool true)) wk) := Lib.hid (by
          rw [HS.out]
          exact PlyP.wider (HTB.out.trans HTD.out) HLT.out.1 HLT.out.2 (PlyP.both HTW.out HP2.out.1 HP2.out.2 HF3.out.1 HF3.out.2 (Touch.refl [] wk)))
        clear hsz
        go_wp2_with fail
        go_ret
        exact HF.out
      exact AllTill.nil
    exact AllTill.nil
  · have k0' : (kd == 0) = false := by simpa using k0
    by_cases k1 : kd = 1
    · have HS : Hid (m.step kd q u = (m.cAsk q u).1) := Lib.hid (by unfold Am.step; rw [if_neg k0, if_pos k1])
      have HC1 := Lib.hid (ask_any W FA a m q (.slice ua un uc) u HTW.out.A HU.out)
      subst k1
      go_enter Tryz.func13, Tryz.ntmps13
      go_wp2_with fail
      refine HC1.out.mono ?_
      rintro e w2 ⟨v2, FA', rfl, hf, hp, hq2, ho2⟩
      have HA2 := Lib.hid (HA.out FA' w2 _ hf hp)
      have HP2 := Lib.hid (And.intro hf hp)
      obtain ⟨xs, hxs⟩ : ∃ xs, (m.cAsk q u).2.1 = xs := ⟨_, rfl⟩
      obtain ⟨X, hX⟩ : ∃ X, (m.cAsk q u).2.2 = X := ⟨_, rfl⟩
      have HC2 := Lib.hid (rask_any w2 FB b m r q (.slice ua un uc) u HA2.out.1.B HOK.out HA2.out.2.2 hul (fun hne k hk => (HV.out hne k hk).2))
      rw [hxs, hX] at HC2
      rw [hxs] at hq2
      rw [hX]
      have HX := Lib.hid hX
      have hxl : xs.length ≤ 1000 := by rw [← hxs]; exact ask_few HOK.out q u
      obtain ⟨xa, xn, xc, rfl⟩ : ∃ a n c, v2 = Value.slice a n c := (by obtain ⟨a, c, e, _⟩ := hq2.shape; exact ⟨a, _, c, e⟩)
      have HQ2 := Lib.hid (And.intro hq2 ho2)
      have hb2 := HA2.out.2.1
      have b1 : w2.cell? ⟨bq, 1, none⟩ = some (.int .i64 q) := hb2.cell (i := 1) rfl
      have b2 : w2.cell? ⟨bq, 2, none⟩ = some (.slice ua un uc) := hb2.cell (i := 2) rfl
      clear hf hp hq2 ho2 hb2 hxs hX HC1
      go_wp2_with fail
      refine HC2.out.mono ?_
      rintro e w3 ⟨v3, rfl, FB', hf3, ⟨r3, hr3⟩, hq3, ho3⟩
      obtain ⟨ya, yn, yc, rfl⟩ : ∃ a n c, v3 = Value.slice a n c := (by obtain ⟨a, c, e, _⟩ := hq3.shape; exact ⟨a, _, c, e⟩)
      have hsl2 := HQ2.out.1.sl.touch hf3.t (fun k hk hm => by have h1 := (HQ2.out.1.own k hk).1; have h2 := HLT.out.2 k hm; have h3 := HTB.out.size; omega)
      have HI := Lib.hid (ints_e _ _ xs w3 hsl2 hq3.sl (by omega))
      have HF3 := Lib.hid (And.intro hf3 hr3)
      clear b1 b2 b0 hf3 hr3 hq3 ho3 hsl2 HC2
      go_wp2_with fail
      refine HI.out.mono ?_
      rintro e w4 ⟨rfl, t4⟩
      have HF : Hid (PlyP w FA FB a b (m.step 1 q u) (.returned (.bool true)) w4) := Lib.hid (by
        rw [HS.out]
        exact PlyP.wider HTB.out HLT.out.1 HLT.out.2 (PlyP.both HTW.out HP2.out.1 HP2.out.2 HF3.out.1 HF3.out.2 t4))
      clear t4
      go_wp2_with fail
      go_ret
      exact HF.out
    · have k1' : (kd == 1) = false := by simpa using k1
      by_cases k2 : kd = 2
      · have HS : Hid (m.step kd q u = (m.cGive q u).1) := Lib.hid (by unfold Am.step; rw [if_neg k0, if_neg k1, if_pos k2])
        have HC1 := Lib.hid (give_any W FA a m q (.slice ua un uc) u HTW.out.A HU.out (fun hne k hk => (HV.out hne k hk).1))
        subst k2
        go_enter Tryz.func13, Tryz.ntmps13
        go_wp2_with fail
        refine HC1.out.mono ?_
        rintro e w2 ⟨v2, FA', rfl, hf, hp, hq2, ho2⟩
        have HA2 := Lib.hid (HA.out FA' w2 _ hf hp)
        have HP2 := Lib.hid (And.intro hf hp)
        obtain ⟨xs, hxs⟩ : ∃ xs, (m.cGive q u).2.1 = xs := ⟨_, rfl⟩
        obtain ⟨X, hX⟩ : ∃ X, (m.cGive q u).2.2 = X := ⟨_, rfl⟩
        have HC2 := Lib.hid (rgive_any w2 FB b m r q (.slice ua un uc) u HA2.out.1.B HOK.out HA2.out.2.2 hul (fun hne k hk => (HV.out hne k hk).2))
        rw [hxs, hX] at HC2
        rw [hxs] at hq2
        rw [hX]
        have HX := Lib.hid hX
        have hxl : xs.length ≤ 1000 := by rw [← hxs]; exact give_few HOK.out q u
        obtain ⟨xa, xn, xc, rfl⟩ : ∃ a n c, v2 = Value.slice a n c := (by obtain ⟨a, c, e, _⟩ := hq2.shape; exact ⟨a, _, c, e⟩)
        have HQ2 := Lib.hid (And.intro hq2 ho2)
        have hb2 := HA2.out.2.1
        have b1 : w2.cell? ⟨bq, 1, none⟩ = some (.int .i64 q) := hb2.cell (i := 1) rfl
        have b2 : w2.cell? ⟨bq, 2, none⟩ = some (.slice ua un uc) := hb2.cell (i := 2) rfl
        clear hf hp hq2 ho2 hb2 hxs hX HC1
        go_wp2_with fail
        refine HC2.out.mono ?_
        rintro e w3 ⟨v3, rfl, FB', hf3, ⟨r3, hr3⟩, hq3, ho3⟩
        obtain ⟨ya, yn, yc, rfl⟩ : ∃ a n c, v3 = Value.slice a n c := (by obtain ⟨a, c, e, _⟩ := hq3.shape; exact ⟨a, _, c, e⟩)
        have hsl2 := HQ2.out.1.sl.touch hf3.t (fun k hk hm => by have h1 := (HQ2.out.1.own k hk).1; have h2 := HLT.out.2 k hm; have h3 := HTB.out.size; omega)
        have HI := Lib.hid (ints_e _ _ xs w3 hsl2 hq3.sl (by omega))
        have HF3 := Lib.hid (And.intro hf3 hr3)
        clear b1 b2 b0 hf3 hr3 hq3 ho3 hsl2 HC2
        go_wp2_with fail
        refine HI.out.mono ?_
        rintro e w4 ⟨rfl, t4⟩
        have HF : Hid (PlyP w FA FB a b (m.step 2 q u) (.returned (.bool true)) w4) := Lib.hid (by
          rw [HS.out]
          exact PlyP.wider HTB.out HLT.out.1 HLT.out.2 (PlyP.both HTW.out HP2.out.1 HP2.out.2 HF3.out.1 HF3.out.2 t4))
        clear t4
        go_wp2_with fail
        go_ret
        exact HF.out
      · have k2' : (kd == 2) = false := by simpa using k2
        have HS : Hid (m.step kd q u = (m.cLeave q).1) := Lib.hid (by unfold Am.step; rw [if_neg k0, if_neg k1, if_neg k2])
        have HC1 := Lib.hid (leave_any W FA a m q HTW.out.A)
        go_enter Tryz.func13, Tryz.ntmps13
        go_wp2_with fail
        refine HC1.out.mono ?_
        rintro e w2 ⟨v2, FA', rfl, hf, hp, hq2, ho2⟩
        have HA2 := Lib.hid (HA.out FA' w2 _ hf hp)
        have HP2 := Lib.hid (And.intro hf hp)
        obtain ⟨xs, hxs⟩ : ∃ xs, (m.cLeave q).2.1 = xs := ⟨_, rfl⟩
        obtain ⟨X, hX⟩ : ∃ X, (m.cLeave q).2.2 = X := ⟨_, rfl⟩
        have HC2 := Lib.hid (rleave_any w2 FB b m r q HA2.out.1.B HOK.out)
        rw [hxs, hX] at HC2
        rw [hxs] at hq2
        rw [hX]
        have HX := Lib.hid hX
        have hxl : xs.length ≤ 1000 := by rw [← hxs]; exact leave_few HOK.out q
        obtain ⟨xa, xn, xc, rfl⟩ : ∃ a n c, v2 = Value.slice a n c := (by obtain ⟨a, c, e, _⟩ := hq2.shape; exact ⟨a, _, c, e⟩)
        have HQ2 := Lib.hid (And.intro hq2 ho2)
        have hb2 := HA2.out.2.1
        have b1 : w2.cell? ⟨bq, 1, none⟩ = some (.int .i64 q) := hb2.cell (i := 1) rfl
        have b2 : w2.cell? ⟨bq, 2, none⟩ = some (.slice ua un uc) := hb2.cell (i := 2) rfl
        clear hf hp hq2 ho2 hb2 hxs hX HC1
        go_wp2_with fail
        refine HC2.out.mono ?_
        rintro e w3 ⟨v3, rfl, FB', hf3, ⟨r3, hr3⟩, hq3, ho3⟩
        obtain ⟨ya, yn, yc, rfl⟩ : ∃ a n c, v3 = Value.slice a n c := (by obtain ⟨a, c, e, _⟩ := hq3.shape; exact ⟨a, _, c, e⟩)
        have hsl2 := HQ2.out.1.sl.touch hf3.t (fun k hk hm => by have h1 := (HQ2.out.1.own k hk).1; have h2 := HLT.out.2 k hm; have h3 := HTB.out.size; omega)
        have HI := Lib.hid (ints_e _ _ xs w3 hsl2 hq3.sl (by omega))
        have HF3 := Lib.hid (And.intro hf3 hr3)
        clear b1 b2 b0 hf3 hr3 hq3 ho3 hsl2 HC2
        go_wp2_with fail
        refine HI.out.mono ?_
        rintro e w4 ⟨rfl, t4⟩
        have HF : Hid (PlyP w FA FB a b (m.step kd q u) (.returned (.bool true)) w4) := Lib.hid (by
          rw [HS.out]
          exact PlyP.wider HTB.out HLT.out.1 HLT.out.2 (PlyP.both HTW.out HP2.out.1 HP2.out.2 HF3.out.1 HF3.out.2 t4))
        clear t4
        go_wp2_with fail
        go_ret
        exact HF.out
end Go.Proofs.YticglfmmjgnicaaGreat

set_option linter.unusedVariables false
namespace Go.Proofs.YticglfmmjgnicaaGreat
open Go Go.RowKit

def mA0 : Am := Am.new [2] true
def mA1 : Am := (Am.cAdmit mA0 1 [2]).1
def mA2 : Am := (Am.cAdmit mA1 2 [2]).1
def mA3 : Am := (Am.cAdmit mA2 3 [3]).1
def mA4 : Am := (Am.cAsk mA3 1 [1]).1
def mA5 : Am := (Am.cAsk mA4 2 [1]).1
def mA6 : Am := (Am.cAsk mA5 1 [2]).1
def mA7 : Am := (Am.cGive mA6 1 [2]).1
def mA8 : Am := (Am.cLeave mA7 1).1
def mA9 : Am := (Am.cLeave mA8 1).1
theorem rA1 : mA0.cAdmit 1 [2] = (mA1, 0) := Prod.ext rfl (by decide +kernel)
theorem rA2 : mA1.cAdmit 2 [2] = (mA2, 0) := Prod.ext rfl (by decide +kernel)
theorem rA3 : mA2.cAdmit 3 [3] = (mA3, 35) := Prod.ext rfl (by decide +kernel)
theorem rA4 : mA3.cAsk 1 [1] = (mA4, [1], 0) := Prod.ext rfl (Prod.ext (by decide +kernel) (by decide +kernel))
theorem rA5 : mA4.cAsk 2 [1] = (mA5, [], 0) := Prod.ext rfl (Prod.ext (by decide +kernel) (by decide +kernel))
theorem rA6 : mA5.cAsk 1 [2] = (mA6, [], 35) := Prod.ext rfl (Prod.ext (by decide +kernel) (by decide +kernel))
theorem rA7 : mA6.cGive 1 [2] = (mA7, [], 36) := Prod.ext rfl (Prod.ext (by decide +kernel) (by decide +kernel))
theorem rA8 : mA7.cLeave 1 = (mA8, [2], true) := Prod.ext rfl (Prod.ext (by decide +kernel) (by decide +kernel))
theorem rA9 : mA8.cLeave 1 = (mA9, [], false) := Prod.ext rfl (Prod.ext (by decide +kernel) (by decide +kernel))
theorem one_sl (w : World) (x : Int) : Sl (w.alloc (.cells #[.int .i64 x] 3)) (.slice (some ⟨w.heap.size, 0, none⟩) 1 1) [x] := ⟨_, 1, rfl, .inr ⟨w.heap.size, 0, rfl, by simp, row1 _ _ _ _ rfl⟩⟩
structure AwS (w0 w : World) (F : List Nat) (a : Nat) (m : Am) : Prop where
  P : PaS w F a m
  g : ∀ k, k ∈ F → w0.heap.size ≤ k
  t : Touch [] w0 w
section
variable {w0 w w' : World} {F F' : List Nat} {a : Nat} {m m' : Am}
theorem AwS.same (h : AwS w0 w F a m) (ht : Touch [] w w') : AwS w0 w' F a m := ⟨h.P.same ht, h.g, h.t.trans ht⟩
theorem AwS.step (h : AwS w0 w F a m) (hf : Fr F w F' w') (hp : PaS w' F' a m') : AwS w0 w' F' a m' :=
  ⟨hp, fun k hk => by
    rcases hf.g k hk with e | e
    · exact h.g k e
    · have := h.t.size; omega, h.t.transF hf.t (fun k hk hl => absurd hl (by have := h.g k hk; omega))⟩
/-- A list that a call has answered, kept. -/
structure Kp (w : World) (F : List Nat) (v : Value) (xs : List Int) : Prop where
  s : Sl w v xs
  o : ∀ k, v.ownBlock = some k → k ∉ F ∧ k < w.heap.size
theorem Kp.same {v : Value} {xs : List Int} (h : Kp w F v xs) (ht : Touch [] w w') : Kp w' F v xs := ⟨h.s.touch ht (fun _ _ => by simp), fun k hk => ⟨(h.o k hk).1, Nat.lt_of_lt_of_le (h.o k hk).2 ht.size⟩⟩
theorem Kp.step {v : Value} {xs : List Int} (h : Kp w F v xs) (hf : Fr F w F' w') : Kp w' F' v xs := ⟨h.s.touch hf.t (fun k hk => (h.o k hk).1), fun k hk => ⟨fun hm => by
  rcases hf.g k hm with e | e
  · exact (h.o k hk).1 e
  · have := (h.o k hk).2; omega, Nat.lt_of_lt_of_le (h.o k hk).2 hf.t.size⟩⟩
theorem Kp.of {w0 : World} {v : Value} {xs : List Int} (h : Qu w w0.heap.size 3 v (xs.map (Value.int .i64))) (ho : ∀ k, v.ownBlock = some k → k ∉ F) : Kp w F v xs := ⟨h.sl, fun k hk => ⟨ho k hk, (h.own k hk).2⟩⟩
end
def AwP (w : World) (e : Ending) (w' : World) : Prop := e = .returned (.bool true) ∧ Touch [] w w'
set_option maxRecDepth 100000 in
set_option maxHeartbeats 40000000 in
theorem awake_any (w : World) : Calls Tryz.prog 10 #[] w (AwP w) := by
  have t0 : Touch [] w (w.alloc (.cells #[.int .i64 2] 3)) := (Touch.refl [] w).alloc _
  have HT0 := Lib.hid t0
  have HC := Lib.hid (new_any _ _ [2] true (one_sl w 2) (by simp))
  clear t0
  go_enter Tryz.func10, Tryz.ntmps10
  go_wp2_with fail
  refine HC.out.mono ?_
  rintro e w1 ⟨ht, hn⟩
  have h2 : newB [2] = true := by decide +kernel
  rcases hn with ⟨hn, _⟩ | ⟨_, a, F0, rfl, hp, hg⟩
  · rw [h2] at hn; cases hn
  have HS : Hid (AwS w w1 F0 a mA0) := Lib.hid ⟨hp, fun k hk => by have := hg k hk; have := HT0.out.size; omega, HT0.out.trans ht⟩
  have HC := Lib.hid (new_any _ _ [0] true (one_sl w1 0) (by simp))
  clear ht h2 hp hg HT0
  go_wp2_with fail
  refine HC.out.mono ?_
  rintro e w2 ⟨ht, hn⟩
  have h0 : newB [0] = false := by decide +kernel
  rcases hn with ⟨_, rfl⟩ | ⟨hn, _⟩
  case inr => rw [h0] at hn; cases hn
  have HS := Lib.hid (HS.out.same (((Touch.refl [] w1).alloc _).trans ht))
  clear ht h0 HC
  have hs := HS.out.same ((Touch.refl [] w2).alloc (.cells #[.int .i64 2] 3))
  have hc := admit_any _ F0 a mA0 1 _ [2] hs.P (by unfold InI; omega) (one_sl w2 2)
  rw [rA1] at hc
  have HS := Lib.hid hs
  have HC := Lib.hid hc
  clear hs hc
  go_wp2_with fail
  refine HC.out.mono ?_
  rintro e w3 ⟨rfl, F1, hf, hp⟩
  have HS := Lib.hid (HS.out.step hf hp)
  clear hf hp HC
  have hs := HS.out.same ((Touch.refl [] w3).alloc (.cells #[.int .i64 2] 3))
  have hc := admit_any _ F1 a mA1 2 _ [2] hs.P (by unfold InI; omega) (one_sl w3 2)
  rw [rA2] at hc
  have HS := Lib.hid hs
  have HC := Lib.hid hc
  clear hs hc
  go_wp2_with fail
  refine HC.out.mono ?_
  rintro e w4 ⟨rfl, F2, hf, hp⟩
  have HS := Lib.hid (HS.out.step hf hp)
  clear hf hp HC
  have hs := HS.out.same ((Touch.refl [] w4).alloc (.cells #[.int .i64 3] 3))
  have hc := admit_any _ F2 a mA2 3 _ [3] hs.P (by unfold InI; omega) (one_sl w4 3)
  rw [rA3] at hc
  have HS := Lib.hid hs
  have HC := Lib.hid hc
  clear hs hc
  go_wp2_with fail
  refine HC.out.mono ?_
  rintro e w5 ⟨rfl, F3, hf, hp⟩
  have HS := Lib.hid (HS.out.step hf hp)
  clear hf hp HC
  have hs := HS.out.same ((Touch.refl [] w5).alloc (.cells #[.int .i64 1] 3))
  have hc := ask_any _ F3 a mA3 1 _ [1] hs.P (one_sl w5 1)
  rw [rA4] at hc
  have HS := Lib.hid hs
  have HC := Lib.hid hc
  clear hs hc
  go_wp2_with fail
  refine HC.out.mono ?_
  rintro e w6 ⟨v3, F4, rfl, hf, hp, hq, ho⟩
  obtain ⟨xa3, xc3, rfl⟩ : ∃ a c, v3 = Value.slice a 1 c := by obtain ⟨a, c, e, _⟩ := hq.shape; exact ⟨a, c, e⟩
  have HK3 := Lib.hid (Kp.of hq ho)
  have HS := Lib.hid (HS.out.step hf hp)
  clear hf hp HC hq ho
  have hs := HS.out.same ((Touch.refl [] w6).alloc (.cells #[.int .i64 1] 3))
  have HK3 := Lib.hid (HK3.out.same ((Touch.refl [] w6).alloc (.cells #[.int .i64 1] 3)))
  have hc := ask_any _ F4 a mA4 2 _ [1] hs.P (one_sl w6 1)
  rw [rA5] at hc
  have HS := Lib.hid hs
  have HC := Lib.hid hc
  clear hs hc
  go_wp2_with fail
  refine HC.out.mono ?_
  rintro e w7 ⟨v4, F5, rfl, hf, hp, hq, ho⟩
  obtain ⟨xa4, xc4, rfl⟩ : ∃ a c, v4 = Value.slice a 0 c := by obtain ⟨a, c, e, _⟩ := hq.shape; exact ⟨a, c, e⟩
  have HK3 := Lib.hid (HK3.out.step hf)
  have HS := Lib.hid (HS.out.step hf hp)
  clear hf hp HC hq ho
  have hs := HS.out.same ((Touch.refl [] w7).alloc (.cells #[.int .i64 2] 3))
  have HK3 := Lib.hid (HK3.out.same ((Touch.refl [] w7).alloc (.cells #[.int .i64 2] 3)))
  have hc := ask_any _ F5 a mA5 1 _ [2] hs.P (one_sl w7 2)
  rw [rA6] at hc
  have HS := Lib.hid hs
  have HC := Lib.hid hc
  clear hs hc
  go_wp2_with fail
  refine HC.out.mono ?_
  rintro e w8 ⟨v5, F6, rfl, hf, hp, hq, ho⟩
  obtain ⟨xa5, xc5, rfl⟩ : ∃ a c, v5 = Value.slice a 0 c := by obtain ⟨a, c, e, _⟩ := hq.shape; exact ⟨a, c, e⟩
  have HK3 := Lib.hid (HK3.out.step hf)
  have HS := Lib.hid (HS.out.step hf hp)
  clear hf hp HC hq ho
  have hs := HS.out.same ((Touch.refl [] w8).alloc (.cells #[.int .i64 2] 3))
  have HK3 := Lib.hid (HK3.out.same ((Touch.refl [] w8).alloc (.cells #[.int .i64 2] 3)))
  have hc := give_any _ F6 a mA6 1 _ [2] hs.P (one_sl w8 2) (fun _ k hk hm => by simp [Value.ownBlock] at hk; have := HS.out.P.lt k hm; omega)
  rw [rA7] at hc
  have HS := Lib.hid hs
  have HC := Lib.hid hc
  clear hs hc
  go_wp2_with fail
  refine HC.out.mono ?_
  rintro e w9 ⟨v6, F7, rfl, hf, hp, hq, ho⟩
  obtain ⟨xa6, xc6, rfl⟩ : ∃ a c, v6 = Value.slice a 0 c := by obtain ⟨a, c, e, _⟩ := hq.shape; exact ⟨a, c, e⟩
  have HK3 := Lib.hid (HK3.out.step hf)
  have HS := Lib.hid (HS.out.step hf hp)
  clear hf hp HC hq ho
  have HK3 := Lib.hid (HK3.out.same ((Touch.refl [] w9).alloc (.cells #[.int .i64 1] 3)))
  have HS := Lib.hid (HS.out.same ((Touch.refl [] w9).alloc (.cells #[.int .i64 1] 3)))
  have HC := Lib.hid (ints_e _ _ [1] _ HK3.out.s (one_sl w9 1) (by simp))
  go_wp2_with fail
  refine HC.out.mono ?_
  rintro e w20 ⟨rfl, ht⟩
  have HS := Lib.hid (HS.out.same ht)
  obtain ⟨ok, p, hp, e⟩ := HS.out.P
  have hc := pending_any w20 F7 a mA7 p hp.toPb (by rw [e]; decide +kernel) (by rw [e]; decide +kernel)
  rw [e] at hc
  have HC := Lib.hid hc
  clear ht ok hp e hc HK3
  go_wp2_with fail
  refine HC.out.mono ?_
  rintro e w21 ⟨v21, qu, rfl, haks, ht⟩
  obtain ⟨ka, kc, rfl⟩ : ∃ a c, v21 = Value.slice a 1 c := by obtain ⟨a, c, e, _⟩ := haks.s.form; exact ⟨a, c, e⟩
  have HS := Lib.hid (HS.out.same ht)
  clear haks ht HC
  have hs := HS.out
  have hc := leave_any _ F7 a mA7 1 hs.P
  rw [rA8] at hc
  have HS := Lib.hid hs
  have HC := Lib.hid hc
  clear hs hc
  go_wp2_with fail
  refine HC.out.mono ?_
  rintro e w10 ⟨v7, F8, rfl, hf, hp, hq, ho⟩
  obtain ⟨xa7, xc7, rfl⟩ : ∃ a c, v7 = Value.slice a 1 c := by obtain ⟨a, c, e, _⟩ := hq.shape; exact ⟨a, c, e⟩
  have HK7 := Lib.hid (Kp.of hq ho)
  have HS := Lib.hid (HS.out.step hf hp)
  clear hf hp HC hq ho
  have hs := HS.out
  have hc := leave_any _ F8 a mA8 1 hs.P
  rw [rA9] at hc
  have HS := Lib.hid hs
  have HC := Lib.hid hc
  clear hs hc
  go_wp2_with fail
  refine HC.out.mono ?_
  rintro e w11 ⟨v8, F9, rfl, hf, hp, hq, ho⟩
  obtain ⟨xa8, xc8, rfl⟩ : ∃ a c, v8 = Value.slice a 0 c := by obtain ⟨a, c, e, _⟩ := hq.shape; exact ⟨a, c, e⟩
  have HK7 := Lib.hid (HK7.out.step hf)
  have HS := Lib.hid (HS.out.step hf hp)
  clear hf hp HC hq ho
  have HK7 := Lib.hid (HK7.out.same ((Touch.refl [] w11).alloc (.cells #[.int .i64 2] 3)))
  have HS := Lib.hid (HS.out.same ((Touch.refl [] w11).alloc (.cells #[.int .i64 2] 3)))
  have HC := Lib.hid (ints_e _ _ [2] _ HK7.out.s (one_sl w11 2) (by simp))
  go_wp2_with fail
  refine HC.out.mono ?_
  rintro e w30 ⟨rfl, ht⟩
  have HS := Lib.hid (HS.out.same ht)
  obtain ⟨ok, p, hp, e⟩ := HS.out.P
  have hc := held_in w30 F9 a mA9 p 2 hp.toPb (by decide +kernel) (by decide +kernel) (by decide +kernel) (by unfold InI; omega)
  rw [show mA9.held 2 = [1] from by decide +kernel] at hc
  have HC := Lib.hid hc
  clear ht ok hp e hc HK7
  go_wp2_with fail
  refine HC.out.mono ?_
  rintro e w31 ⟨v31, rfl, hq, ht⟩
  obtain ⟨ha, hc, rfl⟩ : ∃ a c, v31 = Value.slice a 1 c := by obtain ⟨a, c, e, _⟩ := hq.shape; exact ⟨a, c, e⟩
  have HS := Lib.hid (HS.out.same (ht.trans ((Touch.refl [] w31).alloc (.cells #[.int .i64 1] 3))))
  have HC := Lib.hid (ints_e _ _ [1] _ (hq.sl.touch ((Touch.refl [] w31).alloc (.cells #[.int .i64 1] 3)) (fun _ _ => by simp)) (one_sl w31 1) (by simp))
  clear hq ht
  go_wp2_with fail
  refine HC.out.mono ?_
  rintro e w32 ⟨rfl, ht⟩
  have HS := Lib.hid (HS.out.same ht)
  obtain ⟨ok, p, hp, e⟩ := HS.out.P
  have hc := avail_any w32 F9 a mA9 p hp ok
  rw [show mA9.avl = [1] from by decide +kernel] at hc
  have HC := Lib.hid hc
  have HPD := Lib.hid (And.intro ok e)
  clear ht ok hp e hc
  go_wp2_with fail
  refine HC.out.mono ?_
  rintro e w33 ⟨v33, F33, rfl, hrd, hq, ho⟩
  obtain ⟨hf, hp⟩ := hrd.paS HPD.out.1 HPD.out.2
  obtain ⟨ia, ic, rfl⟩ : ∃ a c, v33 = Value.slice a 1 c := by obtain ⟨a, c, e, _⟩ := hq.shape; exact ⟨a, c, e⟩
  have HS := Lib.hid ((HS.out.step hf hp).same ((Touch.refl [] w33).alloc (.cells #[.int .i64 1] 3)))
  have HC := Lib.hid (ints_e _ _ [1] _ (hq.sl.touch ((Touch.refl [] w33).alloc (.cells #[.int .i64 1] 3)) (fun _ _ => by simp)) (one_sl w33 1) (by simp))
  clear hrd hq ho hf hp HPD
  go_wp2_with fail
  refine HC.out.mono ?_
  rintro e w34 ⟨rfl, ht⟩
  have HS := Lib.hid (HS.out.same ht)
  obtain ⟨ok, p, hp, e⟩ := HS.out.P
  have hc := asafe_any w34 F33 a mA9 p hp ok
  rw [show mA9.safe = true from by decide +kernel] at hc
  have HC := Lib.hid hc
  have HPD := Lib.hid (And.intro ok e)
  clear ht ok hp e hc
  go_wp2_with fail
  refine HC.out.mono ?_
  rintro e w35 ⟨rfl, F35, hrd⟩
  obtain ⟨hf, hp⟩ := hrd.paS HPD.out.1 HPD.out.2
  have HS := Lib.hid (HS.out.step hf hp)
  obtain ⟨ok, p2, hp2, e⟩ := HS.out.P
  have hc := astuck_any w35 F35 a mA9 p2 hp2 ok e (by decide +kernel)
  rw [show mA9.stuck = [] from by decide +kernel] at hc
  have HC := Lib.hid hc
  have HPD := Lib.hid (And.intro ok e)
  clear hrd hf hp ok hp2 e hc
  go_wp2_with fail
  refine HC.out.mono ?_
  rintro e w36 ⟨v36, F36, rfl, hrd, hq, ho⟩
  obtain ⟨hf, hp⟩ := hrd.paS HPD.out.1 HPD.out.2
  obtain ⟨ja, jc, rfl⟩ : ∃ a c, v36 = Value.slice a 0 c := by obtain ⟨a, c, e, _⟩ := hq.shape; exact ⟨a, c, e⟩
  have HF : Hid (AwP w (.returned (.bool true)) w36) := Lib.hid ⟨rfl, (HS.out.step hf hp).t⟩
  clear hrd hq ho hf hp HC HPD HS
  go_wp2_with fail
  go_ret
  exact HF.out
end Go.Proofs.YticglfmmjgnicaaGreat

set_option linter.unusedVariables false
namespace Go.Proofs.YticglfmmjgnicaaGreat
open Go Go.RowKit

structure Ts (w0 w : World) (a b : Nat) (m : Am) : Prop where
  h : ∃ FA FB r, TwR w FA FB a b m m r ∧ (∀ k, k ∈ FA → w0.heap.size ≤ k) ∧ ∀ k, k ∈ FB → w0.heap.size ≤ k
  t : Touch [] w0 w
section
variable {w0 w w' w1 : World} {a b : Nat} {m : Am}
theorem Ts.same (h : Ts w0 w a b m) (ht : Touch [] w w') : Ts w0 w' a b m := by
  obtain ⟨FA, FB, r, h1, h2, h3⟩ := h.h
  exact ⟨⟨FA, FB, r, h1.same ht, h2, h3⟩, h.t.trans ht⟩
theorem Ts.ok (h : Ts w0 w a b m) : m.Ok := by
  obtain ⟨FA, FB, r, h1, h2, h3⟩ := h.h
  exact h1.A.1
def TsP (w0 : World) (a b : Nat) (m : Am) (e : Ending) (w' : World) : Prop := e = .returned (.bool true) ∧ Ts w0 w' a b m
theorem plays_s (kd q : Int) (ua : Option Addr) (un uc : Nat) (u : List Int) (h : Ts w0 w a b m) (ht : Touch [] w w1) (hqi : InI q) (hu : Sl w1 (.slice ua un uc) u) (hul : u.length ≤ 1000) (hv : u ≠ [] → ∀ k, (Value.slice ua un uc).ownBlock = some k → k < w0.heap.size ∨ w.heap.size ≤ k) :
    Calls Tryz.prog 13 #[.pointer (some ⟨a, 0, none⟩), .pointer (some ⟨b, 0, none⟩), .agg #[.int .i64 kd, .int .i64 q, .slice ua un uc]] w1 (TsP w0 a b (m.step kd q u)) := by
  obtain ⟨FA, FB, r, h1, h2, h3⟩ := h.h
  have hl1 := h1.A.lt
  have hl2 := h1.B.lt
  refine (plays_any w1 FA FB a b m r kd q ua un uc u (h1.same ht) hqi hu hul (fun hne k hk => ?_)).mono ?_
  · rcases hv hne k hk with e | e
    · exact ⟨fun hm => by have := h2 k hm; omega, fun hm => by have := h3 k hm; omega⟩
    · exact ⟨fun hm => by have := hl1 k hm; omega, fun hm => by have := hl2 k hm; omega⟩
  · rintro e w' ⟨he, t, FA', FB', r', q1, q2, q3⟩
    have s1 := h.t.size
    have s2 := ht.size
    refine ⟨he, ⟨FA', FB', r', q1, fun k hk => ?_, fun k hk => ?_⟩, (h.t.trans ht).transF t (fun k hk hl => ?_)⟩
    · rcases q2 k hk with e | e
      · exact h2 k e
      · omega
    · rcases q3 k hk with e | e
      · exact h3 k e
      · omega
    · rcases List.mem_append.1 hk with e | e
      · have := h2 k e; omega
      · have := h3 k e; omega
end
theorem new_two {w w1 w2 : World} {tot : List Int} {clm : Bool} {e1 e2 : Ending} (h1 : NewP w tot clm e1 w1) (h2 : RNewP w1 tot clm e2 w2) :
    (newB tot = false ∧ e1 = .returned (.tuple #[.pointer none, .int .i64 1]) ∧ e2 = .returned (.tuple #[.pointer none, .int .i64 1]) ∧ Touch [] w w2) ∨ (newB tot = true ∧ ∃ a b, e1 = .returned (.tuple #[.pointer (some ⟨a, 0, none⟩), .int .i64 0]) ∧ e2 = .returned (.tuple #[.pointer (some ⟨b, 0, none⟩), .int .i64 0]) ∧ Ts w w2 a b (Am.new tot clm)) := by
  obtain ⟨t1, h1⟩ := h1
  obtain ⟨t2, h2⟩ := h2
  rcases h1 with ⟨hb, he⟩ | ⟨hb, a, FA, he, hp, hg⟩
  · rcases h2 with ⟨_, he2⟩ | ⟨hb2, _⟩
    · exact .inl ⟨hb, he, he2, t1.trans t2⟩
    · rw [hb] at hb2; cases hb2
  · rcases h2 with ⟨hb2, _⟩ | ⟨_, b, FB, r, he2, hr, hg2⟩
    · rw [hb] at hb2; cases hb2
    · have s1 := t1.size
      exact .inr ⟨hb, a, b, he, he2, ⟨FA, FB, r, ⟨hp.same t2, hr, fun k hk hm => by have := hp.lt k hk; have := hg2 k hm; omega⟩, hg, fun k hk => by have := hg2 k hk; omega⟩, t1.trans t2⟩
/-- A list of calls. -/
abbrev Cal := Int × Int × List Int
def cal (l : List Cal) (i : Nat) : Cal := l.getD i (0, 0, [])
def Stl (w : World) (v : Value) (l : List Cal) : Prop := ∃ a cap, v = .slice a l.length cap ∧ (l = [] ∨ ∃ g off, a = some ⟨g, off, none⟩ ∧ g < w.heap.size ∧ ∃ ps : Nat → Value, ∀ i, i < l.length → Sl w (ps i) (cal l i).2.2 ∧ w.cell? ⟨g, off + i * 3, none⟩ = some (.int .i64 (cal l i).1) ∧ w.cell? ⟨g, off + i * 3 + 1, none⟩ = some (.int .i64 (cal l i).2.1) ∧ w.cell? ⟨g, off + i * 3 + 2, none⟩ = some (ps i))
theorem Stl.form {w : World} {v : Value} {l : List Cal} (h : Stl w v l) : ∃ a c, v = .slice a l.length c := by obtain ⟨a, c, h, _⟩ := h; exact ⟨a, c, h⟩
theorem Stl.at {w : World} {a : Option Addr} {n cap : Nat} {l : List Cal} (h : Stl w (.slice a n cap) l) {i : Nat} (hi : i < l.length) : ∃ g off, a = some ⟨g, off, none⟩ ∧ ∃ ua un uc, Sl w (.slice ua un uc) (cal l i).2.2 ∧
    ∀ w', Touch [] w w' → w'.cell? ⟨g, off + i * 3, none⟩ = some (.int .i64 (cal l i).1) ∧ w'.cell? ⟨g, off + i * 3 + 1, none⟩ = some (.int .i64 (cal l i).2.1) ∧ w'.cell? ⟨g, off + i * 3 + 2, none⟩ = some (.slice ua un uc) := by
  obtain ⟨a', cap', he, h⟩ := h
  cases he
  rcases h with h | ⟨g, off, rfl, hg, ps, hp⟩
  · subst h; simp at hi
  · obtain ⟨q0, q1, q2, q3⟩ := hp i hi
    obtain ⟨ua, uc, hu⟩ := q0.form
    refine ⟨g, off, rfl, ua, _, uc, by rw [← hu]; exact q0, fun w' ht => ?_⟩
    have hb := ht.block g hg (by simp)
    refine ⟨?_, ?_, ?_⟩
    · rw [World.cell?_of_block (w := w) (a := ⟨g, off + i * 3, none⟩) hb]; exact q1
    · rw [World.cell?_of_block (w := w) (a := ⟨g, off + i * 3 + 1, none⟩) hb]; exact q2
    · rw [World.cell?_of_block (w := w) (a := ⟨g, off + i * 3 + 2, none⟩) hb, ← hu]; exact q3
theorem eql_pA (r : Addr) (w : World) : (binOp .eql 26 (.pointer (some r)) (.pointer none)).run Tryz.prog w = .ok (.bool false) w := by kernel_rfl
end Go.Proofs.YticglfmmjgnicaaGreat
