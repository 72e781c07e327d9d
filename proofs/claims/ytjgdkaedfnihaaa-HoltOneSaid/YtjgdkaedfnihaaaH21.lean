/-
  Two lists of rows that are put together side by side, in whatever order; the state, with whose memory it is.
-/
import Derived.Test.YtjgdkaedfnihaaaH20
import Derived.Test.YtjgdkaedfnihaaaRL
set_option linter.unusedVariables false
namespace Go.Proofs.Ytjgdkaedfnihaaa
open Go.RowKit Go.BigFrame

def StateQ (N : Nat) (w : World) (e : Ending) (w' : World) : Prop :=
  ∃ va vh vc, e = .returned (.tuple #[va, vh, vc]) ∧ ∃ (a0 a1 : Int) (hs cs : List (List Int)), (0 ≤ a0 ∧ a0 < 2) ∧ (0 ≤ a1 ∧ a1 < 2) ∧ Sl w' va [a0, a1] ∧ ∃ D : List Nat, Lr w' w.heap.size vh hs D ∧ Lr w' w.heap.size vc cs D ∧ (∀ k, k ∈ D → k < w'.heap.size) ∧ (∀ k, vh.ownBlock = some k → k ∉ D) ∧ (∀ k, vc.ownBlock = some k → k ∉ D) ∧ (∀ k, vh.ownBlock = some k → vc.ownBlock ≠ some k) ∧ hs.length = N ∧ cs.length = N ∧ (∀ i, i < N → HoltRow (rw_ hs i) (rw_ cs i)) ∧ Touch [] w w'
set_option maxRecDepth 100000 in
set_option maxHeartbeats 16000000 in
theorem stateQ_any (N : Nat) (lv : Value) (ls : List Int) (w : World) (hs : Sl w lv ls) (hl : ls.length ≤ 100) (hN : N ≤ 12) :
    Calls Try.prog 15 #[.int .i64 (N : Int), lv] w (StateQ N w) := by
  have HS := Lib.hid hs
  have HL : Hid (ls.length ≤ 1000000) := Lib.hid (by omega)
  obtain ⟨la, lc, rfl⟩ := hs.form
  obtain ⟨L, hL⟩ : ∃ L, ls.length = L := ⟨_, rfl⟩
  have HLl := Lib.hid hL
  rw [hL] at HS ⊢
  clear hs hl hL
  have hNi : (N : Int) ≤ 12 := by omega
  go_enter Try.func15, Try.ntmps15
  go_wp2_with fail
  refine (next_q _ ls 0 2 _ HS.out HL.out (by omega) (by omega) (by omega)).mono ?_
  rintro e w1 ⟨a0, rfl, h01, h02, rfl⟩
  go_wp2_with fail
  refine (next_q _ ls 1 2 _ HS.out HL.out (by omega) (by omega) (by omega)).mono ?_
  rintro e w2 ⟨a1, rfl, h11, h12, rfl⟩
  go_wp2_with fail
  obtain ⟨G, hG⟩ : ∃ G, w.heap.size = G := ⟨_, rfl⟩
  obtain ⟨W5, hW5⟩ : ∃ W, ((w.alloc (.cells #[.int .i64 a0, .int .i64 a1] 3)).alloc (.cells #[] 22)).alloc (.cells #[] 22) = W := ⟨_, rfl⟩
  have HI0 : Hid (StI w W5 (.slice (some ⟨G, 0, none⟩) 2 2) [a0, a1] (.slice (some ⟨G + 1, 0, none⟩) 0 0) (.slice (some ⟨G + 1 + 1, 0, none⟩) 0 0) [] [] [G]) := Lib.hid (by
    have hz : W5.heap.size = G + 1 + 1 + 1 := by rw [← hW5]; simp [hG]
    have t1 : Touch [] w W5 := by rw [← hW5]; exact (((Touch.refl [] w).alloc _).alloc _).alloc _
    refine ⟨⟨?_, fun k hk => by have e : G = k := by simpa [Value.ownBlock] using hk
                                simp [e]⟩, ?_, ?_, fun k hk => ?_, fun k hk => ?_, fun k hk => ?_, fun k hk e => ?_, t1⟩
    · rw [← hW5]
      exact (Sl.alloc (Sl.alloc ⟨_, 2, rfl, .inr ⟨G, 0, rfl, by simp [hG], row2 w a0 a1 _ _ hG.symm⟩⟩ _) _)
    · have h1 := Lr.empty (w := w.alloc (.cells #[.int .i64 a0, .int .i64 a1] 3)) (base := w.heap.size) (by simp)
      rw [World.size_alloc, hG] at h1
      have h2 := h1.touch ((Touch.refl [] _).alloc (.cells #[] 22)) (by simp) (by simp)
      rw [hW5] at h2
      rw [hG]
      exact h2.wider (by simp)
    · have h1 := Lr.empty (w := (w.alloc (.cells #[.int .i64 a0, .int .i64 a1] 3)).alloc (.cells #[] 22)) (base := w.heap.size) (by simp; omega)
      rw [hW5, World.size_alloc, World.size_alloc, hG] at h1
      rw [hG]
      exact h1.wider (by simp)
    · have : k = G := by simpa using hk
      omega
    · have e : G + 1 = k := by simpa [Value.ownBlock] using hk
      simp; omega
    · have e : G + 1 + 1 = k := by simpa [Value.ownBlock] using hk
      simp; omega
    · have e1 : G + 1 = k := by simpa [Value.ownBlock] using hk
      have e2 : G + 1 + 1 = k := by simpa [Value.ownBlock] using e
      omega)
  rw [hW5, hG]
  have HA0 := Lib.hid (And.intro h01 h02)
  have HA1 := Lib.hid (And.intro h11 h12)
  clear hW5 hG h01 h02 h11 h12
  go_loopw [8, 9, 10] (fun hv cv i wr => ∃ (j : Nat) (hs cs : List (List Int)) (D : List Nat), j ≤ N ∧ i = .int .i64 j ∧ hs.length = j ∧ cs.length = j ∧ StI w wr (.slice (some ⟨G, 0, none⟩) 2 2) [a0, a1] hv cv hs cs D ∧ ∀ i, i < j → HoltRow (rw_ hs i) (rw_ cs i)) (fun _ _ i _ => N + 1 - (intOf i).toNat)
  case atStart => exact ⟨0, [], [], [G], by omega, rfl, rfl, rfl, HI0.out, fun i hi => by omega⟩
  case round =>
    clear HI0
    obtain ⟨j, hs, cs, D, hj, rfl, hlh, hlc, hi, hrow⟩ := hrel
    have HI := Lib.hid hi
    have HLH := Lib.hid hlh
    have HLC := Lib.hid hlc
    have HRow := Lib.hid hrow
    obtain ⟨ha, hc, hhv⟩ := hi.h.form
    obtain ⟨ca, cc, hcv⟩ := hi.c.form
    rw [hlh] at hhv
    rw [hlc] at hcv
    subst hhv hcv
    clear hlh hlc hi hrow
    by_cases hjn : j < N
    · have hlt : (j : Int) < (N : Int) := by omega
      obtain ⟨J, hJ⟩ : ∃ J : Int, 4 * (j : Int) = J := ⟨_, rfl⟩
      have v0 : IntKind.i64.wrap (4 * (j : Int)) = J := by rw [hJ]; exact IntWalk.i64_in _ (by omega)
      have v0' : IntKind.i64.wrap ((j : Int) * 4) = J := by rw [Int.mul_comm, hJ]; exact IntWalk.i64_in _ (by omega)
      have v2 : IntKind.i64.wrap (J + 2) = J + 2 := IntWalk.i64_in _ (by omega)
      have v3 : IntKind.i64.wrap (J + 3) = J + 3 := IntWalk.i64_in _ (by omega)
      have v4 : IntKind.i64.wrap (J + 4) = J + 4 := IntWalk.i64_in _ (by omega)
      have v5 : IntKind.i64.wrap (J + 5) = J + 5 := IntWalk.i64_in _ (by omega)
      have HJ : Hid (0 ≤ J) := Lib.hid (by omega)
      clear hJ
      go_wp2_with fail
      refine (next_q _ ls (J + 2) 3 _ (HS.out.touch HI.out.t (by simp)) HL.out (by have := HJ.out; omega) (by omega) (by omega)).mono ?_
      rintro e w1 ⟨x, rfl, hx1, hx2, rfl⟩
      go_wp2_with fail
      refine (next_q _ ls (J + 3) 3 _ (HS.out.touch HI.out.t (by simp)) HL.out (by have := HJ.out; omega) (by omega) (by omega)).mono ?_
      rintro e w1 ⟨y, rfl, hy1, hy2, rfl⟩
      obtain ⟨vh', w3, hr3, hl3, ht3, hn3, hz3, ha', hc', rfl⟩ := HI.out.h.append HI.out.t.size (fun k hk => HI.out.dl k hk) (fun k hk => HI.out.hd k hk) (by rw [HLH.out]; omega) x y
      have HI3 := Lib.hid (HI.out.addH hl3 ht3 hn3 hz3)
      rw [HLH.out] at hr3
      clear hl3 ht3 hn3 hz3
      go_wp2_with (at_builtin; refine Lib.wpList_append_run _ rfl _ _ _ _ rfl _ _ rfl rfl _ _ (hr3 _) ?_)
      refine (next_q _ ls (J + 4) 4 _ (HS.out.touch HI3.out.t (by simp)) HL.out (by have := HJ.out; omega) (by omega) (by omega)).mono ?_
      rintro e w4 ⟨p, rfl, hp1, hp2, rfl⟩
      clear hr3
      go_wp2_with fail
      refine (next_q _ ls (J + 5) 3 _ (HS.out.touch HI3.out.t (by simp)) HL.out (by have := HJ.out; omega) (by omega) (by omega)).mono ?_
      rintro e w5 ⟨q, rfl, hq1, hq2, rfl⟩
      obtain ⟨vc', w6, hr6, hl6, ht6, hn6, hz6, ca', cc', rfl⟩ := HI3.out.c.append HI3.out.t.size (fun k hk => HI3.out.dl k hk) (fun k hk => HI3.out.cd k hk) (by rw [HLC.out]; omega) p q
      have HI6 := Lib.hid (HI3.out.addC hl6 ht6 hn6 hz6)
      rw [HLC.out] at hr6
      have HPR : Hid (HoltRow [x, y] [p, q]) := Lib.hid ⟨x, y, p, q, rfl, rfl, by omega, by omega, by omega, by omega⟩
      clear hl6 ht6 hn6 hz6
      go_wp2_with (at_builtin; refine Lib.wpList_append_run _ rfl _ _ _ _ rfl _ _ rfl rfl _ _ (hr6 _) ?_)
      go_roundw
      case rel =>
        rw [HLC.out, HLH.out] at HI6
        refine ⟨j + 1, hs ++ [[x, y]], cs ++ [[p, q]], _, by omega, by go_num, by simp [HLH.out], by simp [HLC.out], HI6.out, fun i hi => ?_⟩
        by_cases e : i = j
        · subst e
          have e1 := rw_snoc_new hs [x, y]
          have e2 := rw_snoc_new cs [p, q]
          rw [HLH.out] at e1
          rw [HLC.out] at e2
          rw [e1, e2]
          exact HPR.out
        · rw [rw_snoc_old _ _ (by rw [HLH.out]; omega), rw_snoc_old _ _ (by rw [HLC.out]; omega)]
          exact HRow.out i (by omega)
      case measure => simp [intOf]; omega
    · have hlt : ¬ (j : Int) < (N : Int) := by omega
      obtain rfl : j = N := by omega
      go_wp2
      go_ret3
      exact ⟨_, _, _, rfl, a0, a1, hs, cs, HA0.out, HA1.out, HI.out.av.1, D, HI.out.h, HI.out.c, HI.out.dl, HI.out.hd, HI.out.cd, HI.out.hc,  HLH.out, HLC.out, HRow.out, HI.out.t⟩
theorem Qu.src {w : World} {base : Nat} {e : TypeId} {v : Value} {us : List Value} {T e' : TypeId} (hk : Try.prog.underlying T = some (.slice e')) (h : Qu w base e v us) (h1 : ∀ u ∈ us, u.oneCell' = true) : Src Try.prog 1 T v us.length us w := by
  rcases h with ⟨rfl, rfl⟩ | ⟨g, off, cap, cur, rfl, hb, hg, hle, hmax, hsz, hcells⟩
  · exact Src.ofNil w hk 0
  · refine Src.ofSlice w hk ⟨g, off, none⟩ _ _ us (by simp) (fun j u hj => ?_) h1
    have hjl : j < us.length := by
      rcases Nat.lt_or_ge j us.length with h | h
      · exact h
      · rw [List.getElem?_eq_none h] at hj; cases hj
    show w.cell? ((⟨g, off, none⟩ : Addr).add j) = _
    have hc : w.cell? ⟨g, off + j, none⟩ = some u := hg.cell (by rw [hcells j hjl]; exact hj)
    by_cases h0 : j = 0
    · subst h0; simpa [Addr.add] using hc
    · simpa [Addr.add, h0] using hc
theorem Qu.dropN {w : World} {base : Nat} {e : TypeId} {g off n cap : Nat} {us : List Value} (h : Qu w base e (.slice (some ⟨g, off, none⟩) n cap) us) {k : Nat} (hk : k < us.length) : Qu w base e (.slice (some ⟨g, off + k, none⟩) (n - k) (cap - k)) (us.drop k) := by
  rcases h with ⟨h, _⟩ | ⟨g', off', cap', cur, he, hb, hg, hle, hmax, hsz, hcells⟩
  · cases h
  · cases he
    refine .inr ⟨g, off + k, cap - k, cur, by simp, hb, hg, by simp; omega, by omega, by omega, fun j hj => ?_⟩
    have hj2 : j < us.length - k := by simpa using hj
    rw [Nat.add_assoc, hcells (k + j) (by omega), List.getElem?_drop]
theorem Qu.takeN {w : World} {base : Nat} {e : TypeId} {g off n cap : Nat} {us : List Value} (h : Qu w base e (.slice (some ⟨g, off, none⟩) n cap) us) {k : Nat} (hk : k < us.length) : Qu w base e (.slice (some ⟨g, off, none⟩) k cap) (us.take k) := by
  rcases h with ⟨h, _⟩ | ⟨g', off', cap', cur, he, hb, hg, hle, hmax, hsz, hcells⟩
  · cases h
  · cases he
    refine .inr ⟨g, off, cap, cur, by simp; omega, hb, hg, by simp; omega, by omega, by omega, fun j hj => ?_⟩
    have hj2 : j < k := by simp at hj; omega
    rw [hcells j (by omega), List.getElem?_take, if_pos hj2]
/-- Both lists as they stand between two operations. -/
structure Two (W w : World) (va : Value) (xa : List Value) (vb : Value) (xb : List Value) : Prop where
  a : Qu w W.heap.size 22 va xa
  b : Qu w W.heap.size 22 vb xb
  d : ∀ k, va.ownBlock = some k → vb.ownBlock ≠ some k
  t : Touch [] W w
theorem Two.start (W : World) : Two W W.drew (.slice none 0 0) [] (.slice none 0 0) [] := ⟨Qu.nil _ _ _, Qu.nil _ _ _, fun k hk => by simp [Value.ownBlock] at hk, (Touch.refl _ _).drew⟩
theorem Two.alloc {W w : World} {va vb : Value} {xa xb : List Value} (h : Two W w va xa vb xb) (o : Obj) : Two W (w.alloc o) va xa vb xb := ⟨h.a.alloc _, h.b.alloc _, h.d, h.t.alloc _⟩
theorem append_base {T T2 e : TypeId} {i : TypeInfo} {z x : Value} {us : List Value} {w : World} (ht : Try.prog.underlying T = some (.slice e)) (hi : Try.prog.info? e = some i) (hz : i.zero = some z) (h8 : i.bytes = 24) (ad : Addr) (hs : Src Try.prog i.size T2 x us.length us w) (h0 : 0 < us.length) (hl : us.length ≤ 1000) (ty : TypeId) :
    (Builtin.append_ #[T, T2] ty #[.slice (some ad) 0 0, x]).run Try.prog w = (Builtin.append_ #[T, T2] ty #[.slice none 0 0, x]).run Try.prog w := by
  have hfit : Builtin.nextslicecap (0 + us.length) 0 * i.bytes ≤ 281474976710656 := growslice_fits (by omega) (by rw [h8]; omega)
  rw [run_append_grow_src (w := w) T T2 ty e i z ht hi hz (some ad) 0 0 [] (run_firstCells_some (w := w.drew) i.size 0 ad 0 0 [] (by simp) (fun j u hu => by simp at hu)) x us.length us hs (by omega) (by omega) hfit,
    run_append_grow_src (w := w) T T2 ty e i z ht hi hz none 0 0 [] (by rw [run_firstCells_none]) x us.length us hs (by omega) (by omega) hfit]
theorem grown_own {a b : World} {o : Option Nat} (hg : a.grownBy b o) : Touch o.toList a b := (Touch.refl _ a).grown hg (fun k hk _ => by subst hk; simp)
theorem Two.appA {W w : World} {va vb x : Value} {xa xb us : List Value} (h : Two W w va xa vb xb) (hs : Src Try.prog 1 23 x us.length us w) (hl : xa.length + us.length ≤ 1000) :
    ∃ v' w', (∀ ty, (Builtin.append_ #[23, 23] ty #[va, x]).run Try.prog w = .ok v' w') ∧ Two W w' v' (xa ++ us) vb xb := by
  obtain ⟨i0, hi, hz0, hz1, hz2⟩ := infoR
  obtain ⟨v', w', hr, hq, hg, hn⟩ := Qu.appendL Try.underlying23 hi hz0 hz1 hz2 rfl h.a h.t.size x us hs (by omega) (by omega)
  refine ⟨v', w', hr, hq, h.b.touch (grown_own hg) (fun k hk hm => h.d k (Option.mem_toList.1 hm) hk), fun k hk e => ?_, h.t.grown hg (fun k hk hlt => absurd (h.a.own k hk).1 (by omega))⟩
  rcases hn k hk with h1 | h1
  · exact h.d k h1 e
  · have := (h.b.own k e).2
    omega
theorem Two.appB {W w : World} {va vb x : Value} {xa xb us : List Value} (h : Two W w va xa vb xb) (hs : Src Try.prog 1 23 x us.length us w) (hl : xb.length + us.length ≤ 1000) :
    ∃ v' w', (∀ ty, (Builtin.append_ #[23, 23] ty #[vb, x]).run Try.prog w = .ok v' w') ∧ Two W w' va xa v' (xb ++ us) := by
  obtain ⟨i0, hi, hz0, hz1, hz2⟩ := infoR
  obtain ⟨v', w', hr, hq, hg, hn⟩ := Qu.appendL Try.underlying23 hi hz0 hz1 hz2 rfl h.b h.t.size x us hs (by omega) (by omega)
  refine ⟨v', w', hr, h.a.touch (grown_own hg) (fun k hk hm => h.d k hk (Option.mem_toList.1 hm)), hq, fun k hk e => ?_, h.t.grown hg (fun k hk hlt => absurd (h.b.own k hk).1 (by omega))⟩
  rcases hn k e with h1 | h1
  · exact h.d k hk h1
  · have := (h.a.own k hk).2
    omega
theorem Two.newA {W w : World} {vb x : Value} {xb us : List Value} (h : Two W w (.slice none 0 0) [] vb xb) (ad : Addr) (hs : Src Try.prog 1 23 x us.length us w) (h0 : 0 < us.length) (hl : us.length ≤ 1000) :
    ∃ v' w', (∀ ty, (Builtin.append_ #[23, 23] ty #[.slice (some ad) 0 0, x]).run Try.prog w = .ok v' w') ∧ Two W w' v' us vb xb := by
  obtain ⟨i0, hi, hz0, hz1, hz2⟩ := infoR
  obtain ⟨v', w', hr, h2⟩ := h.appA hs (by simpa using hl)
  exact ⟨v', w', fun ty => by rw [append_base Try.underlying23 hi hz0 hz2 ad (by rw [hz1]; exact hs) h0 hl]; exact hr ty, by simpa using h2⟩
theorem Two.newB {W w : World} {va x : Value} {xa us : List Value} (h : Two W w va xa (.slice none 0 0) []) (ad : Addr) (hs : Src Try.prog 1 23 x us.length us w) (h0 : 0 < us.length) (hl : us.length ≤ 1000) :
    ∃ v' w', (∀ ty, (Builtin.append_ #[23, 23] ty #[.slice (some ad) 0 0, x]).run Try.prog w = .ok v' w') ∧ Two W w' va xa v' us := by
  obtain ⟨i0, hi, hz0, hz1, hz2⟩ := infoR
  obtain ⟨v', w', hr, h2⟩ := h.appB hs (by simpa using hl)
  exact ⟨v', w', fun ty => by rw [append_base Try.underlying23 hi hz0 hz2 ad (by rw [hz1]; exact hs) h0 hl]; exact hr ty, by simpa using h2⟩
/-- An append to the first list, at a step of a region that draws its order; and to the second. -/
theorem step_A {W : World} {ops : Array Oper} {o : Oper} {a : Act} {w : World} {K : Act → World → Prop} {Q : Exit → Act → World → Prop} {E : Prop} (hgd : o.guard = none) (s x : Operand)
    (ho : o.op = .call { callee := .builtin .append, args := #[s, x], argTypes := #[23, 23] }) {va vb vx : Value} {xa xb us : List Value} (hs : a.eval s = va) (hx : a.eval x = vx) (h : Two W w va xa vb xb)
    (hsrc : ∀ w', Touch [] W w' → Src Try.prog 1 23 vx us.length us w') (hl : xa.length + us.length ≤ 1000)
    (hk : ∀ v' w', Two W w' v' (xa ++ us) vb xb → K (a.put o.dst v') w') : if Region.wanted o (yielded ops a.tmps) = true then Oper.wp Try.prog o a w K Q else E := by
  have hw : Region.wanted o (yielded ops a.tmps) = true := by simp [Region.wanted, hgd]
  rw [if_pos hw]
  obtain ⟨v', w', hr, h2⟩ := h.appA (hsrc w h.t) hl
  have hr' := hr o.type
  unfold Oper.wp execOp
  simp only [ho, resolve, invoke, builtin, Sem.run_bind, Sem.run_pure, Result.andThen_ok, List.map_toArray, List.map_cons, List.map_nil, hs, hx, hr']
  exact hk v' w' h2
theorem step_B {W : World} {ops : Array Oper} {o : Oper} {a : Act} {w : World} {K : Act → World → Prop} {Q : Exit → Act → World → Prop} {E : Prop} (hgd : o.guard = none) (s x : Operand)
    (ho : o.op = .call { callee := .builtin .append, args := #[s, x], argTypes := #[23, 23] }) {va vb vx : Value} {xa xb us : List Value} (hs : a.eval s = vb) (hx : a.eval x = vx) (h : Two W w va xa vb xb)
    (hsrc : ∀ w', Touch [] W w' → Src Try.prog 1 23 vx us.length us w') (hl : xb.length + us.length ≤ 1000)
    (hk : ∀ v' w', Two W w' va xa v' (xb ++ us) → K (a.put o.dst v') w') : if Region.wanted o (yielded ops a.tmps) = true then Oper.wp Try.prog o a w K Q else E := by
  have hw : Region.wanted o (yielded ops a.tmps) = true := by simp [Region.wanted, hgd]
  rw [if_pos hw]
  obtain ⟨v', w', hr, h2⟩ := h.appB (hsrc w h.t) hl
  have hr' := hr o.type
  unfold Oper.wp execOp
  simp only [ho, resolve, invoke, builtin, Sem.run_bind, Sem.run_pure, Result.andThen_ok, List.map_toArray, List.map_cons, List.map_nil, hs, hx, hr']
  exact hk v' w' h2
theorem step_A1 {W : World} {ops : Array Oper} {o : Oper} {a : Act} {w : World} {K : Act → World → Prop} {Q : Exit → Act → World → Prop} {E : Prop} (hgd : o.guard = none) (s x : Operand)
    (ho : o.op = .call { callee := .builtin .append, args := #[s, x], argTypes := #[23, 23] }) {v0 vx : Value} {x0 us : List Value} {ad : Addr} (hs : a.eval s = .slice (some ad) 0 0) (hx : a.eval x = vx) (h : Two W w (.slice none 0 0) [] v0 x0)
    (hsrc : ∀ w', Touch [] W w' → Src Try.prog 1 23 vx us.length us w') (h0 : 0 < us.length) (hl : us.length ≤ 1000)
    (hk : ∀ v' w', Two W w' v' us v0 x0 → K (a.put o.dst v') w') : if Region.wanted o (yielded ops a.tmps) = true then Oper.wp Try.prog o a w K Q else E := by
  have hw : Region.wanted o (yielded ops a.tmps) = true := by simp [Region.wanted, hgd]
  rw [if_pos hw]
  obtain ⟨v', w', hr, h2⟩ := h.newA ad (hsrc w h.t) h0 hl
  have hr' := hr o.type
  unfold Oper.wp execOp
  simp only [ho, resolve, invoke, builtin, Sem.run_bind, Sem.run_pure, Result.andThen_ok, List.map_toArray, List.map_cons, List.map_nil, hs, hx, hr']
  exact hk v' w' h2
theorem step_B1 {W : World} {ops : Array Oper} {o : Oper} {a : Act} {w : World} {K : Act → World → Prop} {Q : Exit → Act → World → Prop} {E : Prop} (hgd : o.guard = none) (s x : Operand)
    (ho : o.op = .call { callee := .builtin .append, args := #[s, x], argTypes := #[23, 23] }) {v0 vx : Value} {x0 us : List Value} {ad : Addr} (hs : a.eval s = .slice (some ad) 0 0) (hx : a.eval x = vx) (h : Two W w v0 x0 (.slice none 0 0) [])
    (hsrc : ∀ w', Touch [] W w' → Src Try.prog 1 23 vx us.length us w') (h0 : 0 < us.length) (hl : us.length ≤ 1000)
    (hk : ∀ v' w', Two W w' v0 x0 v' us → K (a.put o.dst v') w') : if Region.wanted o (yielded ops a.tmps) = true then Oper.wp Try.prog o a w K Q else E := by
  have hw : Region.wanted o (yielded ops a.tmps) = true := by simp [Region.wanted, hgd]
  rw [if_pos hw]
  obtain ⟨v', w', hr, h2⟩ := h.newB ad (hsrc w h.t) h0 hl
  have hr' := hr o.type
  unfold Oper.wp execOp
  simp only [ho, resolve, invoke, builtin, Sem.run_bind, Sem.run_pure, Result.andThen_ok, List.map_toArray, List.map_cons, List.map_nil, hs, hx, hr']
  exact hk v' w' h2
theorem Qu.ones {w : World} {l : List (List Int)} {vs : List Value} (h2 : vs.length = l.length) (h : ∀ i, i < l.length → Sl w (vs.getD i (.slice none 0 0)) (rw_ l i)) : ∀ u ∈ vs, u.oneCell' = true := fun u hu => by
  obtain ⟨i, hi, rfl⟩ := List.getElem_of_mem hu
  have := h i (by omega)
  rw [List.getD_eq_getElem?_getD, List.getElem?_eq_getElem hi] at this
  obtain ⟨a, c, e, _⟩ := this
  have e : vs[i] = _ := e
  rw [e]; rfl
/-- Rows turned round, in a world behind. -/
theorem rot_rws {w : World} {base : Nat} {e : TypeId} {v : Value} {l : List (List Int)} {vs : List Value} {k : Nat} (h2 : vs.length = l.length) (hk : k ≤ l.length) (hq : Qu w base e v (vs.drop k ++ vs.take k)) (h : ∀ i, i < l.length → Sl w (vs.getD i (.slice none 0 0)) (rw_ l i)) : Rws w v (rot k l) := by
  refine hq.rws (by unfold rot; simp; omega) (fun i hi => ?_)
  rw [rot_length hk] at hi
  by_cases a : i < l.length - k
  · have e1 : (vs.drop k ++ vs.take k).getD i (.slice none 0 0) = vs.getD (k + i) (.slice none 0 0) := by
      rw [List.getD_eq_getElem?_getD, List.getD_eq_getElem?_getD, List.getElem?_append_left (by simp; omega), List.getElem?_drop]
    have e2 : rw_ (rot k l) i = rw_ l (k + i) := by
      unfold rw_ rot
      rw [List.getD_eq_getElem?_getD, List.getD_eq_getElem?_getD, List.getElem?_append_left (by simp; omega), List.getElem?_drop]
    rw [e1, e2]
    exact h _ (by omega)
  · have e1 : (vs.drop k ++ vs.take k).getD i (.slice none 0 0) = vs.getD (i - (l.length - k)) (.slice none 0 0) := by
      rw [List.getD_eq_getElem?_getD, List.getD_eq_getElem?_getD, List.getElem?_append_right (by simp; omega), List.length_drop, List.getElem?_take, if_pos (by omega), h2]
    have e2 : rw_ (rot k l) i = rw_ l (i - (l.length - k)) := by
      unfold rw_ rot
      rw [List.getD_eq_getElem?_getD, List.getD_eq_getElem?_getD, List.getElem?_append_right (by simp; omega), List.length_drop, List.getElem?_take, if_pos (by omega)]
    rw [e1, e2]
    exact h _ (by omega)
end Go.Proofs.Ytjgdkaedfnihaaa
