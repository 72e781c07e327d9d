/-
  The maker of sources: its object; a text put behind the others; the next number.
-/
import Derived.Test.YtdlhaadnfmpldaaDoorTKK
import Derived.Test.YtdlhaadnfmpldaaDoorS
import Derived.Deep.AppendSrc
set_option linter.unusedVariables false
namespace Go.Proofs.YtdlhaadnfmpldaaDoor
open Go Go.RowKit

/-- The maker at work: what it has written has at most L bytes; all that has turned is newer than w0. -/
structure Mk (w0 w : World) (mb : Nat) (nv : Value) (xs : List Int) (P : Int) (IN : ByteArray) (L : Nat) : Prop where
  ex : ∃ (a : Nat) (ov : Value) (D : List UInt8) (lf : Int), a ≤ xs.length ∧ Blk w mb #[nv, .int .i64 (a : Int), ov, .int .i64 P, .string IN, .int .i64 lf] 53 ∧ Qu w w0.heap.size 5 ov (D.map bv) ∧ D.length ≤ L ∧ ov.ownBlock ≠ some mb
  lo : w0.heap.size ≤ mb
  sl : Sl w0 nv xs
  len : xs.length ≤ 1000000
  t : Touch [] w0 w
theorem Mk.touch {w0 w w' : World} {mb : Nat} {nv : Value} {xs : List Int} {P : Int} {IN : ByteArray} {L : Nat} (h : Mk w0 w mb nv xs P IN L) (ht : Touch [] w w') : Mk w0 w' mb nv xs P IN L := by
  obtain ⟨a, ov, D, lf, h1, h2, h3, h4, h5⟩ := h.ex
  exact ⟨⟨a, ov, D, lf, h1, h2.touch ht (by simp), h3.touch ht (fun _ _ => by simp), h4, h5⟩, h.lo, h.sl, h.len, h.t.trans ht⟩
theorem Mk.more {w0 w : World} {mb : Nat} {nv : Value} {xs : List Int} {P : Int} {IN : ByteArray} {L L' : Nat} (h : Mk w0 w mb nv xs P IN L) (hl : L ≤ L') : Mk w0 w mb nv xs P IN L' := by
  obtain ⟨a, ov, D, lf, h1, h2, h3, h4, h5⟩ := h.ex
  exact ⟨⟨a, ov, D, lf, h1, h2, h3, Nat.le_trans h4 hl, h5⟩, h.lo, h.sl, h.len, h.t⟩
theorem infoB : ∃ i0 : TypeInfo, Tryd.prog.info? 5 = some i0 ∧ i0.zero = some (.int .u8 0) ∧ i0.size = 1 ∧ i0.bytes = 1 :=
  info_parts (show (Tryd.prog.info? 5).map (fun i => (i.zero, i.size, i.bytes)) = some (some (.int .u8 0), 1, 1) from by kernel_rfl)
theorem bytes_put {w : World} {base : Nat} {v : Value} {D : List UInt8} (h : Qu w base 5 v (D.map bv)) (hb : base ≤ w.heap.size) (s : ByteArray) (hl : D.length + s.size ≤ 100000000) :
    ∃ a n c w', (∀ ty, (Builtin.append_ #[23, 9] ty #[v, .string s]).run Tryd.prog w = .ok (.slice a n c) w') ∧ Qu w' base 5 (.slice a n c) ((D ++ s.data.toList).map bv) ∧ Touch v.ownBlock.toList w w' ∧ ∀ k, (Value.slice a n c).ownBlock = some k → v.ownBlock = some k ∨ w.heap.size ≤ k := by
  obtain ⟨i0, hi, hz, h5, h8⟩ := infoB
  have hbc : byteCells s = s.data.toList.map bv := rfl
  have hbl : (byteCells s).length = s.size := byteCells_length s
  obtain ⟨v', w', hr, hq, hg, hn⟩ := Qu.appendL (P := Tryd.prog) (t := 23) (tx := 9) Tryd.underlying23 hi hz h5 h8 rfl h hb (.string s) (byteCells s) (by rw [hbl]; exact Src.ofString w Tryd.underlying9 s) (by rw [List.length_map, hbl]; omega) (by rw [List.length_map, hbl]; omega)
  rw [hbc, ← List.map_append] at hq
  obtain ⟨a, c, he, _⟩ := hq.shape
  subst he
  exact ⟨a, _, c, w', hr, hq, (Touch.refl _ w).grown hg (fun k hk _ => by rw [hk]; simp), hn⟩
def MkP (w0 : World) (mb : Nat) (nv : Value) (xs : List Int) (P : Int) (IN : ByteArray) (L : Nat) (e : Ending) (w' : World) : Prop := e = .returned (.tuple #[]) ∧ Mk w0 w' mb nv xs P IN L
set_option maxHeartbeats 4000000 in
set_option maxRecDepth 100000 in
theorem mput_any {w0 w : World} {mb : Nat} {nv : Value} {xs : List Int} {P : Int} {IN : ByteArray} {L : Nat} (h : Mk w0 w mb nv xs P IN L) (s : ByteArray) (hl : L + s.size ≤ 10000000) :
    Calls Tryd.prog 21 #[.pointer (some ⟨mb, 0, none⟩), .string s] w (MkP w0 mb nv xs P IN (L + s.size)) := by
  obtain ⟨a, ov, D, lf, h1, h2, h3, h4, h5⟩ := h.ex
  obtain ⟨oa, oc, rfl, _⟩ := h3.shape
  obtain ⟨N, hN⟩ : ∃ N, (D.map bv).length = N := ⟨_, rfl⟩
  rw [hN] at h2 h3 h5
  obtain ⟨a', n', c', w', hr, hq, ht, hn⟩ := bytes_put h3 h.t.size s (by omega)
  have hb' := h2.touch ht (fun hh => h5 (Option.mem_toList.1 hh))
  have hset := hb'.set 2 (.slice a' n' c')
  have hsl : s.data.toList.length = s.size := by simp
  have tset : Touch [mb] w' (w'.setCell ⟨mb, 2, none⟩ (.slice a' n' c')) := (Touch.refl _ _).setCell (by simp) _
  have hne : (Value.slice a' n' c').ownBlock ≠ some mb := fun e => by
    rcases hn _ e with h6 | h6
    · exact h5 h6
    · have := h2.lt; omega
  have HF : Hid (Mk w0 (w'.setCell ⟨mb, 2, none⟩ (.slice a' n' c')) mb nv xs P IN (L + s.size)) := Lib.hid
    ⟨⟨a, _, D ++ s.data.toList, lf, h1, hset, hq.touch tset (fun k hk hh => hne (by rw [hk, List.mem_singleton.1 hh])), by rw [List.length_append, hsl]; omega, hne⟩, h.lo, h.sl, h.len,
      (h.t.transF ht (fun q hq2 hlt => by have := (h3.own q (Option.mem_toList.1 hq2)).1; omega)).transF tset (fun q hq2 hlt => by have := List.mem_singleton.1 hq2; have := h.lo; omega)⟩
  have c2 := h2.cell (i := 2) rfl
  have d2 := hb'.cell (i := 2) rfl
  have df := hb'.free 2
  clear h h1 h2 h3 h4 h5 hq ht hn hb' hset tset hne hsl hl hN
  go_enter Tryd.func21, Tryd.ntmps21
  go_wp2_with (at_builtin; refine Lib.wpList_append_run _ rfl _ _ _ _ rfl _ _ rfl rfl _ _ (hr _) ?_)
  go_end0
  exact ⟨rfl, HF.out⟩
theorem sl_at {w : World} {v : Value} {xs : List Int} (h : Sl w v xs) {k : Nat} (hk : k < xs.length) : ∃ g off, v.ownBlock = some g ∧ (∃ c, v = .slice (some ⟨g, off, none⟩) xs.length c) ∧ w.cell? ⟨g, off + k, none⟩ = some (.int .i64 (xs.getD k 0)) := by
  obtain ⟨a, cap, rfl, h | ⟨g, off, rfl, hlt, hr⟩⟩ := h
  · subst h; simp at hk
  · exact ⟨g, off, rfl, ⟨cap, rfl⟩, hr k hk⟩
def NextP (w0 : World) (mb : Nat) (nv : Value) (xs : List Int) (P : Int) (IN : ByteArray) (L : Nat) (n : Int) (e : Ending) (w' : World) : Prop := ∃ r : Int, e = .returned (.int .i64 r) ∧ 0 ≤ r ∧ (1 ≤ n → r < n) ∧ (n < 1 → r = 0) ∧ Mk w0 w' mb nv xs P IN L
set_option maxHeartbeats 4000000 in
theorem mnext_any {w0 w : World} {mb : Nat} {nv : Value} {xs : List Int} {P : Int} {IN : ByteArray} {L : Nat} (h : Mk w0 w mb nv xs P IN L) (n : Int) (hn : InI n) :
    Calls Tryd.prog 23 #[.pointer (some ⟨mb, 0, none⟩), .int .i64 n] w (NextP w0 mb nv xs P IN L n) := by
  obtain ⟨a, ov, D, lf, h1, h2, h3, h4, h5⟩ := h.ex
  have hsl := h.sl.touch h.t (fun _ _ => by simp)
  obtain ⟨na, nc, rfl⟩ := h.sl.form
  have HM := Lib.hid h
  have c0 := h2.cell (i := 0) rfl
  have c1 := h2.cell (i := 1) rfl
  have cf := h2.free 1
  have HB := Lib.hid h2
  have hlen := h.len
  obtain ⟨m, hm⟩ : ∃ m, xs.length = m := ⟨_, rfl⟩
  rw [hm] at h1 hlen c0
  have HXL := Lib.hid hm
  unfold InI at hn
  by_cases ha : a < m
  · have d1 : decide ((m : Int) ≤ (a : Int)) = false := dF (by omega)
    by_cases h0 : n < 1
    · have d0 : decide (n < 1) = true := dT h0
      have H0 := Lib.hid h0
      clear h h2 h3 h4 h5 hm h0 hn
      go_enter Tryd.func23, Tryd.ntmps23
      go_wp2_with fail
      go_quiet (fail)
      go_wp2_with fail
      go_ret
      exact ⟨0, rfl, Int.le_refl _, fun h => by have := H0.out; omega, fun _ => rfl, HM.out.touch ((Touch.refl [] w).drewN _)⟩
    · have d0 : decide (n < 1) = false := dF h0
      obtain ⟨g, off, hga, hg, hrow⟩ := sl_at hsl (k := a) (by omega)
      obtain ⟨X, hX⟩ : ∃ x, xs.getD a 0 = x := ⟨_, rfl⟩
      rw [hX] at hrow
      obtain ⟨Y, hY⟩ : ∃ y, X.tmod n = y := ⟨_, rfl⟩
      have hY2 : -n < Y ∧ Y < n := by
        rw [← hY]
        rcases Int.le_total 0 X with hx | hx
        · exact ⟨by have := Int.tmod_nonneg n hx; omega, Int.tmod_lt_of_pos X (by omega)⟩
        · obtain ⟨Z, rfl⟩ : ∃ Z, X = -Z := ⟨-X, by omega⟩
          rw [Int.neg_tmod]
          have h1 := Int.tmod_lt_of_pos Z (by omega : (0 : Int) < n)
          have h2 := Int.tmod_nonneg n (by omega : 0 ≤ Z)
          omega
      obtain ⟨c', hgc⟩ := hg
      cases hgc
      have hcell := hrow
      obtain ⟨Z, hZ⟩ : ∃ z, (if Y < 0 then Y + n else Y) = z := ⟨_, rfl⟩
      have hZ2 : 0 ≤ Z ∧ Z < n := by rw [← hZ]; split <;> omega
      have hne : g ≠ mb := fun e => by
        have h7 := h.lo
        rcases h.sl with ⟨a2, c2, he, h8 | ⟨g2, o2, h9, h10, _⟩⟩
        · subst h8; simp at hm; omega
        · subst h9
          simp only [Value.slice.injEq, Option.some.injEq, Addr.mk.injEq] at he
          omega
      have HF : Hid (∀ q, Mk w0 ((w.drewN q).setCell ⟨mb, 1, none⟩ (.int .i64 ((a : Int) + 1))) mb (.slice (some ⟨g, off, none⟩) xs.length nc) xs P IN L) := Lib.hid (fun q => by
        have t1 : Touch [mb] (w.drewN q) ((w.drewN q).setCell ⟨mb, 1, none⟩ (.int .i64 ((a : Int) + 1))) := (Touch.refl _ _).setCell (by simp) _
        exact ⟨⟨a + 1, ov, D, lf, by omega, (HB.out.drewN q).set 1 _, (h3.drewN q).touch t1 (fun k hk hh => h5 (by rw [hk, List.mem_singleton.1 hh])), h4, h5⟩, h.lo, h.sl, h.len,
          (h.t.drewN q).transF t1 (fun q hq2 hlt => by have := List.mem_singleton.1 hq2; have := h.lo; omega)⟩)
      have hn1 : 1 ≤ n := by omega
      have hn2 : n ≤ 9223372036854775807 := hn.2
      have HZ := Lib.hid hZ2
      have hya : -9223372036854775808 ≤ Y := by omega
      have hyb : Y ≤ 9223372036854775807 := by omega
      have ha1 : (a : Int) ≤ 1000000 := by omega
      clear h h2 h3 h4 h5 hm hX hga hrow hZ2 hsl hne h0 hn HM HB h1 hlen
      by_cases hy : Y < 0
      · have dy : decide (Y < 0) = true := dT hy
        have hz1 : Y + n = Z := by rw [← hZ, if_pos hy]
        clear hZ
        go_enter Tryd.func23, Tryd.ntmps23
        go_wp2_with fail
        go_quiet (fail)
        go_wp2_with fail
        go_quiet (fail)
        go_wp2_with fail
        go_ret
        exact ⟨Z, rfl, HZ.out.1, fun _ => HZ.out.2, fun h => absurd h (by omega), HF.out _⟩
      · have dy : decide (Y < 0) = false := dF hy
        obtain rfl : Y = Z := by rw [← hZ, if_neg hy]
        clear hZ
        go_enter Tryd.func23, Tryd.ntmps23
        go_wp2_with fail
        go_quiet (fail)
        go_wp2_with fail
        go_quiet (fail)
        go_wp2_with fail
        go_ret
        exact ⟨Y, rfl, HZ.out.1, fun _ => HZ.out.2, fun h => absurd h (by omega), HF.out _⟩
  · obtain rfl : a = m := by omega
    have d1 : decide ((a : Int) ≤ (a : Int)) = true := dT (by omega)
    clear h h2 h3 h4 h5 hm hn
    go_enter Tryd.func23, Tryd.ntmps23
    go_wp2_with fail
    go_quiet (fail)
    go_wp2_with fail
    go_ret
    exact ⟨0, rfl, Int.le_refl _, fun h => h, fun _ => rfl, HM.out.touch ((Touch.refl [] w).drewN _)⟩
end Go.Proofs.YtdlhaadnfmpldaaDoor
