/-
  The program's reader: lists of numbers, vectors, lists of vectors.
-/
import Derived.Test.YtoedkomckgidiaaCN
set_option linter.unusedVariables false
namespace Go.Proofs.Ytoedkomckgidiaa
open Go Go.RowKit

/-- The first n numbers from here on. -/
def nums_ (D : List Nat) (st : Option Nat) (n : Nat) : List Int := (List.range n).map (nvA D st)
theorem nums_len (D : List Nat) (st : Option Nat) (n : Nat) : (nums_ D st n).length = n := by simp [nums_]
theorem nums_succ (D : List Nat) (st : Option Nat) (n : Nat) : nums_ D st (n + 1) = nums_ D st n ++ [nvA D st n] := by unfold nums_; rw [List.range_succ, List.map_append]; rfl
def rows_ (D : List Nat) (st : Option Nat) (c n : Nat) : List (List Int) := (List.range n).map fun i => nums_ D (go_ D (8 * (c * i)) st) c
theorem rows_len (D : List Nat) (st : Option Nat) (c n : Nat) : (rows_ D st c n).length = n := by simp [rows_]
theorem rows_succ (D : List Nat) (st : Option Nat) (c n : Nat) : rows_ D st c (n + 1) = rows_ D st c n ++ [nums_ D (go_ D (8 * (c * n)) st) c] := by unfold rows_; rw [List.range_succ, List.map_append]; rfl
def RLI (most : Nat) (D : List Nat) (cl b : Nat) (st : Option Nat) (w : World) (e : Ending) (w' : World) : Prop :=
  ∃ v l, e = .returned v ∧ Qu w' w.heap.size 3 v ((nums_ D (go_ D 2 st) l).map (Value.int .i64)) ∧ l ≤ most ∧ Rd D cl w' b (rl_ D 1 most st) ∧ Touch [b] w w' ∧ ∀ o, rl_ D 1 most st = some o → l = un_ D 2 st
theorem app_int (w : World) (base : Nat) (v : Value) (xs : List Int) (x : Int) (h : Qu w base 3 v (xs.map (Value.int .i64))) (hb : base ≤ w.heap.size) (hn : xs.length ≤ 100000) :
    ∃ v' w', (∀ ty, (Builtin.append_ #[25, 25] ty #[v, .slice (some ⟨w.heap.size, 0, none⟩) 1 1]).run Try.prog (w.alloc (.cells #[.int .i64 x] 3)) = .ok v' w') ∧ Qu w' base 3 v' ((xs ++ [x]).map (Value.int .i64)) ∧ Touch v.ownBlock.toList w w' := by
  have ta : Touch [] w (w.alloc (.cells #[.int .i64 x] 3)) := (Touch.refl _ _).alloc _
  have hsz := ta.size
  obtain ⟨v', w2, r1, A2, g2, o2⟩ := Qu.appendI (Qu.alloc h (.cells #[.int .i64 x] 3)) (by omega) (show Sl (w.alloc (.cells #[.int .i64 x] 3)) (.slice (some ⟨w.heap.size, 0, none⟩) 1 1) [x] from ⟨_, 1, rfl, .inr ⟨w.heap.size, 0, rfl, by simp, row1 _ _ _ _ rfl⟩⟩) (by simp; omega)
  exact ⟨v', w2, r1, A2, ((Touch.refl v.ownBlock.toList w).alloc _).grown g2 (fun k hk _ => by simp [hk])⟩
set_option maxHeartbeats 16000000 in
theorem rlist_int (D : List Nat) (cl b most : Nat) (st : Option Nat) (w : World) (h : Rd D cl w b st) (hm : most ≤ 10000) (hD : D.length ≤ 9223372036854775807) (hDb : ∀ x ∈ D, x < 256) :
    Calls Try.prog 43 #[.pointer (some ⟨b, 0, none⟩), .int .i64 (most : Int), .func (.func 42) #[] #[]] w (RLI most D cl b st w) := by
  have HD := Lib.hid hD
  have HDB := Lib.hid hDb
  have hbw : b < w.heap.size := h.lt
  have HU := Lib.hid (un_any D cl b 2 st w h (by omega) hD hDb)
  have hul := un_lt D 2 st (by omega) hDb
  obtain ⟨u, hu⟩ : ∃ u, un_ D 2 st = u := ⟨_, rfl⟩
  rw [hu] at hul
  have HUU := Lib.hid hu
  obtain ⟨s2, hs2⟩ : ∃ s, go_ D 2 st = s := ⟨_, rfl⟩
  have HS2 := Lib.hid hs2
  have HPS : Hid (go_ D 2 st = s2) := Lib.hid hs2
  have hw : IntKind.wrap .i64 (u : Int) = (u : Int) := IntWalk.i64_in _ (by omega)
  clear hu h hs2
  go_enter Try.func43, Try.ntmps43
  go_wp2_with fail
  refine HU.out.mono ?_
  rintro e w1 ⟨rfl, hR, ht⟩
  rw [HUU.out]
  rw [HS2.out] at hR
  have hbw1 : b < w1.heap.size := hR.lt
  have hsz1 : w.heap.size ≤ w1.heap.size := ht.size
  have HT1 := Lib.hid ht
  have HR1 := Lib.hid hR
  clear HU ht hR
  by_cases hgt : most < u
  · have HRL : Hid (rl_ D 1 most st = none) := Lib.hid (by unfold rl_; rw [HUU.out]; exact if_neg (by omega))
    have hRq := HR1.out
    obtain ⟨q, hq⟩ : ∃ q, s2 = some q := by
      have := un_some (D := D) (n := 2) (st := st) (by rw [HUU.out]; omega)
      rw [HS2.out] at this; exact this
    rw [hq] at hRq
    obtain ⟨hq0, v, hbk, hbs, hown⟩ := hRq
    have HBK := Lib.hid hbk
    have HBS := Lib.hid hbs
    have HOW := Lib.hid hown
    have x2 := hbk.cell (i := 2) rfl
    have f2 := hbk.free 2
    have y2 := (hbk.set 2 (.bool true)).cell (i := 2) rfl
    clear hbk hbs hown hq
    go_wp2
    refine wp_loop_rounds 1 ?_
    rw [rounds_succ]
    go_wp2
    go_ret
    have tt : Touch [b] w1 (w1.setCell ⟨b, 2, none⟩ (.bool true)) := (Touch.refl [b] w1).setCell (by simp) _
    refine ⟨_, 0, rfl, Qu.nil _ _ _, Nat.zero_le _, ?_, HT1.out.trans tt, fun o ho => by rw [HRL.out] at ho; cases ho⟩
    rw [HRL.out]
    exact ⟨v, D.drop q, HBK.out.set 2 (.bool true), HBS.out.touch tt (fun k hk => by have := HOW.out k hk; simp; omega), by rw [List.length_drop]; omega, HOW.out⟩
  · have HRL : Hid (rl_ D 1 most st = go_ D (8 * (1 * u)) s2) := Lib.hid (by unfold rl_; rw [HUU.out, if_pos (by omega), ← HS2.out, go_go])
    go_wp2
    go_loopw [8, 9] (fun lv iv wr => ∃ i : Nat, i ≤ u ∧ iv = .int .i64 (i : Int) ∧ Qu wr w.heap.size 3 lv ((nums_ D s2 i).map (Value.int .i64)) ∧ Rd D cl wr b (go_ D (8 * (1 * i)) s2) ∧ Touch [b] w wr) (fun _ iv _ => u + 1 - (intOf iv).toNat)
    case atStart => exact ⟨0, by omega, rfl, Qu.nil _ _ _, by rw [show 8 * (1 * 0) = 0 from rfl, go_zero HR1.out]; exact HR1.out, HT1.out⟩
    case round =>
      obtain ⟨i, hi, rfl, hA, hR, ht⟩ := hrel
      clear HR1 HT1 hw
      have HA := Lib.hid hA
      have HR := Lib.hid hR
      have HT := Lib.hid ht
      have hsr : w.heap.size ≤ wr.heap.size := ht.size
      obtain ⟨la, lc, hform, hlm⟩ := Qu.shape hA
      rw [List.length_map, nums_len] at hform hlm
      subst hform
      clear hA hR ht hsz1 hbw1
      by_cases hlt : i < u
      · cases hst : go_ D (8 * (1 * i)) s2 with
        | none =>
          have HRL2 : Hid (rl_ D 1 most st = none) := Lib.hid (by rw [HRL.out]; exact go_mono hst (by have := Nat.mul_le_mul_left 1 hi; omega))
          have hR := HR.out
          rw [hst] at hR
          obtain ⟨v, R, hbk, hbs, hrl, hown⟩ := hR
          have x2 := hbk.cell (i := 2) rfl
          have HR3 : Hid (Rd D cl wr b none) := Lib.hid ⟨v, R, hbk, hbs, hrl, hown⟩
          clear hbk hbs hrl hown hst
          go_wp2
          go_ret
          exact ⟨_, i, rfl, by rw [HPS.out]; exact HA.out, by omega, by rw [HRL2.out]; exact HR3.out, HT.out, fun o ho => by rw [HRL2.out] at ho; cases ho⟩
        | some q =>
          have hR := HR.out
          rw [hst] at hR
          obtain ⟨hq0, v, hbk, hbs, hown⟩ := hR
          have x2 := hbk.cell (i := 2) rfl
          have HST := Lib.hid hst
          clear hbk hbs hown hst
          go_wp2_with fail
          refine (num_any D cl b (go_ D (8 * (1 * i)) s2) _ HR.out HD.out HDB.out).mono ?_
          rintro e w2 ⟨rfl, hR2, ht2⟩
          rw [go_go] at hR2
          have HAo := Lib.hid (Qu.touch HA.out ht2 (fun k hk => by have := (Qu.own HA.out k hk).1; simp; omega))
          have hs2r : w.heap.size ≤ w2.heap.size := Nat.le_trans hsr ht2.size
          obtain ⟨x, hx⟩ : ∃ x, nv D (go_ D (8 * (1 * i)) s2) = x := ⟨_, rfl⟩
          have hx2 : nvA D s2 i = x := by rw [← hx, Nat.one_mul]; rfl
          rw [hx]
          obtain ⟨v3, w3, hr3, hA3, ht3⟩ := app_int w2 w.heap.size _ _ x HAo.out hs2r (by rw [nums_len]; omega)
          have HA3 : Hid (Qu w3 w.heap.size 3 v3 ((nums_ D s2 (i + 1)).map (Value.int .i64))) := Lib.hid (by rw [nums_succ, hx2]; exact hA3)
          have HR3 : Hid (Rd D cl w3 b (go_ D (8 * (1 * (i + 1))) s2)) := Lib.hid (by
            have := hR2.grown ht3 (fun k hk => by have := (Qu.own HA.out k (by simpa using hk)).1; omega)
            rw [show 8 * (1 * i) + 8 = 8 * (1 * (i + 1)) from by omega] at this
            exact this)
          have HT3 : Hid (Touch [b] w w3) := Lib.hid ((HT.out.trans ht2).transF ht3 (fun k hk hlt => by have := (Qu.own HA.out k (by simpa using hk)).1; omega))
          clear hR2 ht2 hA3 ht3 hx hx2 x2 HAo
          go_wp2_with (at_builtin; refine Lib.wpList_append_run _ rfl _ _ _ _ rfl _ _ rfl rfl _ _ (hr3 _) ?_; clear hr3)
          go_roundw
          case rel => exact ⟨i + 1, by omega, by go_num, HA3.out, HR3.out, HT3.out⟩
          case measure => simp [intOf]; omega
      · obtain rfl : u = i := by omega
        go_wp2
        go_ret
        exact ⟨_, u, rfl, by rw [HPS.out]; exact HA.out, by omega, by rw [HRL.out]; exact HR.out, HT.out, fun o ho => HUU.out.symm⟩
def VecP (D : List Nat) (cl b : Nat) (st : Option Nat) (w : World) (e : Ending) (w' : World) : Prop :=
  ∃ v, e = .returned v ∧ Sl w' v (nums_ D st cl) ∧ (∀ k, v.ownBlock = some k → w.heap.size ≤ k ∧ k < w'.heap.size) ∧ Rd D cl w' b (go_ D (8 * cl) st) ∧ Touch [b] w w'
theorem Rd.class {D : List Nat} {cl b : Nat} {w : World} {st : Option Nat} (h : Rd D cl w b st) : w.cell? ⟨b, 1, none⟩ = some (.int .i64 (cl : Int)) := by
  cases st with
  | some o => obtain ⟨h0, v, h1, h2, h3⟩ := h; exact h1.cell (i := 1) rfl
  | none => obtain ⟨v, R, h1, h2, h3, h4⟩ := h; exact h1.cell (i := 1) rfl
set_option maxHeartbeats 16000000 in
theorem vec_any (D : List Nat) (cl b : Nat) (st : Option Nat) (w : World) (h : Rd D cl w b st) (hcl : cl ≤ 6) (hD : D.length ≤ 9223372036854775807) (hDb : ∀ x ∈ D, x < 256) :
    Calls Try.prog 45 #[.pointer (some ⟨b, 0, none⟩)] w (VecP D cl b st w) := by
  have HD := Lib.hid hD
  have HDB := Lib.hid hDb
  have hbw : b < w.heap.size := h.lt
  have x1 := h.class
  have HR0 := Lib.hid h
  have hmk := run_mk_of (P := Try.prog) 25 3 Try.underlying25 (by kernel_rfl) cl (by omega) w
  obtain ⟨SZ, hSZ⟩ : ∃ s, w.heap.size = s := ⟨_, rfl⟩
  have hb0 : Blk (w.alloc (.cells (rowA (fun _ => 0) cl) 3)) SZ (rowA (fun _ => 0) cl) 3 := Blk.new hSZ.symm
  have hta : Touch [b] w (w.alloc (.cells (rowA (fun _ => 0) cl) 3)) := (Touch.refl [b] w).alloc _
  have hr1 : Rd D cl (w.alloc (.cells (rowA (fun _ => 0) cl) 3)) b st := h.touch ((Touch.refl [] w).alloc _)
  have hs1 : (w.alloc (.cells (rowA (fun _ => 0) cl) 3)).heap.size = SZ + 1 := by simp [hSZ]
  obtain ⟨w1, hw1⟩ : ∃ x, w.alloc (.cells (rowA (fun _ => 0) cl) 3) = x := ⟨_, rfl⟩
  rw [hw1] at hb0 hta hr1 hs1 hmk
  rw [hSZ] at hmk hbw
  have HSZ := Lib.hid hSZ
  have HB0 := Lib.hid hb0
  have HTA := Lib.hid hta
  have HR1 := Lib.hid hr1
  clear hb0 hta hr1 hw1 h hSZ
  go_enter Try.func45, Try.ntmps45
  go_wp2
  go_loopw [12] (fun iv wr => ∃ i : Nat, i ≤ cl ∧ iv = .int .i64 (i : Int) ∧ Blk wr SZ (rowA (fun j => if j < i then nvA D st j else 0) cl) 3 ∧ Rd D cl wr b (go_ D (8 * i) st) ∧ Touch [b] w wr ∧ SZ + 1 ≤ wr.heap.size) (fun iv _ => cl + 1 - (intOf iv).toNat)
  case atStart => exact ⟨0, by omega, rfl, by simpa using HB0.out, by rw [Nat.mul_zero, go_zero HR1.out]; exact HR1.out, HTA.out, by omega⟩
  case round =>
    obtain ⟨i, hi, rfl, hbk, hR, ht, hsz⟩ := hrel
    clear HB0 HR1 HTA hs1
    have HBK := Lib.hid hbk
    have HR := Lib.hid hR
    have HT := Lib.hid ht
    clear hbk hR ht
    by_cases hlt : i < cl
    · go_wp2_with fail
      refine (num_any D cl b (go_ D (8 * i) st) _ HR.out HD.out HDB.out).mono ?_
      rintro e w2 ⟨rfl, hR2, ht2⟩
      rw [go_go] at hR2
      have hb2 := HBK.out.touch ht2 (by simp; omega)
      have hs2 : SZ + 1 ≤ w2.heap.size := Nat.le_trans hsz ht2.size
      obtain ⟨x, hx⟩ : ∃ x, nv D (go_ D (8 * i) st) = x := ⟨_, rfl⟩
      have hx2 : nvA D st i = x := hx
      rw [hx]
      have c0 := hb2.cell (i := i) (rowA_get _ _ _ hlt)
      have f0 := hb2.free i
      have tt : Touch [SZ] w2 (w2.setCell ⟨SZ, i, none⟩ (.int .i64 x)) := (Touch.refl [SZ] w2).setCell (by simp) _
      have HB3 : Hid (Blk (w2.setCell ⟨SZ, i, none⟩ (.int .i64 x)) SZ (rowA (fun j => if j < i + 1 then nvA D st j else 0) cl) 3) := Lib.hid (by
        have := hb2.set i (.int .i64 x)
        rw [rowA_set] at this
        rw [rowA_congr (g := fun j => if j = i then x else if j < i then nvA D st j else 0) (fun j hj => by
          by_cases e : j = i
          · subst e; rw [if_pos (by omega), if_pos rfl, hx2]
          · rw [if_neg e]
            by_cases e2 : j < i
            · rw [if_pos (by omega), if_pos e2]
            · rw [if_neg (by omega), if_neg e2])]
        exact this)
      have HR3 := Lib.hid (hR2.grown tt (by simp; omega))
      have HT3 : Hid (Touch [b] w (w2.setCell ⟨SZ, i, none⟩ (.int .i64 x))) := Lib.hid ((HT.out.trans ht2).setNew (by rw [HSZ.out]; exact Nat.le_refl _) _)
      have hs3 : SZ + 1 ≤ (w2.setCell ⟨SZ, i, none⟩ (.int .i64 x)).heap.size := by simpa [World.setCell] using hs2
      clear hR2 ht2 hb2 hx hx2 tt
      go_wp2
      go_roundw
      case rel => exact ⟨i + 1, by omega, by go_num, HB3.out, HR3.out, HT3.out, by simpa [World.setCell] using hs2⟩
      case measure => simp [intOf]; omega
    · obtain rfl : cl = i := by omega
      have HB4 : Hid (Sl wr (.slice (some ⟨SZ, 0, none⟩) cl cl) (nums_ D st cl)) := Lib.hid ⟨_, cl, by rw [nums_len], .inr ⟨SZ, 0, rfl, HBK.out.lt, fun j hj => by
        rw [nums_len] at hj
        rw [HBK.out.cell (by rw [Nat.zero_add]; exact rowA_get _ _ _ hj)]
        simp [nums_, hj]⟩⟩
      go_wp2
      go_ret
      exact ⟨_, rfl, HB4.out, fun k hk => by simp [Value.ownBlock] at hk; subst hk; exact ⟨by rw [HSZ.out]; exact Nat.le_refl _, HBK.out.lt⟩, HR.out, HT.out⟩
/-- A list of lists of the call's own. -/
def Lv (w : World) (base : Nat) (v : Value) (l : List (List Int)) : Prop :=
  ∃ vs : List Value, Qu w base 25 v vs ∧ vs.length = l.length ∧ ∀ i, i < l.length → Sl w (vs.getD i (.slice none 0 0)) (rw_ l i) ∧ ∀ k, (vs.getD i (.slice none 0 0)).ownBlock = some k → base ≤ k ∧ k < w.heap.size ∧ v.ownBlock ≠ some k
theorem Lv.nil (w : World) (base : Nat) : Lv w base (.slice none 0 0) [] := ⟨[], Qu.nil _ _ _, rfl, fun i hi => by simp at hi⟩
theorem Lv.rws {w : World} {base : Nat} {v : Value} {l : List (List Int)} (h : Lv w base v l) : Rws w v l := by
  obtain ⟨vs, h1, h2, h3⟩ := h
  exact h1.rws h2 (fun i hi => (h3 i hi).1)
theorem Lv.own {w : World} {base : Nat} {v : Value} {l : List (List Int)} (h : Lv w base v l) : ∀ k, v.ownBlock = some k → base ≤ k ∧ k < w.heap.size := by
  obtain ⟨vs, h1, _⟩ := h
  exact h1.own
theorem Lv.touch {w w' : World} {base : Nat} {v : Value} {l : List (List Int)} {S : List Nat} (h : Lv w base v l) (ht : Touch S w w') (hs : ∀ k ∈ S, k < base) : Lv w' base v l := by
  obtain ⟨vs, h1, h2, h3⟩ := h
  exact ⟨vs, h1.touch ht (fun k hk hm => by have := hs k hm; have := (h1.own k hk).1; omega), h2, fun i hi => ⟨(h3 i hi).1.touch ht (fun k hk hm => by have := hs k hm; have := ((h3 i hi).2 k hk).1; omega), fun k hk => ⟨((h3 i hi).2 k hk).1, Nat.lt_of_lt_of_le ((h3 i hi).2 k hk).2.1 ht.size, ((h3 i hi).2 k hk).2.2⟩⟩⟩
theorem infoRo : ∃ i0 : TypeInfo, Try.prog.info? 25 = some i0 ∧ i0.zero = some (.slice none 0 0) ∧ i0.size = 1 ∧ i0.bytes = 24 :=
  info_parts (show (Try.prog.info? 25).map (fun i => (i.zero, i.size, i.bytes)) = some (some (.slice none 0 0), 1, 24) from by kernel_rfl)
theorem rw_old (l : List (List Int)) (x : List Int) {i : Nat} (h : i < l.length) : rw_ (l ++ [x]) i = rw_ l i := by
  unfold rw_
  rw [List.getD_eq_getElem?_getD, List.getD_eq_getElem?_getD, List.getElem?_append_left h]
theorem rw_new (l : List (List Int)) (x : List Int) : rw_ (l ++ [x]) l.length = x := by
  unfold rw_
  rw [List.getD_eq_getElem?_getD, List.getElem?_append_right (Nat.le_refl _)]
  simp
theorem app_row (w : World) (base : Nat) (v r : Value) (l : List (List Int)) (x : List Int) (h : Lv w base v l) (hb : base ≤ w.heap.size) (hx : Sl w r x) (ho : ∀ k, r.ownBlock = some k → base ≤ k ∧ k < w.heap.size ∧ v.ownBlock ≠ some k) (h1 : r.oneCell' = true) (hn : l.length ≤ 100000) :
    ∃ v' w', (∀ ty, (Builtin.append_ #[26, 26] ty #[v, .slice (some ⟨w.heap.size, 0, none⟩) 1 1]).run Try.prog (w.alloc (.cells #[r] 25)) = .ok v' w') ∧ Lv w' base v' (l ++ [x]) ∧ Touch v.ownBlock.toList w w' := by
  obtain ⟨i0, hi, hz0, hz1, hz2⟩ := infoRo
  obtain ⟨vs, q1, q2, q3⟩ := h
  have ta : Touch [] w (w.alloc (.cells #[r] 25)) := (Touch.refl _ _).alloc _
  have hsz := ta.size
  have hss : (w.alloc (.cells #[r] 25)).heap.size = w.heap.size + 1 := by simp
  obtain ⟨v', w3, hr, hq, hg, hnew⟩ := (Qu.alloc q1 (.cells #[r] 25)).append (t := 26) Try.underlying26 hi hz0 hz1 hz2 rfl (by omega) ⟨w.heap.size, 0, none⟩ 1 r (World.cell?_alloc_at _ _ _ _ rfl) h1 (by omega) (by omega)
  have t3 : Touch v.ownBlock.toList w w3 := ((Touch.refl v.ownBlock.toList w).alloc _).grown hg (fun k hk _ => by simp [hk])
  have keep : ∀ k, base ≤ k ∧ k < w.heap.size ∧ v.ownBlock ≠ some k → base ≤ k ∧ k < w3.heap.size ∧ v'.ownBlock ≠ some k := fun k ⟨a1, a2, a3⟩ => ⟨a1, Nat.lt_of_lt_of_le a2 t3.size, fun e => by
    rcases hnew k e with e2 | e2
    · exact a3 e2
    · omega⟩
  have st : ∀ u y, Sl w u y → (∀ k, u.ownBlock = some k → base ≤ k ∧ k < w.heap.size ∧ v.ownBlock ≠ some k) → Sl w3 u y := fun u y hs ho => hs.touch t3 (fun k hk hm => (ho k hk).2.2 (by simpa [Option.mem_toList] using hm))
  refine ⟨v', w3, hr, ⟨vs ++ [r], hq, by simp [q2], fun i hil => ?_⟩, t3⟩
  by_cases hlt : i < l.length
  · rw [rw_old _ _ hlt, show (vs ++ [r]).getD i (.slice none 0 0) = vs.getD i (.slice none 0 0) from by rw [List.getD_eq_getElem?_getD, List.getD_eq_getElem?_getD, List.getElem?_append_left (by omega)]]
    obtain ⟨p1, p2⟩ := q3 i hlt
    exact ⟨st _ _ p1 p2, fun k hk => keep k (p2 k hk)⟩
  · have hie : i = l.length := by simp at hil; omega
    subst hie
    rw [rw_new, show (vs ++ [r]).getD l.length (.slice none 0 0) = r from by rw [List.getD_eq_getElem?_getD, List.getElem?_append_right (by omega), q2]; simp]
    exact ⟨st _ _ hx ho, fun k hk => keep k (ho k hk)⟩
def RLR (most : Nat) (D : List Nat) (cl b : Nat) (st : Option Nat) (w : World) (e : Ending) (w' : World) : Prop :=
  ∃ v l, e = .returned v ∧ Lv w' w.heap.size v (rows_ D (go_ D 2 st) cl l) ∧ l ≤ most ∧ Rd D cl w' b (rl_ D cl most st) ∧ Touch [b] w w' ∧ ∀ o, rl_ D cl most st = some o → l = un_ D 2 st
set_option maxHeartbeats 16000000 in
theorem rlist_rows (D : List Nat) (cl b most : Nat) (st : Option Nat) (w : World) (h : Rd D cl w b st) (hm : most ≤ 10000) (hcl : cl ≤ 6) (hD : D.length ≤ 9223372036854775807) (hDb : ∀ x ∈ D, x < 256) :
    Calls Try.prog 44 #[.pointer (some ⟨b, 0, none⟩), .int .i64 (most : Int), .func (.func 45) #[] #[]] w (RLR most D cl b st w) := by
  have HD := Lib.hid hD
  have HDB := Lib.hid hDb
  have hbw : b < w.heap.size := h.lt
  have HU := Lib.hid (un_any D cl b 2 st w h (by omega) hD hDb)
  have hul := un_lt D 2 st (by omega) hDb
  obtain ⟨u, hu⟩ : ∃ u, un_ D 2 st = u := ⟨_, rfl⟩
  rw [hu] at hul
  have HUU := Lib.hid hu
  obtain ⟨s2, hs2⟩ : ∃ s, go_ D 2 st = s := ⟨_, rfl⟩
  have HS2 := Lib.hid hs2
  have HPS : Hid (go_ D 2 st = s2) := Lib.hid hs2
  have HCL := Lib.hid hcl
  have hw : IntKind.wrap .i64 (u : Int) = (u : Int) := IntWalk.i64_in _ (by omega)
  clear hu h hs2
  go_enter Try.func44, Try.ntmps44
  go_wp2_with fail
  refine HU.out.mono ?_
  rintro e w1 ⟨rfl, hR, ht⟩
  rw [HUU.out]
  rw [HS2.out] at hR
  have hbw1 : b < w1.heap.size := hR.lt
  have hsz1 : w.heap.size ≤ w1.heap.size := ht.size
  have HT1 := Lib.hid ht
  have HR1 := Lib.hid hR
  clear HU ht hR
  by_cases hgt : most < u
  · have HRL : Hid (rl_ D cl most st = none) := Lib.hid (by unfold rl_; rw [HUU.out]; exact if_neg (by omega))
    have hRq := HR1.out
    obtain ⟨q, hq⟩ : ∃ q, s2 = some q := by
      have := un_some (D := D) (n := 2) (st := st) (by rw [HUU.out]; omega)
      rw [HS2.out] at this; exact this
    rw [hq] at hRq
    obtain ⟨hq0, v, hbk, hbs, hown⟩ := hRq
    have HBK := Lib.hid hbk
    have HBS := Lib.hid hbs
    have HOW := Lib.hid hown
    have x2 := hbk.cell (i := 2) rfl
    have f2 := hbk.free 2
    have y2 := (hbk.set 2 (.bool true)).cell (i := 2) rfl
    clear hbk hbs hown hq
    go_wp2
    refine wp_loop_rounds 1 ?_
    rw [rounds_succ]
    go_wp2
    go_ret
    have tt : Touch [b] w1 (w1.setCell ⟨b, 2, none⟩ (.bool true)) := (Touch.refl [b] w1).setCell (by simp) _
    refine ⟨_, 0, rfl, Lv.nil _ _, Nat.zero_le _, ?_, HT1.out.trans tt, fun o ho => by rw [HRL.out] at ho; cases ho⟩
    rw [HRL.out]
    exact ⟨v, D.drop q, HBK.out.set 2 (.bool true), HBS.out.touch tt (fun k hk => by have := HOW.out k hk; simp; omega), by rw [List.length_drop]; omega, HOW.out⟩
  · have HRL : Hid (rl_ D cl most st = go_ D (8 * (cl * u)) s2) := Lib.hid (by unfold rl_; rw [HUU.out, if_pos (by omega), ← HS2.out, go_go])
    go_wp2
    go_loopw [8, 9] (fun lv iv wr => ∃ i : Nat, i ≤ u ∧ iv = .int .i64 (i : Int) ∧ Lv wr w.heap.size lv (rows_ D s2 cl i) ∧ Rd D cl wr b (go_ D (8 * (cl * i)) s2) ∧ Touch [b] w wr) (fun _ iv _ => u + 1 - (intOf iv).toNat)
    case atStart => exact ⟨0, by omega, rfl, Lv.nil _ _, by rw [show 8 * (cl * 0) = 0 from by simp, go_zero HR1.out]; exact HR1.out, HT1.out⟩
    case round =>
      obtain ⟨i, hi, rfl, hA, hR, ht⟩ := hrel
      clear HR1 HT1 hw
      have HA := Lib.hid hA
      have HR := Lib.hid hR
      have HT := Lib.hid ht
      have hsr : w.heap.size ≤ wr.heap.size := ht.size
      obtain ⟨la, lc, hform⟩ := hA.rws.form
      rw [rows_len] at hform
      subst hform
      clear hA hR ht hsz1 hbw1
      by_cases hlt : i < u
      · cases hst : go_ D (8 * (cl * i)) s2 with
        | none =>
          have HRL2 : Hid (rl_ D cl most st = none) := Lib.hid (by rw [HRL.out]; exact go_mono hst (by have := Nat.mul_le_mul_left cl hi; omega))
          have hR := HR.out
          rw [hst] at hR
          obtain ⟨v, R, hbk, hbs, hrl, hown⟩ := hR
          have x2 := hbk.cell (i := 2) rfl
          have HR3 : Hid (Rd D cl wr b none) := Lib.hid ⟨v, R, hbk, hbs, hrl, hown⟩
          clear hbk hbs hrl hown hst
          go_wp2
          go_ret
          exact ⟨_, i, rfl, by rw [HPS.out]; exact HA.out, by omega, by rw [HRL2.out]; exact HR3.out, HT.out, fun o ho => by rw [HRL2.out] at ho; cases ho⟩
        | some q =>
          have hR := HR.out
          rw [hst] at hR
          obtain ⟨hq0, v, hbk, hbs, hown⟩ := hR
          have x2 := hbk.cell (i := 2) rfl
          have HST := Lib.hid hst
          clear hbk hbs hown hst
          go_wp2_with fail
          refine (vec_any D cl b (go_ D (8 * (cl * i)) s2) _ HR.out HCL.out HD.out HDB.out).mono ?_
          rintro e w2 ⟨rv, rfl, hrv, hro, hR2, ht2⟩
          obtain ⟨ra, rc, rfl⟩ := hrv.form
          rw [nums_len] at hrv hro ⊢
          rw [go_go] at hR2
          have HAo := Lib.hid (HA.out.touch ht2 (by simp; omega))
          have hs2r : w.heap.size ≤ w2.heap.size := Nat.le_trans hsr ht2.size
          obtain ⟨v3, w3, hr3, hA3, ht3⟩ := app_row w2 w.heap.size _ (.slice ra cl rc) _ _ HAo.out hs2r hrv (fun k hk => ⟨Nat.le_trans hsr (hro k hk).1, (hro k hk).2, fun e => by have := (HA.out.own k e).2; have := (hro k hk).1; omega⟩) rfl (by rw [rows_len]; omega)
          have HA3 : Hid (Lv w3 w.heap.size v3 (rows_ D s2 cl (i + 1))) := Lib.hid (by rw [rows_succ]; exact hA3)
          have HR3 : Hid (Rd D cl w3 b (go_ D (8 * (cl * (i + 1))) s2)) := Lib.hid (by
            have := hR2.grown ht3 (fun k hk => by have := (HA.out.own k (by simpa using hk)).1; omega)
            rw [show 8 * (cl * i) + 8 * cl = 8 * (cl * (i + 1)) from by rw [Nat.mul_succ]; omega] at this
            exact this)
          have HT3 : Hid (Touch [b] w w3) := Lib.hid ((HT.out.trans ht2).transF ht3 (fun k hk hlt => by have := (HA.out.own k (by simpa using hk)).1; omega))
          clear hR2 ht2 hA3 ht3 hrv hro x2 HAo
          go_wp2_with (at_builtin; refine Lib.wpList_append_run _ rfl _ _ _ _ rfl _ _ rfl rfl _ _ (hr3 _) ?_; clear hr3)
          go_roundw
          case rel => exact ⟨i + 1, by omega, by go_num, HA3.out, HR3.out, HT3.out⟩
          case measure => simp [intOf]; omega
      · obtain rfl : u = i := by omega
        go_wp2
        go_ret
        exact ⟨_, u, rfl, by rw [HPS.out]; exact HA.out, by omega, by rw [HRL.out]; exact HR.out, HT.out, fun o ho => HUU.out.symm⟩
end Go.Proofs.Ytoedkomckgidiaa
