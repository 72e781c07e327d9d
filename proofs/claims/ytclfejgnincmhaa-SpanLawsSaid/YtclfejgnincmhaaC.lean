/-
  Intervals: sums.
-/
import Derived.Test.YtclfejgnincmhaaB
set_option linter.unusedVariables false
namespace Go.Proofs.Ytclfejgnincmhaa
open Go.RowKit

def plusL (a c : Int) : Int := if clip a = -1048576 ∨ clip c = -1048576 then -1048576 else clip (clip a + clip c)
def plusH (b d : Int) : Int := if clip b = 1048576 ∨ clip d = 1048576 then 1048576 else clip (clip b + clip d)
theorem ends_w (w : World) : Calls Try.prog 22 #[] w fun e w' => e = .returned (.agg #[.int .i64 (-1048576), .int .i64 1048576]) ∧ w' = w.alloc (.cells #[.int .i64 (-1048576), .int .i64 1048576] 41) := by
  go_enter Try.func22, Try.ntmps22
  go_wp2
  exact bodyPost_ret (v := .agg #[.int .i64 (-1048576), .int .i64 1048576]) (by simp [results, Try.results22, go_sem]) rfl ⟨rfl, rfl⟩
theorem u41 : Try.prog.underlying 41 = some (.array 2 3) := by kernel_rfl
theorem i3 : ∃ i, Try.prog.info? 3 = some i := Option.isSome_iff_exists.mp (by kernel_rfl)
theorem c3 : Try.prog.cellsOf 3 = 1 := by kernel_rfl
theorem two_eq (a b c d : Int) (w : World) : (if a = c then if b = d then Result.ok true w else .ok false w else .ok false w) = Result.ok (a == c && b == d) w := by
  by_cases h1 : a = c <;> by_cases h2 : b = d <;> simp [h1, h2]
set_option maxHeartbeats 1000000 in
theorem eqB (a b c d : Int) (w : World) : (Op.equalIn 10000 41 (.agg #[.int .i64 a, .int .i64 b]) (.agg #[.int .i64 c, .int .i64 d])).run Try.prog w = .ok (a == c && b == d) w := by
  obtain ⟨i, hi⟩ := i3
  rw [run_equalIn_array w 9999 _ _ u41 hi, c3, ← two_eq]
  simp [Op.eqItems, List.range, List.range.loop, go_sem]
theorem f23 : Try.prog.underlying 23 = some (.struct (Try.prog.fieldsOf 23)) := by kernel_rfl
theorem h23 : Try.prog.stoodInHeld 23 = false := by kernel_rfl
set_option maxHeartbeats 1000000 in
theorem eqS (a b c d : Int) (w : World) : (Op.equalIn 10000 23 (.agg #[.int .i64 a, .int .i64 b]) (.agg #[.int .i64 c, .int .i64 d])).run Try.prog w = .ok (a == c && b == d) w := by
  rw [run_equalIn_struct w 9999 _ _ _ f23 h23]
  have hf : (Try.prog.fieldsOf 23).toList.map (fun f => (f.name, f.type, f.offset)) = [("Lo", 3, 0), ("Hi", 3, 1)] := by kernel_rfl
  generalize (Try.prog.fieldsOf 23).toList = l at *
  obtain ⟨f, l1, rfl⟩ : ∃ f l1, l = f :: l1 := by
    cases l with
    | nil => simp at hf
    | cons f l1 => exact ⟨f, l1, rfl⟩
  obtain ⟨g, l2, rfl⟩ : ∃ g l2, l1 = g :: l2 := by
    cases l1 with
    | nil => simp at hf
    | cons g l2 => exact ⟨g, l2, rfl⟩
  simp at hf
  obtain ⟨⟨a1, a2, a3⟩, ⟨b1, b2, b3⟩, rfl⟩ := hf
  rw [← two_eq]
  simp [Op.eqFields, a1, a2, a3, b1, b2, b3, go_sem]
theorem ix0 (a b : Int) (w : World) : (Instr.index 41 (.agg #[.int .i64 a, .int .i64 b]) (.int .i64 0)).run Try.prog w = .ok (.int .i64 a) w := by
  simp [Instr.index, run_underlying u41, go_sem, part]
theorem ix1 (a b : Int) (w : World) : (Instr.index 41 (.agg #[.int .i64 a, .int .i64 b]) (.int .i64 1)).run Try.prog w = .ok (.int .i64 b) w := by
  simp [Instr.index, run_underlying u41, go_sem, part]
theorem keeps {w : World} {a p : Addr} {u : Value} (h : w.cell? a = some u) (hp : ¬ p.block = a.block) (v : Value) : (w.setCell p v).cell? a = some u := by
  rw [World.cell?_setCell_far w p a v hp]; exact h
set_option maxRecDepth 100000 in
set_option maxHeartbeats 16000000 in
theorem plus_any (a b c d : Int) (w : World) : Calls Try.prog 9 #[.agg #[.int .i64 a, .int .i64 b], .agg #[.int .i64 c, .int .i64 d]] w (Two (plusL a c) (plusH b d) w) := by
  have H1 : Hid (Blk (((w.alloc (.cells #[.int .i64 a, .int .i64 b] 23)).alloc (.cells #[.int .i64 c, .int .i64 d] 23)).alloc (.cells #[.int .i64 0, .int .i64 0] 23)) w.heap.size #[.int .i64 a, .int .i64 b] 23) := ((Blk.new rfl).alloc _).alloc _
  have H2 : Hid (Blk (((w.alloc (.cells #[.int .i64 a, .int .i64 b] 23)).alloc (.cells #[.int .i64 c, .int .i64 d] 23)).alloc (.cells #[.int .i64 0, .int .i64 0] 23)) (w.heap.size + 1) #[.int .i64 c, .int .i64 d] 23) := (Blk.new (by simp)).alloc _
  have H3 : Hid (Blk (((w.alloc (.cells #[.int .i64 a, .int .i64 b] 23)).alloc (.cells #[.int .i64 c, .int .i64 d] 23)).alloc (.cells #[.int .i64 0, .int .i64 0] 23)) (w.heap.size + 1 + 1) #[.int .i64 0, .int .i64 0] 23) := Blk.new (by simp)
  have HT : Hid (Touch [] w (((w.alloc (.cells #[.int .i64 a, .int .i64 b] 23)).alloc (.cells #[.int .i64 c, .int .i64 d] 23)).alloc (.cells #[.int .i64 0, .int .i64 0] 23))) := (((Touch.refl _ _).alloc _).alloc _).alloc _
  go_enter Try.func9, Try.ntmps9
  go_upto_region 1 with fail
  generalize ((w.alloc (.cells #[.int .i64 a, .int .i64 b] 23)).alloc (.cells #[.int .i64 c, .int .i64 d] 23)).alloc (.cells #[.int .i64 0, .int .i64 0] 23) = W at *
  have x0 : W.cell? ⟨w.heap.size, 0, none⟩ = some (.int .i64 a) := H1.out.cell (i := 0) rfl
  have x1 : W.cell? ⟨w.heap.size, 1, none⟩ = some (.int .i64 b) := H1.out.cell (i := 1) rfl
  have x2 : W.cell? ⟨w.heap.size + 1, 0, none⟩ = some (.int .i64 c) := H2.out.cell (i := 0) rfl
  have x3 : W.cell? ⟨w.heap.size + 1, 1, none⟩ = some (.int .i64 d) := H2.out.cell (i := 1) rfl
  have n0 := World.new_ne W ⟨w.heap.size, 0, none⟩ x0
  have n1 := World.new_ne W ⟨w.heap.size, 1, none⟩ x1
  have n2 := World.new_ne W ⟨w.heap.size + 1, 0, none⟩ x2
  have n3 := World.new_ne W ⟨w.heap.size + 1, 1, none⟩ x3
  go_cut [5, 6] (fun s5 s6 wx => ∃ bx bz : Nat, s5 = .pointer (some ⟨bx, 0, none⟩) ∧ s6 = .pointer (some ⟨bz, 0, none⟩) ∧ Blk wx bx #[.int .i64 (clip a), .int .i64 (clip b)] 41 ∧ Blk wx bz #[.int .i64 (clip c), .int .i64 (clip d)] 41 ∧ Touch [] W wx)
  case first =>
    go_region_held3 (fun (w' : World) => w'.cell? ⟨w.heap.size, 0, none⟩ = some (.int .i64 a) ∧ w'.cell? ⟨w.heap.size, 1, none⟩ = some (.int .i64 b) ∧ w'.cell? ⟨w.heap.size + 1, 0, none⟩ = some (.int .i64 c) ∧ w'.cell? ⟨w.heap.size + 1, 1, none⟩ = some (.int .i64 d)) (repeat (first | with_reducible exact x0 | with_reducible exact x1 | with_reducible exact x2 | with_reducible exact x3 | with_reducible refine And.intro ?_ ?_ | with_reducible refine keepd ?_ | with_reducible refine keepc ?_ _))
      (first | (go_at_call 20; (first | with_reducible refine (clipped_w a b _).mono ?_ | with_reducible refine (clipped_w c d _).mono ?_); rintro e w5 ⟨rfl, rfl⟩))
    all_goals (go_wp2_with fail; go_meet; exact ⟨_, _, rfl, rfl, (by repeat (first | with_reducible refine Blk.drew ?_ | (refine Blk.new ?_; simp; done) | with_reducible refine Blk.alloc ?_ _)), (by repeat (first | with_reducible refine Blk.drew ?_ | (refine Blk.new ?_; simp; done) | with_reducible refine Blk.alloc ?_ _)), (by repeat (first | exact Touch.refl _ _ | with_reducible refine Touch.drew ?_ | with_reducible refine Touch.alloc ?_ _))⟩)
  case rest =>
    obtain ⟨bx, bz, rfl, rfl, hx, hz, ht⟩ := hcut
    have hc := H3.out.touch ht (by simp)
    have HT2 := Lib.hid (HT.out.trans ht)
    have x0 : wc.cell? ⟨bx, 0, none⟩ = some (.int .i64 (clip a)) := hx.cell (i := 0) rfl
    have x1 : wc.cell? ⟨bx, 1, none⟩ = some (.int .i64 (clip b)) := hx.cell (i := 1) rfl
    have x2 : wc.cell? ⟨bz, 0, none⟩ = some (.int .i64 (clip c)) := hz.cell (i := 0) rfl
    have x3 : wc.cell? ⟨bz, 1, none⟩ = some (.int .i64 (clip d)) := hz.cell (i := 1) rfl
    have HC := Lib.hid hc
    have HX := Lib.hid hx
    have HZ := Lib.hid hz
    clear hx hz ht hc H1 H2 H3 HT
    have n0 : ¬ wc.heap.size = bx := by have := HX.out.lt; omega
    have n1 : ¬ wc.heap.size + 1 = bx := by have := HX.out.lt; omega
    have n2 : ¬ wc.heap.size = bz := by have := HZ.out.lt; omega
    have n3 : ¬ wc.heap.size + 1 = bz := by have := HZ.out.lt; omega
    have n4 : ¬ bx = wc.heap.size := by have := HX.out.lt; omega
    have n5 : ¬ bx = wc.heap.size + 1 := by have := HX.out.lt; omega
    have n6 : ¬ bz = wc.heap.size := by have := HZ.out.lt; omega
    have n7 : ¬ bz = wc.heap.size + 1 := by have := HZ.out.lt; omega
    have hq1 := eqB (clip a) (clip b) (-1048576) 1048576
    have hq2 := eqB (clip c) (clip d) (-1048576) 1048576
    go_upto_region 2 with fail
    go_cut [21] (fun s21 wx => s21 = .bool (((clip a == -1048576) && (clip b == 1048576)) || ((clip c == -1048576) && (clip d == 1048576))) ∧ Touch [] wc wx)
    case first =>
      have key : ((clip a == -1048576) && (clip b == 1048576)) = true ∨ ((clip a == -1048576) && (clip b == 1048576)) = false := by cases ((clip a == -1048576) && (clip b == 1048576)) <;> simp
      rcases key with hk | hk
      · rw [hk] at hq1
        have KH := Lib.hid hk
        clear hk
        have y0 : ∀ o, (wc.alloc o).cell? ⟨bx, 0, none⟩ = some (.int .i64 (clip a)) := fun o => keepc x0 o
        have y1 : ∀ o, (wc.alloc o).cell? ⟨bx, 1, none⟩ = some (.int .i64 (clip b)) := fun o => keepc x1 o
        go_region_with (go_at_call 22; refine (ends_w _).mono ?_; rintro e w5 ⟨rfl, rfl⟩)
        all_goals (go_wp2_with fail; go_meet; exact ⟨by rw [KH.out]; rfl, (by repeat (first | exact Touch.refl _ _ | with_reducible refine Touch.drew ?_ | with_reducible refine Touch.alloc ?_ _))⟩)
      · rw [hk] at hq1
        have KH := Lib.hid hk
        clear hk
        go_region_held3 (fun (w' : World) => w'.cell? ⟨bx, 0, none⟩ = some (.int .i64 (clip a)) ∧ w'.cell? ⟨bx, 1, none⟩ = some (.int .i64 (clip b)) ∧ w'.cell? ⟨bz, 0, none⟩ = some (.int .i64 (clip c)) ∧ w'.cell? ⟨bz, 1, none⟩ = some (.int .i64 (clip d))) (repeat (first | with_reducible exact x0 | with_reducible exact x1 | with_reducible exact x2 | with_reducible exact x3 | with_reducible refine And.intro ?_ ?_ | with_reducible refine keepd ?_ | with_reducible refine keepc ?_ _))
          (first | (go_at_call 22; refine (ends_w _).mono ?_; rintro e w5 ⟨rfl, rfl⟩))
        all_goals (go_wp2_with fail; go_meet; exact ⟨by rw [KH.out]; rfl, (by repeat (first | exact Touch.refl _ _ | with_reducible refine Touch.drew ?_ | with_reducible refine Touch.alloc ?_ _))⟩)
    case rest =>
      obtain ⟨rfl, ht⟩ := hcut
      have HX2 := Lib.hid (HX.out.touch ht (by simp))
      have HZ2 := Lib.hid (HZ.out.touch ht (by simp))
      have HC2 := Lib.hid (HC.out.touch ht (by simp))
      have HT3 := Lib.hid (HT2.out.trans ht)
      clear ht HX HZ HC HT2 n0 n1 n2 n3 n4 n5 n6 n7 hq1 hq2 x0 x1 x2 x3
      have key : (((clip a == -1048576) && (clip b == 1048576)) || ((clip c == -1048576) && (clip d == 1048576))) = true ∨ (((clip a == -1048576) && (clip b == 1048576)) || ((clip c == -1048576) && (clip d == 1048576))) = false := by cases (((clip a == -1048576) && (clip b == 1048576)) || ((clip c == -1048576) && (clip d == 1048576))) <;> simp
      rcases key with hk | hk
      · rw [hk]
        have eL : Hid (plusL a c = -1048576) := Lib.hid (by unfold plusL; rw [if_pos]; simp at hk; omega)
        have eH : Hid (plusH b d = 1048576) := Lib.hid (by unfold plusH; rw [if_pos]; simp at hk; omega)
        clear hk
        go_wp2_with fail
        refine (ends_w _).mono ?_
        rintro e w3 ⟨rfl, rfl⟩
        have HC3 := Lib.hid (HC2.out.alloc (.cells #[.int .i64 (-1048576), .int .i64 1048576] 41))
        have HT4 := Lib.hid (HT3.out.alloc (.cells #[.int .i64 (-1048576), .int .i64 1048576] 41))
        go_wp2_with fail
        refine (span_any (-1048576) 1048576 _).mono ?_
        rintro e w4 ⟨rfl, ht4⟩
        have hc3 := HC3.out.touch ht4 (by simp)
        have z0 : w4.cell? ⟨w.heap.size + 1 + 1, 0, none⟩ = some (.int .i64 0) := hc3.cell (i := 0) rfl
        have z1 : w4.cell? ⟨w.heap.size + 1 + 1, 1, none⟩ = some (.int .i64 0) := hc3.cell (i := 1) rfl
        have f0 := hc3.free 0
        have f1 := hc3.free 1
        have hc4 := (hc3.set 0 (.int .i64 (-1048576))).set 1 (.int .i64 (1048576))
        have g0 := hc4.cell (i := 0) rfl
        have g1 := hc4.cell (i := 1) rfl
        have HT5 := Lib.hid (HT4.out.trans ht4)
        clear hc3 hc4 ht4
        go_wp2_with fail
        rw [eL.out, eH.out]
        exact bodyPost_ret (v := .agg #[.int .i64 (-1048576), .int .i64 (1048576)]) (by simp [results, Try.results9, go_sem, g0, g1]) rfl ⟨rfl, (HT5.out.setNew (by simp; omega) _).setNew (by simp; omega) _⟩
      · rw [hk]
        have KH := Lib.hid hk
        clear hk
        go_wp2_with fail
        refine (ends_w _).mono ?_
        rintro e w3 ⟨rfl, rfl⟩
        have hlb : w.heap.size ≤ wc.heap.size := HT3.out.size
        have hbx := HX2.out.lt
        have hbz := HZ2.out.lt
        have hbc := HC2.out.lt
        have m1 : ¬ wc.heap.size = bx := by omega
        have m2 : ¬ wc.heap.size = bz := by omega
        have m3 : ¬ wc.heap.size = w.heap.size + 1 + 1 := by omega
        have m4 : ¬ bx = wc.heap.size := by omega
        have m5 : ¬ bz = wc.heap.size := by omega
        have m6 : ¬ w.heap.size + 1 + 1 = wc.heap.size := by omega
        have M := Lib.hid (show w.heap.size ≤ wc.heap.size ∧ bx ≠ wc.heap.size ∧ bz ≠ wc.heap.size ∧ w.heap.size + 1 + 1 ≠ wc.heap.size from ⟨hlb, m4, m5, m6⟩)
        clear hlb hbx hbz hbc
        have HS : Hid (∀ o : Obj, Blk ((wc.alloc (.cells #[.int .i64 0, .int .i64 0] 41)).alloc o) wc.heap.size #[.int .i64 0, .int .i64 0] 41) := Lib.hid (fun o => (Blk.new rfl).alloc o)
        go_wp2_with fail
        go_loopw [26] (fun i wr => ∃ (j : Nat) (s0 s1 : Int), j ≤ 2 ∧ i = .int .i64 j ∧ (1 ≤ j → s0 = plusL a c) ∧ (2 ≤ j → s1 = plusH b d) ∧ Blk wr wc.heap.size #[.int .i64 s0, .int .i64 s1] 41 ∧ Blk wr bx #[.int .i64 (clip a), .int .i64 (clip b)] 41 ∧ Blk wr bz #[.int .i64 (clip c), .int .i64 (clip d)] 41 ∧ Blk wr (w.heap.size + 1 + 1) #[.int .i64 0, .int .i64 0] 23 ∧ Touch [] w wr) (fun i _ => 3 - (intOf i).toNat)
        case atStart => exact ⟨0, 0, 0, by omega, rfl, by omega, by omega, HS.out _, (HX2.out.alloc _).alloc _, (HZ2.out.alloc _).alloc _, (HC2.out.alloc _).alloc _, (HT3.out.alloc _).alloc _⟩
        case round =>
          obtain ⟨j, s0, s1, hj, rfl, hs0, hs1, hs, hx, hz, hc, ht⟩ := hrel
          have HS2 := Lib.hid hs
          have HX3 := Lib.hid hx
          have HZ3 := Lib.hid hz
          have HC3 := Lib.hid hc
          have HT4 := Lib.hid ht
          have HV := Lib.hid (And.intro hs0 hs1)
          clear hs hx hz hc ht hs0 hs1 HS HX2 HZ2 HC2 HT3
          have v0 : wr.cell? ⟨wc.heap.size, 0, none⟩ = some (.int .i64 s0) := HS2.out.cell (i := 0) rfl
          have v1 : wr.cell? ⟨wc.heap.size, 1, none⟩ = some (.int .i64 s1) := HS2.out.cell (i := 1) rfl
          have w0 := HS2.out.free 0
          have w1 := HS2.out.free 1
          by_cases hj2 : j = 2
          · subst hj2
            have E := Lib.hid (And.intro (HV.out.1 (by omega)) (HV.out.2 (by omega)))
            go_wp2_with fail
            refine (span_any s0 s1 _).mono ?_
            rintro e w4 ⟨rfl, ht4⟩
            have hc3 := HC3.out.touch ht4 (by simp)
            have z0 : w4.cell? ⟨w.heap.size + 1 + 1, 0, none⟩ = some (.int .i64 0) := hc3.cell (i := 0) rfl
            have z1 : w4.cell? ⟨w.heap.size + 1 + 1, 1, none⟩ = some (.int .i64 0) := hc3.cell (i := 1) rfl
            have f0 := hc3.free 0
            have f1 := hc3.free 1
            have hc4 := (hc3.set 0 (.int .i64 s0)).set 1 (.int .i64 s1)
            have g0 := hc4.cell (i := 0) rfl
            have g1 := hc4.cell (i := 1) rfl
            have HT5 := Lib.hid (HT4.out.trans ht4)
            clear hc3 hc4 ht4
            go_wp2_with fail
            rw [← E.out.1, ← E.out.2]
            exact bodyPost_ret (v := .agg #[.int .i64 s0, .int .i64 s1]) (by simp [results, Try.results9, go_sem, g0, g1]) rfl ⟨rfl, (HT5.out.setNew (by simp; omega) _).setNew (by simp; omega) _⟩
          by_cases hj1 : j = 1
          · subst hj1
            have hix := ix1 (-1048576) 1048576
            have q0 : wr.cell? ⟨bx, 1, none⟩ = some (.int .i64 (clip b)) := HX3.out.cell (i := 1) rfl
            have q1 : wr.cell? ⟨bz, 1, none⟩ = some (.int .i64 (clip d)) := HZ3.out.cell (i := 1) rfl
            have hw : IntKind.i64.wrap (clip b + clip d) = clip b + clip d := IntWalk.i64_in (clip b + clip d) (by have := clip_bd b; have := clip_bd d; omega)
            have hcs : (clip b = 1048576 ∧ plusH b d = 1048576) ∨ (¬ clip b = 1048576 ∧ clip d = 1048576 ∧ plusH b d = 1048576) ∨ (¬ clip b = 1048576 ∧ ¬ clip d = 1048576 ∧ plusH b d = clip (clip b + clip d)) := by
              unfold plusH
              by_cases h1 : clip b = 1048576
              · exact .inl ⟨h1, by simp [h1]⟩
              · by_cases h2 : clip d = 1048576
                · exact .inr (.inl ⟨h1, h2, by simp [h2]⟩)
                · exact .inr (.inr ⟨h1, h2, by simp [h1, h2]⟩)
            rcases hcs with ⟨h1, h3⟩ | ⟨h1, h2, h3⟩ | ⟨h1, h2, h3⟩
            · have H3 := Lib.hid h3
              clear h3
              have b1 : (clip b == 1048576) = true := beqT h1
              clear h1
              go_wp2_with fail
              go_region_held3 (fun (w' : World) => w'.cell? ⟨bx, 1, none⟩ = some (.int .i64 (clip b)) ∧ w'.cell? ⟨bz, 1, none⟩ = some (.int .i64 (clip d))) (repeat (first | with_reducible exact q0 | with_reducible exact q1 | with_reducible refine And.intro ?_ ?_ | with_reducible refine keepd ?_ | with_reducible refine keepc ?_ _ | (refine keeps ?_ (by first | exact m1 | exact m2) _)))
                (first | (go_at_call 17; refine (clip_any _ _).mono ?_; rintro e w' ⟨rfl, rfl⟩))
              go_wp2_with fail
              exact ⟨⟨2, s0, 1048576, by omega, rfl, fun _ => HV.out.1 (by omega), fun _ => H3.out.symm, ((HS2.out.set 1 (.int .i64 (clip (clip b + clip d)))).set 1 (.int .i64 (1048576))).drew, ((HX3.out.other (by exact M.out.2.1) _).other (by exact M.out.2.1) _).drew, ((HZ3.out.other (by exact M.out.2.2.1) _).other (by exact M.out.2.2.1) _).drew, ((HC3.out.other (by exact M.out.2.2.2) _).other (by exact M.out.2.2.2) _).drew, ((HT4.out.setNew (by exact M.out.1) _).setNew (by exact M.out.1) _).drew⟩, by simp [intOf]⟩
            · have H3 := Lib.hid h3
              clear h3
              have b1 : (clip b == 1048576) = false := beqF h1
              have b2 : (clip d == 1048576) = true := beqT h2
              clear h1 h2
              go_wp2_with fail
              go_region_held3 (fun (w' : World) => w'.cell? ⟨bx, 1, none⟩ = some (.int .i64 (clip b)) ∧ w'.cell? ⟨bz, 1, none⟩ = some (.int .i64 (clip d))) (repeat (first | with_reducible exact q0 | with_reducible exact q1 | with_reducible refine And.intro ?_ ?_ | with_reducible refine keepd ?_ | with_reducible refine keepc ?_ _ | (refine keeps ?_ (by first | exact m1 | exact m2) _)))
                (first | (go_at_call 17; refine (clip_any _ _).mono ?_; rintro e w' ⟨rfl, rfl⟩))
              go_wp2_with fail
              exact ⟨⟨2, s0, 1048576, by omega, rfl, fun _ => HV.out.1 (by omega), fun _ => H3.out.symm, ((HS2.out.set 1 (.int .i64 (clip (clip b + clip d)))).set 1 (.int .i64 (1048576))).drew, ((HX3.out.other (by exact M.out.2.1) _).other (by exact M.out.2.1) _).drew, ((HZ3.out.other (by exact M.out.2.2.1) _).other (by exact M.out.2.2.1) _).drew, ((HC3.out.other (by exact M.out.2.2.2) _).other (by exact M.out.2.2.2) _).drew, ((HT4.out.setNew (by exact M.out.1) _).setNew (by exact M.out.1) _).drew⟩, by simp [intOf]⟩
            · have H3 := Lib.hid h3
              clear h3
              have b1 : (clip b == 1048576) = false := beqF h1
              have b2 : (clip d == 1048576) = false := beqF h2
              clear h1 h2
              go_wp2_with fail
              go_region_held3 (fun (w' : World) => w'.cell? ⟨bx, 1, none⟩ = some (.int .i64 (clip b)) ∧ w'.cell? ⟨bz, 1, none⟩ = some (.int .i64 (clip d))) (repeat (first | with_reducible exact q0 | with_reducible exact q1 | with_reducible refine And.intro ?_ ?_ | with_reducible refine keepd ?_ | with_reducible refine keepc ?_ _ | (refine keeps ?_ (by first | exact m1 | exact m2) _)))
                (first | (go_at_call 17; refine (clip_any _ _).mono ?_; rintro e w' ⟨rfl, rfl⟩))
              go_wp2_with fail
              exact ⟨⟨2, s0, clip (clip b + clip d), by omega, rfl, fun _ => HV.out.1 (by omega), fun _ => H3.out.symm, (HS2.out.set 1 (.int .i64 (clip (clip b + clip d)))).drew, (HX3.out.other (by exact M.out.2.1) _).drew, (HZ3.out.other (by exact M.out.2.2.1) _).drew, (HC3.out.other (by exact M.out.2.2.2) _).drew, (HT4.out.setNew (by exact M.out.1) _).drew⟩, by simp [intOf]⟩
          · obtain rfl : j = 0 := by omega
            have hix := ix0 (-1048576) 1048576
            have q0 : wr.cell? ⟨bx, 0, none⟩ = some (.int .i64 (clip a)) := HX3.out.cell (i := 0) rfl
            have q1 : wr.cell? ⟨bz, 0, none⟩ = some (.int .i64 (clip c)) := HZ3.out.cell (i := 0) rfl
            have hw : IntKind.i64.wrap (clip a + clip c) = clip a + clip c := IntWalk.i64_in (clip a + clip c) (by have := clip_bd a; have := clip_bd c; omega)
            have hcs : (clip a = -1048576 ∧ plusL a c = -1048576) ∨ (¬ clip a = -1048576 ∧ clip c = -1048576 ∧ plusL a c = -1048576) ∨ (¬ clip a = -1048576 ∧ ¬ clip c = -1048576 ∧ plusL a c = clip (clip a + clip c)) := by
              unfold plusL
              by_cases h1 : clip a = -1048576
              · exact .inl ⟨h1, by simp [h1]⟩
              · by_cases h2 : clip c = -1048576
                · exact .inr (.inl ⟨h1, h2, by simp [h2]⟩)
                · exact .inr (.inr ⟨h1, h2, by simp [h1, h2]⟩)
            rcases hcs with ⟨h1, h3⟩ | ⟨h1, h2, h3⟩ | ⟨h1, h2, h3⟩
            · have H3 := Lib.hid h3
              clear h3
              have b1 : (clip a == -1048576) = true := beqT h1
              clear h1
              go_wp2_with fail
              go_region_held3 (fun (w' : World) => w'.cell? ⟨bx, 0, none⟩ = some (.int .i64 (clip a)) ∧ w'.cell? ⟨bz, 0, none⟩ = some (.int .i64 (clip c))) (repeat (first | with_reducible exact q0 | with_reducible exact q1 | with_reducible refine And.intro ?_ ?_ | with_reducible refine keepd ?_ | with_reducible refine keepc ?_ _ | (refine keeps ?_ (by first | exact m1 | exact m2) _)))
                (first | (go_at_call 17; refine (clip_any _ _).mono ?_; rintro e w' ⟨rfl, rfl⟩))
              go_wp2_with fail
              exact ⟨⟨1, -1048576, s1, by omega, rfl, fun _ => H3.out.symm, fun h => absurd h (by omega), ((HS2.out.set 0 (.int .i64 (clip (clip a + clip c)))).set 0 (.int .i64 (-1048576))).drew, ((HX3.out.other (by exact M.out.2.1) _).other (by exact M.out.2.1) _).drew, ((HZ3.out.other (by exact M.out.2.2.1) _).other (by exact M.out.2.2.1) _).drew, ((HC3.out.other (by exact M.out.2.2.2) _).other (by exact M.out.2.2.2) _).drew, ((HT4.out.setNew (by exact M.out.1) _).setNew (by exact M.out.1) _).drew⟩, by simp [intOf]⟩
            · have H3 := Lib.hid h3
              clear h3
              have b1 : (clip a == -1048576) = false := beqF h1
              have b2 : (clip c == -1048576) = true := beqT h2
              clear h1 h2
              go_wp2_with fail
              go_region_held3 (fun (w' : World) => w'.cell? ⟨bx, 0, none⟩ = some (.int .i64 (clip a)) ∧ w'.cell? ⟨bz, 0, none⟩ = some (.int .i64 (clip c))) (repeat (first | with_reducible exact q0 | with_reducible exact q1 | with_reducible refine And.intro ?_ ?_ | with_reducible refine keepd ?_ | with_reducible refine keepc ?_ _ | (refine keeps ?_ (by first | exact m1 | exact m2) _)))
                (first | (go_at_call 17; refine (clip_any _ _).mono ?_; rintro e w' ⟨rfl, rfl⟩))
              go_wp2_with fail
              exact ⟨⟨1, -1048576, s1, by omega, rfl, fun _ => H3.out.symm, fun h => absurd h (by omega), ((HS2.out.set 0 (.int .i64 (clip (clip a + clip c)))).set 0 (.int .i64 (-1048576))).drew, ((HX3.out.other (by exact M.out.2.1) _).other (by exact M.out.2.1) _).drew, ((HZ3.out.other (by exact M.out.2.2.1) _).other (by exact M.out.2.2.1) _).drew, ((HC3.out.other (by exact M.out.2.2.2) _).other (by exact M.out.2.2.2) _).drew, ((HT4.out.setNew (by exact M.out.1) _).setNew (by exact M.out.1) _).drew⟩, by simp [intOf]⟩
            · have H3 := Lib.hid h3
              clear h3
              have b1 : (clip a == -1048576) = false := beqF h1
              have b2 : (clip c == -1048576) = false := beqF h2
              clear h1 h2
              go_wp2_with fail
              go_region_held3 (fun (w' : World) => w'.cell? ⟨bx, 0, none⟩ = some (.int .i64 (clip a)) ∧ w'.cell? ⟨bz, 0, none⟩ = some (.int .i64 (clip c))) (repeat (first | with_reducible exact q0 | with_reducible exact q1 | with_reducible refine And.intro ?_ ?_ | with_reducible refine keepd ?_ | with_reducible refine keepc ?_ _ | (refine keeps ?_ (by first | exact m1 | exact m2) _)))
                (first | (go_at_call 17; refine (clip_any _ _).mono ?_; rintro e w' ⟨rfl, rfl⟩))
              go_wp2_with fail
              exact ⟨⟨1, clip (clip a + clip c), s1, by omega, rfl, fun _ => H3.out.symm, fun h => absurd h (by omega), (HS2.out.set 0 (.int .i64 (clip (clip a + clip c)))).drew, (HX3.out.other (by exact M.out.2.1) _).drew, (HZ3.out.other (by exact M.out.2.2.1) _).drew, (HC3.out.other (by exact M.out.2.2.2) _).drew, (HT4.out.setNew (by exact M.out.1) _).drew⟩, by simp [intOf]⟩
end Go.Proofs.Ytclfejgnincmhaa
