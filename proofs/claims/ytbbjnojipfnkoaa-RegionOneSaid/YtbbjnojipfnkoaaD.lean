/-
  Critical regions: the reference's Fail, Leave; is it in the list; the list without one.
-/
import Derived.Test.YtbbjnojipfnkoaaC
set_option linter.unusedVariables false
namespace Go.Proofs.Ytbbjnojipfnkoaa
open Go.RowKit

section
variable (b : Nat) (F : List Nat) (occ : Int) (es ws : List Int) (w : World)
set_option maxHeartbeats 2000000 in
theorem rfail_no (p : Int) (h : Rg 29 w b F occ es ws) (hp : ¬ (0 < p ∧ occ = p)) : Calls Try.prog 12 #[.pointer (some ⟨b, 0, none⟩), .int .i64 p] w fun e w' => e = .returned (.tuple #[.int .i64 0, .bool false]) ∧ w = w' := by
  obtain ⟨ve, vw, h, rfl⟩ := h
  have x0 := h.obj.cell (i := 0) rfl
  clear h
  by_cases h1 : p < 1
  · clear hp
    go_enter Try.func12, Try.ntmps12
    go_wp2
    go_ret2
    exact ⟨rfl, rfl⟩
  · have h2 : (occ != p) = true := bneT (fun e => hp ⟨by omega, e⟩)
    clear hp
    go_enter Try.func12, Try.ntmps12
    go_wp2
    go_ret2
    exact ⟨rfl, rfl⟩
set_option maxHeartbeats 2000000 in
theorem rleave_no (p : Int) (h : Rg 29 w b F occ es ws) (hp : ¬ (0 < p ∧ occ = p)) : Calls Try.prog 14 #[.pointer (some ⟨b, 0, none⟩), .int .i64 p] w fun e w' => e = .returned (.tuple #[.int .i64 0, .bool false]) ∧ w = w' := by
  obtain ⟨ve, vw, h, rfl⟩ := h
  have x0 := h.obj.cell (i := 0) rfl
  clear h
  by_cases h1 : p < 1
  · clear hp
    go_enter Try.func14, Try.ntmps14
    go_wp2
    go_ret2
    exact ⟨rfl, rfl⟩
  · have h2 : (occ != p) = true := bneT (fun e => hp ⟨by omega, e⟩)
    clear hp
    go_enter Try.func14, Try.ntmps14
    go_wp2
    go_ret2
    exact ⟨rfl, rfl⟩

set_option maxHeartbeats 4000000 in
theorem rfail_yes (h : Rg 29 w b F occ es ws) (hp : 0 < occ) (l1 : es.length ≤ 1000000) (l2 : ws.length ≤ 1000000) : Calls Try.prog 12 #[.pointer (some ⟨b, 0, none⟩), .int .i64 occ] w (RgP 29 b F (hd es) es.tail (ws ++ [occ]) (.tuple #[.int .i64 (hd es), .bool true]) w) := by
  obtain ⟨ve, vw, h, rfl⟩ := h
  have x0 := h.obj.cell (i := 0) rfl
  have x2 := h.obj.cell (i := 2) rfl
  have HC := Lib.hid (copy_any vw ws w h.qw.sl l2)
  have HH := Lib.hid h
  obtain ⟨wa, wc, rfl⟩ := Qu.form h.qw
  have h1 : ¬ occ < 1 := by omega
  clear h
  go_enter Try.func12, Try.ntmps12
  go_wp2_with fail
  refine HC.out.mono ?_
  rintro e w1 ⟨v, rfl, hq, ht⟩
  obtain ⟨v', w2, hr, hq2, ht2⟩ := behind occ hq ht l2
  obtain ⟨va, vc, rfl⟩ := Qu.form hq
  obtain ⟨va', vc', hv⟩ := Qu.form hq2
  rw [List.length_append, List.length_singleton] at hv
  subst hv
  have hb2 := HH.out.obj.touch ht2 (by simp)
  have y1 := hb2.cell (i := 2) rfl
  have y2 := hb2.free 2
  have hlt := HH.out.obj.lt
  obtain ⟨F', h1, h2⟩ := pushed_w (ws' := ws ++ [occ]) HH.out (hb2.set 2 (.slice va' (ws.length + 1) vc')) (hq2.touch (S := [b]) ((Touch.refl _ _).setCell (by simp) _) (fun k hk => by have := (hq2.own k hk).1; simp; omega) |>.mono (Nat.zero_le _)) ((ht2.mono (by simp)).setCell (by simp) _) (fun k hk => ⟨.inr (hq2.own k hk).1, by have := (hq2.own k hk).1; omega⟩)
  have H1 := Lib.hid h1
  have H2 := Lib.hid h2
  clear hq ht hq2 ht2 hb2 h1 h2
  go_wp2_with (at_builtin; refine Lib.wpList_append_run _ rfl _ _ _ _ rfl _ _ rfl rfl _ _ (hr _) ?_)
  refine (rpass_any b F' occ es (ws ++ [occ]) _ H1.out l1).mono ?_
  rintro e w3 ⟨F2, rfl, h3, h4⟩
  have H3 := Lib.hid h3
  have H4 := Lib.hid (H2.out.trans h4)
  clear h3 h4
  go_wp2
  go_ret2
  exact ⟨F2, rfl, H3.out, H4.out⟩

set_option maxHeartbeats 8000000 in
theorem rleave_yes (h : Rg 29 w b F occ es ws) (hp : 0 < occ) (l1 : es.length ≤ 100000) (l2 : ws.length ≤ 100000) : Calls Try.prog 14 #[.pointer (some ⟨b, 0, none⟩), .int .i64 occ] w (RgP 29 b F (hd (ws ++ es)) (ws ++ es).tail [] (.tuple #[.int .i64 (hd (ws ++ es)), .bool true]) w) := by
  obtain ⟨ve, vw, h, rfl⟩ := h
  have x0 := h.obj.cell (i := 0) rfl
  have x1 := h.obj.cell (i := 1) rfl
  have x2 := h.obj.cell (i := 2) rfl
  have HC := Lib.hid (fun (w0 : World) (ht : Touch [] w w0) => copy_any vw ws w0 (h.qw.sl.touch ht (by simp)) (by omega))
  have HE := Lib.hid h.qe.sl
  have HH := Lib.hid h
  obtain ⟨ea, ec, rfl⟩ := Qu.form h.qe
  obtain ⟨wa, wc, rfl⟩ := Qu.form h.qw
  have h1 : ¬ occ < 1 := by omega
  clear h
  go_enter Try.func14, Try.ntmps14
  go_wp2_with fail
  go_region_law (first
    | ((refine step_append_run (by rfl) _ _ _ _ (by rfl) _ _ (by rfl) (by rfl) _ _ (HR.out _) ?_))
    | ((go_simp; go_at_call 22; refine (HC.out _ ?_).mono ?_; (first | exact (Touch.refl [] w).drew | exact Touch.refl [] w); rintro e w1 ⟨v, rfl, hq, ht0⟩
        have ht : Touch [] w w1 := Touch.trans (Touch.drew (Touch.refl [] w)) ht0
        have hq : Qu w1 w.heap.size 3 v (ws.map (Value.int .i64)) := hq
        obtain ⟨v', w2, hr, hq2, hg, hn⟩ := Qu.appendI (x := .slice ea es.length ec) hq ht.size (HE.out.touch ht (by simp)) (by omega)
        have ht2 : Touch [] w w2 := ht.grown hg (fun k hk hlt => by have := (hq.own k hk).1; omega)
        obtain ⟨va, vc, rfl⟩ := Qu.form hq
        obtain ⟨va', vc', hv⟩ := Qu.form hq2
        rw [List.length_append] at hv
        subst hv
        have HR := Lib.hid hr
        have HQ := Lib.hid hq2
        have HT := Lib.hid ht2
        have y1 := (HH.out.obj.touch ht (by simp)).cell (i := 1) rfl
        have z1 := (HH.out.obj.touch ht2 (by simp)).cell (i := 1) rfl
        have z2 := (HH.out.obj.touch ht2 (by simp)).free 1
        clear hq ht0 ht hr hq2 hg hn ht2)))
  all_goals
    have hb3 := (HH.out.obj.touch HT.out (by simp)).set 1 (.slice va' (ws.length + es.length) vc')
    have u0 := hb3.cell (i := 2) rfl
    have u1 := hb3.free 2
    have hlt := HH.out.obj.lt
    have ht3 : Touch [b] w ((w2.setCell ⟨b, 1, none⟩ (.slice va' (ws.length + es.length) vc')).setCell ⟨b, 2, none⟩ (.slice none 0 0)) := ((HT.out.mono (by simp)).setCell (by simp) _).setCell (by simp) _
    have hown : ∀ k, (Value.slice va' (ws.length + es.length) vc').ownBlock = some k → w.heap.size ≤ k := fun k hk => (HQ.out.own k hk).1
    have hr : Rv 29 ((w2.setCell ⟨b, 1, none⟩ (.slice va' (ws.length + es.length) vc')).setCell ⟨b, 2, none⟩ (.slice none 0 0)) b (.slice va' (ws.length + es.length) vc') (.slice none 0 0) occ (ws ++ es) [] :=
      ⟨hb3.set 2 _, (HQ.out.touch (S := [b]) (((Touch.refl _ _).setCell (by simp) _).setCell (by simp) _) (fun k hk => by have := hown k hk; simp; omega)).mono (Nat.zero_le _), Qu.nil _ _ _, fun k hk => by have := hown k hk; omega, fun k hk => by simp [Value.ownBlock] at hk, fun k hk => by simp [Value.ownBlock]⟩
    obtain ⟨F', h1, h2⟩ := HH.out.left hr (ht3.mono (by simp [fp])) (fun k hk => .inr (hown k hk)) (fun k hk => by simp [Value.ownBlock] at hk)
    have H1 := Lib.hid h1
    have H2 := Lib.hid h2
    clear hb3 ht3 hown hr h1 h2 y1 z1 z2
    go_wp2_with fail
    refine (rpass_any b F' occ (ws ++ es) [] _ H1.out (by simp; omega)).mono ?_
    rintro e w3 ⟨F2, rfl, h3, h4⟩
    have H3 := Lib.hid h3
    have H4 := Lib.hid (H2.out.trans h4)
    clear h3 h4
    go_wp2
    go_ret2
    exact ⟨F2, rfl, H3.out, H4.out⟩
end

/-! Is it in the list; the list without one. -/
set_option maxHeartbeats 2000000 in
theorem has_l (v : Value) (xs : List Int) (x : Int) (w : World) (h : Sl w v xs) (hl : xs.length ≤ 1000000) :
    Calls Try.prog 20 #[v, .int .i64 x] w fun e w' => e = .returned (.bool (decide (x ∈ xs))) ∧ w = w' := by
  obtain ⟨a, cap, rfl, h⟩ := h
  have HR := Lib.hid h
  obtain ⟨n, hn⟩ : ∃ n, xs.length = n := ⟨_, rfl⟩
  have HN := Lib.hid hn
  rw [hn] at hl ⊢
  clear h hn
  go_enter Try.func20, Try.ntmps20
  go_wp2
  go_loop [5] (fun i => ∃ j : Nat, j ≤ n ∧ i = .int .i64 j ∧ ∀ k, k < j → xs.getD k 0 ≠ x) (fun i => n + 1 - (intOf i).toNat)
  case atStart => exact ⟨0, by omega, rfl, fun k hk => by omega⟩
  case round =>
    obtain ⟨j, hj, rfl, hno⟩ := hrel
    have HNo := Lib.hid hno
    clear hno
    by_cases hjn : j < n
    · have hlt : (j : Int) < (n : Int) := by omega
      have HZR := HR.out
      rcases HZR with h | ⟨g, off, rfl, hg, hrow⟩
      · exfalso; have := HN.out; rw [h] at this; simp at this; omega
      have hc := hrow j (by rw [HN.out]; exact hjn)
      obtain ⟨y, hy⟩ : ∃ y, xs.getD j 0 = y := ⟨_, rfl⟩
      rw [hy] at hc
      have HY := Lib.hid hy
      clear hy hrow
      by_cases hyx : y = x
      · have d1 : (y == x) = true := beqT hyx
        have HYX := Lib.hid hyx
        clear hyx
        go_wp2
        go_ret
        refine ⟨ret_bool (Eq.symm (dT ?_)), rfl⟩
        have e1 : xs[j]? = some x := by
          have := HY.out
          rw [List.getD_eq_getElem?_getD, List.getElem?_eq_getElem (by rw [HN.out]; exact hjn)] at this
          rw [List.getElem?_eq_getElem (by rw [HN.out]; exact hjn)]
          have h2 := HYX.out
          simp at this
          rw [this, h2]
        exact List.mem_of_getElem? e1
      · have d1 : (y == x) = false := beqF hyx
        have HYX := Lib.hid hyx
        clear hyx
        go_wp2
        go_round
        case rel =>
          refine ⟨j + 1, by omega, by go_num, fun k hk => ?_⟩
          by_cases e : k = j
          · subst e; rw [HY.out]; exact HYX.out
          · exact HNo.out k (by omega)
        case measure => simp [intOf]; omega
    · have hlt : ¬ (j : Int) < (n : Int) := by omega
      go_wp2
      go_ret
      refine ⟨ret_bool (Eq.symm (dF ?_)), rfl⟩
      intro hm
      obtain ⟨k, hk, he⟩ := List.getElem_of_mem hm
      refine HNo.out k (by rw [HN.out] at hk; omega) ?_
      rw [List.getD_eq_getElem?_getD, List.getElem?_eq_getElem hk]
      simpa using he

def wo (xs : List Int) (x : Int) : List Int := xs.filter (fun y => y != x)
theorem wo_snoc (xs : List Int) (j : Nat) (x : Int) (h : j < xs.length) : wo (xs.take (j + 1)) x = wo (xs.take j) x ++ if xs.getD j 0 = x then [] else [xs.getD j 0] := by
  unfold wo
  rw [List.take_succ_eq_append_getElem h, List.filter_append]
  congr 1
  rw [List.getD_eq_getElem?_getD, List.getElem?_eq_getElem h]
  simp only [Option.getD_some, List.filter_cons, List.filter_nil]
  by_cases e : xs[j] = x
  · simp [e]
  · simp [e]
set_option maxHeartbeats 4000000 in
theorem without_any (v : Value) (xs : List Int) (x : Int) (w : World) (h : Sl w v xs) (hl : xs.length ≤ 100000) :
    Calls Try.prog 19 #[v, .int .i64 x] w (Own (wo xs x) w) := by
  obtain ⟨a, cap, rfl, h⟩ := h
  have HR := Lib.hid h
  have HSl : Hid (Sl w (.slice a xs.length cap) xs) := Lib.hid ⟨a, cap, rfl, h⟩
  obtain ⟨n, hn⟩ : ∃ n, xs.length = n := ⟨_, rfl⟩
  have HN := Lib.hid hn
  rw [hn] at hl HSl ⊢
  have HQ0 := Lib.hid (Qu.made (w := w) (base := w.heap.size) (e := 3) (b := w.heap.size) (n := 0) (c := #[]) rfl (Nat.le_refl _) rfl (Nat.zero_le _))
  clear h hn
  go_enter Try.func19, Try.ntmps19
  go_wp2
  go_loopw [5, 6] (fun v i wr => ∃ j : Nat, j ≤ n ∧ i = .int .i64 j ∧ Qu wr w.heap.size 3 v ((wo (xs.take j) x).map (Value.int .i64)) ∧ Touch [] w wr) (fun _ i _ => n + 1 - (intOf i).toNat)
  case atStart => exact ⟨0, by omega, rfl, HQ0.out, (Touch.refl _ _).alloc _⟩
  case round =>
    obtain ⟨j, hj, rfl, hq, ht⟩ := hrel
    have HQ := Lib.hid hq
    have HT := Lib.hid ht
    have hlen : (wo (xs.take j) x).length ≤ 100000 := by
      have h1 := List.length_filter_le (fun y => y != x) (xs.take j)
      have h2 : (xs.take j).length ≤ j := List.length_take_le _ _
      unfold wo; omega
    obtain ⟨va, vc, rfl⟩ := Qu.form hq
    clear hq ht
    by_cases hjn : j < n
    · have hlt : (j : Int) < (n : Int) := by omega
      have HZR := HR.out
      rcases HZR with h | ⟨g, off, rfl, hg, hrow⟩
      · exfalso; have := HN.out; rw [h] at this; simp at this; omega
      have hc := hrow.touch HT.out hg (by simp) j (by rw [HN.out]; exact hjn)
      have HS := Lib.hid (wo_snoc xs j x (by rw [HN.out]; exact hjn))
      obtain ⟨y, hy⟩ : ∃ y, xs.getD j 0 = y := ⟨_, rfl⟩
      rw [hy] at hc HS
      clear hy hrow
      by_cases hyx : y = x
      · have d1 : (y != x) = false := bneF hyx
        have HYX := Lib.hid hyx
        clear hyx
        go_wp2
        go_roundw
        case rel => exact ⟨j + 1, by omega, by go_num, by rw [HS.out, if_pos HYX.out, List.append_nil]; exact HQ.out, HT.out⟩
        case measure => simp [intOf]; omega
      · have d1 : (y != x) = true := bneT hyx
        have HYX := Lib.hid hyx
        clear hyx
        obtain ⟨v', w2, hr, hq2, hg2, hn2⟩ := Qu.appendI (HQ.out.alloc (.cells #[.int .i64 y] 3)) (by have := HT.out.size; simp; omega) (show Sl (wr.alloc (.cells #[.int .i64 y] 3)) (.slice (some ⟨wr.heap.size, 0, none⟩) 1 1) [y] from ⟨_, 1, rfl, .inr ⟨wr.heap.size, 0, rfl, by simp, row1 wr y _ _ rfl⟩⟩) (by simp; omega)
        have HQ2 : Hid (Qu w2 w.heap.size 3 v' ((wo (xs.take (j + 1)) x).map (Value.int .i64))) := Lib.hid (by rw [HS.out, if_neg HYX.out]; exact hq2)
        have HT2 : Hid (Touch [] w w2) := Lib.hid ((HT.out.alloc _).grown hg2 (fun k hk hlt => by have := (HQ.out.own k hk).1; omega))
        clear hq2 hg2 hn2
        go_wp2_with (at_builtin; refine Lib.wpList_append_run _ rfl _ _ _ _ rfl _ _ rfl rfl _ _ (hr _) ?_)
        go_roundw
        case rel => exact ⟨j + 1, by omega, by go_num, HQ2.out, HT2.out⟩
        case measure => simp [intOf]; omega
    · have hlt : ¬ (j : Int) < (n : Int) := by omega
      obtain rfl : j = n := by omega
      have HQ3 : Hid (Qu wr w.heap.size 3 (.slice va (wo (xs.take j) x).length vc) ((wo xs x).map (Value.int .i64))) := Lib.hid (by rw [show wo xs x = wo (xs.take j) x from by rw [List.take_of_length_le (by rw [HN.out]; exact Nat.le_refl _)]]; exact HQ.out)
      go_wp2
      go_ret
      exact ⟨_, rfl, HQ3.out, HT.out⟩
end Go.Proofs.Ytbbjnojipfnkoaa
