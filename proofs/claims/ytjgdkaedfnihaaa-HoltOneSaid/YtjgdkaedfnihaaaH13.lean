/-
  The laws' states of plain numbers: they may be.
-/
import Derived.Test.YtjgdkaedfnihaaaH12
import Derived.Test.YtjgdkaedfnihaaaRL
set_option linter.unusedVariables false
namespace Go.Proofs.Ytjgdkaedfnihaaa
open Go.RowKit Go.BigFrame

/-- Between two steps of the making. -/
structure StI (w0 w : World) (va : Value) (xs : List Int) (hv cv : Value) (hs cs : List (List Int)) (D : List Nat) : Prop where
  av : Sl w va xs ∧ ∀ k, va.ownBlock = some k → k ∈ D
  h : Lr w w0.heap.size hv hs D
  c : Lr w w0.heap.size cv cs D
  dl : ∀ k, k ∈ D → k < w.heap.size
  hd : ∀ k, hv.ownBlock = some k → k ∉ D
  cd : ∀ k, cv.ownBlock = some k → k ∉ D
  hc : ∀ k, hv.ownBlock = some k → cv.ownBlock ≠ some k
  t : Touch [] w0 w
theorem StI.addH {w0 w w3 : World} {va : Value} {xs : List Int} {hv cv v' : Value} {hs cs : List (List Int)} {D : List Nat} {x : List Int} (h : StI w0 w va xs hv cv hs cs D) (hl : Lr w3 w0.heap.size v' (hs ++ [x]) (w.heap.size :: D)) (ht : Touch hv.ownBlock.toList w w3) (hn : ∀ k, v'.ownBlock = some k → hv.ownBlock = some k ∨ w.heap.size + 2 ≤ k) (hz : w.heap.size + 2 ≤ w3.heap.size) :
    StI w0 w3 va xs v' cv (hs ++ [x]) cs (w.heap.size :: D) := by
  refine ⟨⟨h.av.1.touch ht (fun k hk hm => h.hd k (Option.mem_toList.1 hm) (h.av.2 k hk)), fun k hk => List.mem_cons_of_mem _ (h.av.2 k hk)⟩, hl, ?_, fun k hk => ?_, fun k hk => ?_, fun k hk => ?_, fun k hk => ?_, h.t.transF ht (fun i hi hlt => by have := (h.h.own i (Option.mem_toList.1 hi)).1; omega)⟩
  · exact (h.c.touch ht (fun k hk hm => h.hc k (Option.mem_toList.1 hm) hk) (fun k hk hm => h.hd k (Option.mem_toList.1 hm) hk)).wider (fun k hk => List.mem_cons_of_mem _ hk)
  · rcases List.mem_cons.1 hk with rfl | hk
    · omega
    · have := h.dl k hk
      omega
  · rcases hn k hk with h' | h'
    · have h1 := h.hd k h'
      have h2 := (h.h.own k h').2
      exact fun hm => by rcases List.mem_cons.1 hm with rfl | hm; omega; exact h1 hm
    · exact fun hm => by rcases List.mem_cons.1 hm with rfl | hm; omega; have := h.dl k hm; omega
  · have h1 := h.cd k hk
    have h2 := (h.c.own k hk).2
    exact fun hm => by rcases List.mem_cons.1 hm with rfl | hm; omega; exact h1 hm
  · rcases hn k hk with h' | h'
    · exact h.hc k h'
    · intro e
      have := (h.c.own k e).2
      omega
theorem StI.addC {w0 w w3 : World} {va : Value} {xs : List Int} {hv cv v' : Value} {hs cs : List (List Int)} {D : List Nat} {x : List Int} (h : StI w0 w va xs hv cv hs cs D) (hl : Lr w3 w0.heap.size v' (cs ++ [x]) (w.heap.size :: D)) (ht : Touch cv.ownBlock.toList w w3) (hn : ∀ k, v'.ownBlock = some k → cv.ownBlock = some k ∨ w.heap.size + 2 ≤ k) (hz : w.heap.size + 2 ≤ w3.heap.size) :
    StI w0 w3 va xs hv v' hs (cs ++ [x]) (w.heap.size :: D) := by
  refine ⟨⟨h.av.1.touch ht (fun k hk hm => h.cd k (Option.mem_toList.1 hm) (h.av.2 k hk)), fun k hk => List.mem_cons_of_mem _ (h.av.2 k hk)⟩, ?_, hl, fun k hk => ?_, fun k hk => ?_, fun k hk => ?_, fun k hk e => ?_, h.t.transF ht (fun i hi hlt => by have := (h.c.own i (Option.mem_toList.1 hi)).1; omega)⟩
  · exact (h.h.touch ht (fun k hk hm => h.hc k hk (Option.mem_toList.1 hm)) (fun k hk hm => h.cd k (Option.mem_toList.1 hm) hk)).wider (fun k hk => List.mem_cons_of_mem _ hk)
  · rcases List.mem_cons.1 hk with rfl | hk
    · omega
    · have := h.dl k hk
      omega
  · have h1 := h.hd k hk
    have h2 := (h.h.own k hk).2
    exact fun hm => by rcases List.mem_cons.1 hm with rfl | hm; omega; exact h1 hm
  · rcases hn k hk with h' | h'
    · have h1 := h.cd k h'
      have h2 := (h.c.own k h').2
      exact fun hm => by rcases List.mem_cons.1 hm with rfl | hm; omega; exact h1 hm
    · exact fun hm => by rcases List.mem_cons.1 hm with rfl | hm; omega; have := h.dl k hm; omega
  · rcases hn k e with h' | h'
    · exact h.hc k hk h'
    · have := (h.h.own k hk).2
      omega
/-- What the rows are. -/
def HoltRow (h c : List Int) : Prop := ∃ x y p q : Int, h = [x, y] ∧ c = [p, q] ∧ (0 ≤ x ∧ x < 3) ∧ (0 ≤ y ∧ y < 3) ∧ (0 ≤ p ∧ p < 4) ∧ (0 ≤ q ∧ q < 3)
def StateP (N : Nat) (w : World) (e : Ending) (w' : World) : Prop :=
  ∃ va vh vc, e = .returned (.tuple #[va, vh, vc]) ∧ ∃ (a0 a1 : Int) (hs cs : List (List Int)), (0 ≤ a0 ∧ a0 < 2) ∧ (0 ≤ a1 ∧ a1 < 2) ∧ Sl w' va [a0, a1] ∧ Rws w' vh hs ∧ Rws w' vc cs ∧ hs.length = N ∧ cs.length = N ∧ (∀ i, i < N → HoltRow (rw_ hs i) (rw_ cs i)) ∧ Touch [] w w'
set_option maxRecDepth 100000 in
set_option maxHeartbeats 16000000 in
theorem state_any (N : Nat) (lv : Value) (ls : List Int) (w : World) (hs : Sl w lv ls) (hl : ls.length ≤ 100) (hN : N ≤ 12) :
    Calls Try.prog 15 #[.int .i64 (N : Int), lv] w (StateP N w) := by
  have HS := Lib.hid hs
  have HL : Hid (ls.length ≤ 1000000) := Lib.hid (by omega)
  obtain ⟨la, lc, rfl⟩ := hs.form
  obtain ⟨L, hL⟩ : ∃ L, ls.length = L := ⟨_, rfl⟩
  have HLl := Lib.hid hL
  rw [hL] at HS ⊢
  clear hs hl hL
  have hNi : (N : Int) ≤ 12 := by omega
  go_enter Try.func15, Try.ntmps15
  go_wp2_with fail
  refine (next_q _ ls 0 2 _ HS.out HL.out (by omega) (by omega) (by omega)).mono ?_
  rintro e w1 ⟨a0, rfl, h01, h02, rfl⟩
  go_wp2_with fail
  refine (next_q _ ls 1 2 _ HS.out HL.out (by omega) (by omega) (by omega)).mono ?_
  rintro e w2 ⟨a1, rfl, h11, h12, rfl⟩
  go_wp2_with fail
  obtain ⟨G, hG⟩ : ∃ G, w.heap.size = G := ⟨_, rfl⟩
  obtain ⟨W5, hW5⟩ : ∃ W, ((w.alloc (.cells #[.int .i64 a0, .int .i64 a1] 3)).alloc (.cells #[] 22)).alloc (.cells #[] 22) = W := ⟨_, rfl⟩
  have HI0 : Hid (StI w W5 (.slice (some ⟨G, 0, none⟩) 2 2) [a0, a1] (.slice (some ⟨G + 1, 0, none⟩) 0 0) (.slice (some ⟨G + 1 + 1, 0, none⟩) 0 0) [] [] [G]) := Lib.hid (by
    have hz : W5.heap.size = G + 1 + 1 + 1 := by rw [← hW5]; simp [hG]
    have t1 : Touch [] w W5 := by rw [← hW5]; exact (((Touch.refl [] w).alloc _).alloc _).alloc _
    refine ⟨⟨?_, fun k hk => by have e : G = k := by simpa [Value.ownBlock] using hk
                                simp [e]⟩, ?_, ?_, fun k hk => ?_, fun k hk => ?_, fun k hk => ?_, fun k hk e => ?_, t1⟩
    · rw [← hW5]
      exact (Sl.alloc (Sl.alloc ⟨_, 2, rfl, .inr ⟨G, 0, rfl, by simp [hG], row2 w a0 a1 _ _ hG.symm⟩⟩ _) _)
    · have h1 := Lr.empty (w := w.alloc (.cells #[.int .i64 a0, .int .i64 a1] 3)) (base := w.heap.size) (by simp)
      rw [World.size_alloc, hG] at h1
      have h2 := h1.touch ((Touch.refl [] _).alloc (.cells #[] 22)) (by simp) (by simp)
      rw [hW5] at h2
      rw [hG]
      exact h2.wider (by simp)
    · have h1 := Lr.empty (w := (w.alloc (.cells #[.int .i64 a0, .int .i64 a1] 3)).alloc (.cells #[] 22)) (base := w.heap.size) (by simp; omega)
      rw [hW5, World.size_alloc, World.size_alloc, hG] at h1
      rw [hG]
      exact h1.wider (by simp)
    · have : k = G := by simpa using hk
      omega
    · have e : G + 1 = k := by simpa [Value.ownBlock] using hk
      simp; omega
    · have e : G + 1 + 1 = k := by simpa [Value.ownBlock] using hk
      simp; omega
    · have e1 : G + 1 = k := by simpa [Value.ownBlock] using hk
      have e2 : G + 1 + 1 = k := by simpa [Value.ownBlock] using e
      omega)
  rw [hW5, hG]
  have HA0 := Lib.hid (And.intro h01 h02)
  have HA1 := Lib.hid (And.intro h11 h12)
  clear hW5 hG h01 h02 h11 h12
  go_loopw [8, 9, 10] (fun hv cv i wr => ∃ (j : Nat) (hs cs : List (List Int)) (D : List Nat), j ≤ N ∧ i = .int .i64 j ∧ hs.length = j ∧ cs.length = j ∧ StI w wr (.slice (some ⟨G, 0, none⟩) 2 2) [a0, a1] hv cv hs cs D ∧ ∀ i, i < j → HoltRow (rw_ hs i) (rw_ cs i)) (fun _ _ i _ => N + 1 - (intOf i).toNat)
  case atStart => exact ⟨0, [], [], [G], by omega, rfl, rfl, rfl, HI0.out, fun i hi => by omega⟩
  case round =>
    clear HI0
    obtain ⟨j, hs, cs, D, hj, rfl, hlh, hlc, hi, hrow⟩ := hrel
    have HI := Lib.hid hi
    have HLH := Lib.hid hlh
    have HLC := Lib.hid hlc
    have HRow := Lib.hid hrow
    obtain ⟨ha, hc, hhv⟩ := hi.h.form
    obtain ⟨ca, cc, hcv⟩ := hi.c.form
    rw [hlh] at hhv
    rw [hlc] at hcv
    subst hhv hcv
    clear hlh hlc hi hrow
    by_cases hjn : j < N
    · have hlt : (j : Int) < (N : Int) := by omega
      obtain ⟨J, hJ⟩ : ∃ J : Int, 4 * (j : Int) = J := ⟨_, rfl⟩
      have v0 : IntKind.i64.wrap (4 * (j : Int)) = J := by rw [hJ]; exact IntWalk.i64_in _ (by omega)
      have v0' : IntKind.i64.wrap ((j : Int) * 4) = J := by rw [Int.mul_comm, hJ]; exact IntWalk.i64_in _ (by omega)
      have v2 : IntKind.i64.wrap (J + 2) = J + 2 := IntWalk.i64_in _ (by omega)
      have v3 : IntKind.i64.wrap (J + 3) = J + 3 := IntWalk.i64_in _ (by omega)
      have v4 : IntKind.i64.wrap (J + 4) = J + 4 := IntWalk.i64_in _ (by omega)
      have v5 : IntKind.i64.wrap (J + 5) = J + 5 := IntWalk.i64_in _ (by omega)
      have HJ : Hid (0 ≤ J) := Lib.hid (by omega)
      clear hJ
      go_wp2_with fail
      refine (next_q _ ls (J + 2) 3 _ (HS.out.touch HI.out.t (by simp)) HL.out (by have := HJ.out; omega) (by omega) (by omega)).mono ?_
      rintro e w1 ⟨x, rfl, hx1, hx2, rfl⟩
      go_wp2_with fail
      refine (next_q _ ls (J + 3) 3 _ (HS.out.touch HI.out.t (by simp)) HL.out (by have := HJ.out; omega) (by omega) (by omega)).mono ?_
      rintro e w1 ⟨y, rfl, hy1, hy2, rfl⟩
      obtain ⟨vh', w3, hr3, hl3, ht3, hn3, hz3, ha', hc', rfl⟩ := HI.out.h.append HI.out.t.size (fun k hk => HI.out.dl k hk) (fun k hk => HI.out.hd k hk) (by rw [HLH.out]; omega) x y
      have HI3 := Lib.hid (HI.out.addH hl3 ht3 hn3 hz3)
      rw [HLH.out] at hr3
      clear hl3 ht3 hn3 hz3
      go_wp2_with (at_builtin; refine Lib.wpList_append_run _ rfl _ _ _ _ rfl _ _ rfl rfl _ _ (hr3 _) ?_)
      refine (next_q _ ls (J + 4) 4 _ (HS.out.touch HI3.out.t (by simp)) HL.out (by have := HJ.out; omega) (by omega) (by omega)).mono ?_
      rintro e w4 ⟨p, rfl, hp1, hp2, rfl⟩
      clear hr3
      go_wp2_with fail
      refine (next_q _ ls (J + 5) 3 _ (HS.out.touch HI3.out.t (by simp)) HL.out (by have := HJ.out; omega) (by omega) (by omega)).mono ?_
      rintro e w5 ⟨q, rfl, hq1, hq2, rfl⟩
      obtain ⟨vc', w6, hr6, hl6, ht6, hn6, hz6, ca', cc', rfl⟩ := HI3.out.c.append HI3.out.t.size (fun k hk => HI3.out.dl k hk) (fun k hk => HI3.out.cd k hk) (by rw [HLC.out]; omega) p q
      have HI6 := Lib.hid (HI3.out.addC hl6 ht6 hn6 hz6)
      rw [HLC.out] at hr6
      have HPR : Hid (HoltRow [x, y] [p, q]) := Lib.hid ⟨x, y, p, q, rfl, rfl, by omega, by omega, by omega, by omega⟩
      clear hl6 ht6 hn6 hz6
      go_wp2_with (at_builtin; refine Lib.wpList_append_run _ rfl _ _ _ _ rfl _ _ rfl rfl _ _ (hr6 _) ?_)
      go_roundw
      case rel =>
        rw [HLC.out, HLH.out] at HI6
        refine ⟨j + 1, hs ++ [[x, y]], cs ++ [[p, q]], _, by omega, by go_num, by simp [HLH.out], by simp [HLC.out], HI6.out, fun i hi => ?_⟩
        by_cases e : i = j
        · subst e
          have e1 := rw_snoc_new hs [x, y]
          have e2 := rw_snoc_new cs [p, q]
          rw [HLH.out] at e1
          rw [HLC.out] at e2
          rw [e1, e2]
          exact HPR.out
        · rw [rw_snoc_old _ _ (by rw [HLH.out]; omega), rw_snoc_old _ _ (by rw [HLC.out]; omega)]
          exact HRow.out i (by omega)
      case measure => simp [intOf]; omega
    · have hlt : ¬ (j : Int) < (N : Int) := by omega
      obtain rfl : j = N := by omega
      go_wp2
      go_ret3
      exact ⟨_, _, _, rfl, a0, a1, hs, cs, HA0.out, HA1.out, HI.out.av.1, HI.out.h.rws, HI.out.c.rws, HLH.out, HLC.out, HRow.out, HI.out.t⟩
end Go.Proofs.Ytjgdkaedfnihaaa
