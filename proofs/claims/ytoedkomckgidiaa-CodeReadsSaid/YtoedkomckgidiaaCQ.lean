/-
  The reference's cursor: numbers.
-/
import Derived.Test.YtoedkomckgidiaaCP
set_option linter.unusedVariables false
namespace Go.Proofs.Ytoedkomckgidiaa
open Go Go.RowKit

/-- The cursor in block b: it stands at o, or it is bad. -/
def Cu (D : List Nat) (w : World) (b : Nat) : Option Nat → Prop
  | some o => o ≤ D.length ∧ ∃ v, Blk w b #[v, .int .i64 (o : Int), .bool false] 97 ∧ Bs w v D ∧ ∀ k, v.ownBlock = some k → k < b
  | none => ∃ v, ∃ at_ : Int, Blk w b #[v, .int .i64 at_, .bool true] 97 ∧ Bs w v D ∧ ∀ k, v.ownBlock = some k → k < b
theorem Cu.grown {D S : List Nat} {w w' : World} {b : Nat} {st : Option Nat} (h : Cu D w b st) (ht : Touch S w w') (hs : ∀ k ∈ S, b < k) : Cu D w' b st := by
  cases st with
  | some o => obtain ⟨h0, v, h1, h2, h3⟩ := h; exact ⟨h0, v, h1.touch ht (fun hm => by have := hs b hm; omega), h2.touch ht (fun k hk hm => by have := hs k hm; have := h3 k hk; omega), h3⟩
  | none => obtain ⟨v, a, h1, h2, h3⟩ := h; exact ⟨v, a, h1.touch ht (fun hm => by have := hs b hm; omega), h2.touch ht (fun k hk hm => by have := hs k hm; have := h3 k hk; omega), h3⟩
theorem Cu.lt {D : List Nat} {w : World} {b : Nat} {st : Option Nat} (h : Cu D w b st) : b < w.heap.size := by
  cases st with
  | some o => obtain ⟨h0, v, h1, _⟩ := h; exact h1.lt
  | none => obtain ⟨v, a, h1, _⟩ := h; exact h1.lt
theorem or_add8 (a x : Nat) (hx : x < 256) : (a * 256) ||| x = a * 256 + x := by
  rw [show a * 256 = a * 2 ^ 8 from rfl, Nat.mul_comm, ← Nat.two_pow_add_eq_or_of_lt (by simpa using hx)]
theorem valN_back (l : List Nat) (i : Nat) (h : i < l.length) : valN (l.drop i) = l.getD i 0 + 256 * valN (l.drop (i + 1)) := by
  rw [List.drop_eq_getElem_cons h]
  simp [valN, List.getD_eq_getElem?_getD, h]
def CnP (D : List Nat) (b n : Nat) (st : Option Nat) (w : World) (e : Ending) (w' : World) : Prop :=
  e = .returned (.int .i64 (sgn (un_ D n st))) ∧ Cu D w' b (go_ D n st) ∧ Touch [b] w w'
set_option maxHeartbeats 16000000 in
set_option maxRecDepth 100000 in
theorem rnum_any (D : List Nat) (b n : Nat) (st : Option Nat) (w : World) (h : Cu D w b st) (hn : n ≤ 8) (h1 : 1 ≤ n) (hD : D.length ≤ 1000000) (hDb : ∀ x ∈ D, x < 256) :
    Calls Try.prog 56 #[.pointer (some ⟨b, 0, none⟩), .int .i64 (n : Int)] w (CnP D b n st w) := by
  have HDB := Lib.hid hDb
  clear hDb
  cases st with
  | none =>
    obtain ⟨v, at_, hb, hv, ho⟩ := h
    obtain ⟨a, c, rfl⟩ := hv.form
    have HB := Lib.hid hb
    have HV := Lib.hid hv
    have HO := Lib.hid ho
    have x2 : ∀ q : Later w, q.world.cell? ⟨b, 2, none⟩ = some (.bool true) := fun q => (HB.out.touch q.ok (by simp)).cell (i := 2) rfl
    have HF : Hid (go_ D n none = none ∧ un_ D n none = 0) := Lib.hid ⟨rfl, rfl⟩
    clear hb hv ho
    go_enter Try.func56, Try.ntmps56
    go_wp2_with fail
    refine wp_region_later (by kernel_rfl) (by kernel_rfl) ?_
    repeat (first
      | (go_big_quiet_step ((with_reducible rfl)))
      | (quiet_step (fail)))
    refine wpQuiet_nil ?_
    intro wq hw'
    obtain ⟨⟨wq', hwq⟩, hwe⟩ := hw'
    have hwe : wq = wq' := hwe
    subst hwe
    have HT := Lib.hid hwq
    have hb2 := HB.out.touch hwq (by simp)
    have HB2 := Lib.hid hb2
    have y2 := hb2.cell (i := 2) rfl
    have f2 := hb2.free 2
    clear hwe hwq x2 hb2
    go_wp2
    go_ret
    have tt : Touch [b] wq (wq.setCell ⟨b, 2, none⟩ (.bool true)) := (Touch.refl [b] wq).setCell (by simp) _
    exact ⟨rfl, ⟨_, at_, HB2.out.set 2 _, (HV.out.touch HT.out (by simp)).touch tt (fun k hk => by have := HO.out k hk; simp; omega), HO.out⟩, (HT.out.mono (by simp)).trans tt⟩
  | some o =>
    obtain ⟨ho, v, hb, hv, hown⟩ := h
    obtain ⟨a, c, rfl⟩ := hv.form
    obtain ⟨L, hL⟩ : ∃ L, D.length = L := ⟨_, rfl⟩
    have HL := Lib.hid hL
    rw [hL] at hv hb hown ho hD
    have HB := Lib.hid hb
    have HV := Lib.hid hv
    have HO := Lib.hid hown
    have x0 : ∀ q : Later w, q.world.cell? ⟨b, 0, none⟩ = some (.slice a L c) := fun q => (HB.out.touch q.ok (by simp)).cell (i := 0) rfl
    have x1 : ∀ q : Later w, q.world.cell? ⟨b, 1, none⟩ = some (.int .i64 (o : Int)) := fun q => (HB.out.touch q.ok (by simp)).cell (i := 1) rfl
    have x2 : ∀ q : Later w, q.world.cell? ⟨b, 2, none⟩ = some (.bool false) := fun q => (HB.out.touch q.ok (by simp)).cell (i := 2) rfl
    have vs : IntKind.i64.wrap ((L : Int) - (o : Int)) = ((L - o : Nat) : Int) := by rw [IntWalk.i64_in _ (by omega)]; omega
    clear hb hv hown hL
    by_cases hlt : L - o < n
    · have d0 : decide (((L - o : Nat) : Int) < (n : Int)) = true := dT (by omega)
      have d1 : decide (L - o < n) = true := dT hlt
      have HU : Hid (go_ D n (some o) = none ∧ un_ D n (some o) = 0) := Lib.hid ⟨if_neg (by rw [HL.out]; omega), if_neg (by rw [HL.out]; omega)⟩
      go_enter Try.func56, Try.ntmps56
      go_wp2_with fail
      refine wp_region_later (by kernel_rfl) (by kernel_rfl) ?_
      repeat (first
        | (go_big_quiet_step ((with_reducible rfl)))
        | (quiet_step (fail)))
      refine wpQuiet_nil ?_
      intro wq hw'
      obtain ⟨⟨wq', hwq⟩, hwe⟩ := hw'
      have hwe : wq = wq' := hwe
      subst hwe
      have HT := Lib.hid hwq
      have hb2 := HB.out.touch hwq (by simp)
      have HB2 := Lib.hid hb2
      have y2 := hb2.cell (i := 2) rfl
      have f2 := hb2.free 2
      clear hwe hwq x0 x1 x2 hb2
      go_wp2
      go_ret
      have tt : Touch [b] wq (wq.setCell ⟨b, 2, none⟩ (.bool true)) := (Touch.refl [b] wq).setCell (by simp) _
      exact ⟨by rw [HU.out.2]; rfl, by rw [HU.out.1]; exact ⟨_, (o : Int), HB2.out.set 2 _, (HV.out.touch HT.out (by simp)).touch tt (fun k hk => by have := HO.out k hk; simp; omega), HO.out⟩, (HT.out.mono (by simp)).trans tt⟩
    · have d0 : decide (((L - o : Nat) : Int) < (n : Int)) = false := dF (by omega)
      have d1 : decide (L - o < n) = false := dF hlt
      have hon : o + n ≤ L := by omega
      obtain ⟨seg, hseg⟩ : ∃ s, (D.drop o).take n = s := ⟨_, rfl⟩
      have HSL : Hid (seg.length = n) := Lib.hid (by rw [← hseg, List.length_take, List.length_drop, HL.out]; omega)
      have HSG : Hid (∀ t, t < n → seg.getD t 0 = D.getD (o + t) 0) := Lib.hid (fun t ht => by
        rw [← hseg, List.getD_eq_getElem?_getD, List.getD_eq_getElem?_getD, List.getElem?_take, if_pos ht, List.getElem?_drop])
      have HSB : Hid (∀ x ∈ seg, x < 256) := Lib.hid (fun x hx => HDB.out x (by rw [← hseg] at hx; exact List.mem_of_mem_drop (List.mem_of_mem_take hx)))
      have HU : Hid (go_ D n (some o) = some (o + n) ∧ un_ D n (some o) = valN seg) := Lib.hid ⟨if_pos (by rw [HL.out]; exact hon), by rw [← hseg]; exact if_pos (by rw [HL.out]; exact hon)⟩
      have vn : IntKind.i64.wrap ((n : Int) - 1) = (n : Int) - 1 := IntWalk.i64_in _ (by omega)
      clear hseg
      go_enter Try.func56, Try.ntmps56
      go_wp2_with fail
      refine wp_region_later (by kernel_rfl) (by kernel_rfl) ?_
      repeat (first
        | (go_big_quiet_step ((with_reducible rfl)))
        | (quiet_step (fail)))
      refine wpQuiet_nil ?_
      intro wq hw'
      obtain ⟨⟨wq', hwq⟩, hwe⟩ := hw'
      have hwe : wq = wq' := hwe
      subst hwe
      have HT0 := Lib.hid hwq
      clear hwe hwq x0 x1 x2
      go_wp2_with fail
      go_loopw [5, 6] (fun uv iv wr => ∃ m : Nat, m ≤ n ∧ iv = .int .i64 ((m : Int) - 1) ∧ uv = .int .u64 ((valN (seg.drop m) : Nat) : Int) ∧ Touch [] w wr) (fun _ iv _ => (intOf iv + 1).toNat)
      case atStart => exact ⟨n, Nat.le_refl _, rfl, by rw [← HSL.out, List.drop_length]; rfl, HT0.out⟩
      case round =>
        obtain ⟨m, hm, rfl, rfl, ht⟩ := hrel
        clear HT0 vn
        have HT := Lib.hid ht
        clear ht
        cases m with
        | zero =>
          rw [List.drop_zero]
          obtain ⟨V, hV⟩ : ∃ V, valN seg = V := ⟨_, rfl⟩
          have hVl : V < 18446744073709551616 := by
            have := valN_lt seg HSB.out
            rw [hV, HSL.out] at this
            have h2 : (256 : Nat) ^ n ≤ 256 ^ 8 := Nat.pow_le_pow_right (by omega) hn
            omega
          have HVV := Lib.hid hV
          have vV : IntKind.wrap .i64 (V : Int) = sgn V := sgn_wrap V hVl
          have hb2 := HB.out.touch HT.out (by simp)
          have y1 := hb2.cell (i := 1) rfl
          have f1 := hb2.free 1
          have HB2 := Lib.hid hb2
          have vo : IntKind.i64.wrap ((o : Int) + (n : Int)) = ((o + n : Nat) : Int) := by rw [IntWalk.i64_in _ (by omega)]; omega
          rw [hV]
          clear hV hb2
          go_wp2_with fail
          go_ret
          have tt : Touch [b] wr (wr.setCell ⟨b, 1, none⟩ (.int .i64 ((o + n : Nat) : Int))) := (Touch.refl [b] wr).setCell (by simp) _
          exact ⟨by rw [HU.out.2, HVV.out]; rfl, by rw [HU.out.1]; exact ⟨by rw [HL.out]; exact hon, _, HB2.out.set 1 _, (HV.out.touch HT.out (by simp)).touch tt (fun k hk => by have := HO.out k hk; simp; omega), HO.out⟩, (HT.out.mono (by simp)).trans tt⟩
        | succ t =>
          rw [show ((t + 1 : Nat) : Int) - 1 = (t : Int) from by omega]
          obtain ⟨g, off, hga, hg, hc⟩ := HV.out.ix (i := o + t) (by rw [HL.out]; omega)
          subst hga
          obtain ⟨x, hx⟩ : ∃ x, D.getD (o + t) 0 = x := ⟨_, rfl⟩
          rw [hx] at hc
          have hx8 : x < 256 := by
            rw [← hx, List.getD_eq_getElem?_getD, List.getElem?_eq_getElem (by rw [HL.out]; omega)]
            exact HDB.out _ (List.getElem_mem _)
          have hbk := valN_back seg t (by rw [HSL.out]; omega)
          rw [HSG.out t (by omega), hx] at hbk
          obtain ⟨q, hq⟩ : ∃ q, valN (seg.drop (t + 1)) = q := ⟨_, rfl⟩
          have hql : q < 72057594037927936 := by
            have := valN_lt (seg.drop (t + 1)) (fun b hb => HSB.out b (List.mem_of_mem_drop hb))
            rw [hq, List.length_drop, HSL.out] at this
            have h2 : (256 : Nat) ^ (n - (t + 1)) ≤ 256 ^ 7 := Nat.pow_le_pow_right (by omega) (by omega)
            omega
          rw [hq] at hbk ⊢
          obtain ⟨R, hR⟩ : ∃ R, q * 256 = R := ⟨_, rfl⟩
          obtain ⟨Q, hQ⟩ : ∃ Q, x + 256 * q = Q := ⟨_, rfl⟩
          rw [hQ] at hbk
          have HBK := Lib.hid hbk
          have vq : IntKind.wrap .u64 ((q : Int) * 256) = (R : Int) := by rw [← hR, uns_wrap, show (q : Int) * 256 = ((q * 256 : Nat) : Int) from by simp, uns_nat _ (by omega)]
          have v8 : IntKind.wrap .u64 (x : Int) = (x : Int) := by rw [uns_wrap, uns_nat _ (by omega)]
          have vO : bits .or .u64 (R : Int) (x : Int) = (Q : Int) := by
            rw [bits_or_u64_nat R x (by omega) (by omega), ← hR, or_add8 q x hx8, ← hQ]
            omega
          have va : IntKind.i64.wrap ((o : Int) + (t : Int)) = ((o + t : Nat) : Int) := by rw [IntWalk.i64_in _ (by omega)]; omega
          have hot : o + t < L := by omega
          have x0 : ∀ q : Later wr, q.world.cell? ⟨b, 0, none⟩ = some (.slice (some ⟨g, off, none⟩) L c) := fun q => (HB.out.touch (HT.out.trans q.ok) (by simp)).cell (i := 0) rfl
          have x1 : ∀ q : Later wr, q.world.cell? ⟨b, 1, none⟩ = some (.int .i64 (o : Int)) := fun q => (HB.out.touch (HT.out.trans q.ok) (by simp)).cell (i := 1) rfl
          have x2 : ∀ q : Later wr, q.world.cell? ⟨g, off + (o + t), none⟩ = some (.int .u8 (x : Int)) := fun q => hc [] _ (HT.out.trans q.ok) (by simp)
          clear hc hx hbk hq hR hQ
          go_wp2_with fail
          refine wp_region_later (by kernel_rfl) (by kernel_rfl) ?_
          repeat (first
            | (go_big_quiet_step ((with_reducible rfl)))
            | (quiet_step (fail)))
          refine wpQuiet_nil ?_
          intro wq hw'
          obtain ⟨⟨wq', hwq⟩, hwe⟩ := hw'
          have hwe : wq = wq' := hwe
          subst hwe
          have HTn := Lib.hid (HT.out.trans hwq)
          clear hwe hwq x0 x1 x2
          have vt : IntKind.i64.wrap ((t : Int) - 1) = (t : Int) - 1 := IntWalk.i64_in _ (by omega)
          go_wp2_with fail
          go_roundw
          case rel => exact ⟨t, by omega, rfl, by rw [HBK.out], HTn.out⟩
          case measure => simp [intOf]
end Go.Proofs.Ytoedkomckgidiaa
