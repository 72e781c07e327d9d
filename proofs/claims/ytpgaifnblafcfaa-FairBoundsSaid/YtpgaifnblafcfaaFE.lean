/-
  Work, as the reference tells it; both are alike.
-/
import Derived.Test.YtpgaifnblafcfaaFD
set_option linter.unusedVariables false
namespace Go.Proofs.Ytpgaifnblafcfaa
open Go.RowKit Go.BigFrame

/-- How many steps one does from there on, in one spell. -/
def cntR (l : List Stp) (p : Int) : Nat → Nat → Int
  | 0, _ => 0
  | f + 1, k => if p ∈ (stp l k).ho then (if (stp l k).pid = p then 1 else 0) + cntR l p f (k + 1) else 0
theorem cntR_le (l : List Stp) (p : Int) : ∀ f k, 0 ≤ cntR l p f k ∧ cntR l p f k ≤ f
  | 0, k => by simp [cntR]
  | f + 1, k => by
    have := cntR_le l p f (k + 1)
    unfold cntR
    split
    · split <;> omega
    · omega
theorem cntR_yes (l : List Stp) (p : Int) (f k : Nat) (h : p ∈ (stp l k).ho) : cntR l p (f + 1) k = (if (stp l k).pid = p then 1 else 0) + cntR l p f (k + 1) := by
  show (if _ then _ else _) = _
  rw [if_pos h]
theorem cntR_no (l : List Stp) (p : Int) (f k : Nat) (h : p ∉ (stp l k).ho) : cntR l p (f + 1) k = 0 := by
  show (if _ then _ else _) = _
  rw [if_neg h]
def runR (l : List Stp) (i : Nat) (p : Int) : Int := cntR l p (l.length - i) i
theorem done_up (l : List Stp) (p : Int) : ∀ f i, f = l.length - i → i < l.length → p ∈ (stp l i).ho → ∃ j, j < l.length ∧ p ∈ (stp l j).ho ∧ doneAt l i p + cntR l p f i ≤ doneAt l (j + 1) p
  | 0, i, hf, hi, _ => by omega
  | f + 1, i, hf, hi, hp => by
    have hd : doneAt l (i + 1) p = doneAt l i p + (if p = (stp l i).pid then 1 else 0) := by
      show (if _ then _ else _) = _
      rw [if_pos hp]
    have he : (if (stp l i).pid = p then (1 : Int) else 0) = (if p = (stp l i).pid then 1 else 0) := by
      by_cases e : p = (stp l i).pid
      · rw [if_pos e, if_pos e.symm]
      · rw [if_neg e, if_neg (fun h => e h.symm)]
    rw [cntR_yes _ _ _ _ hp, he]
    by_cases hn : i + 1 < l.length ∧ p ∈ (stp l (i + 1)).ho
    · obtain ⟨j, h1, h2, h3⟩ := done_up l p f (i + 1) (by omega) hn.1 hn.2
      exact ⟨j, h1, h2, by omega⟩
    · refine ⟨i, hi, hp, ?_⟩
      have hz : cntR l p f (i + 1) = 0 := by
        cases f with
        | zero => rfl
        | succ f => exact cntR_no _ _ _ _ (fun h => hn ⟨by omega, h⟩)
      omega
theorem done_down (l : List Stp) (p : Int) : ∀ j, j < l.length → p ∈ (stp l j).ho → ∃ i, i < l.length ∧ p ∈ (stp l i).ho ∧ doneAt l (j + 1) p + cntR l p (l.length - (j + 1)) (j + 1) ≤ runR l i p
  | j, hj, hp => by
    have hd : doneAt l (j + 1) p = doneAt l j p + (if p = (stp l j).pid then 1 else 0) := by
      show (if _ then _ else _) = _
      rw [if_pos hp]
    have he : (if (stp l j).pid = p then (1 : Int) else 0) = (if p = (stp l j).pid then 1 else 0) := by
      by_cases e : p = (stp l j).pid
      · rw [if_pos e, if_pos e.symm]
      · rw [if_neg e, if_neg (fun h => e h.symm)]
    have hc : cntR l p (l.length - j) j = (if p = (stp l j).pid then 1 else 0) + cntR l p (l.length - (j + 1)) (j + 1) := by
      rw [show l.length - j = (l.length - (j + 1)) + 1 from by omega, cntR_yes _ _ _ _ hp, he]
    cases j with
    | zero => exact ⟨0, hj, hp, by unfold runR; rw [hd, hc]; show (0 : Int) + _ + _ ≤ _; omega⟩
    | succ j =>
      by_cases hq : p ∈ (stp l j).ho
      · obtain ⟨i, h1, h2, h3⟩ := done_down l p j (by omega) hq
        exact ⟨i, h1, h2, by omega⟩
      · refine ⟨j + 1, hj, hp, ?_⟩
        have hz : doneAt l (j + 1) p = 0 := by
          show (if _ then _ else _) = _
          rw [if_neg hq]
        unfold runR
        omega
theorem mem_at {xs : List Int} {p : Int} (h : p ∈ xs) : ∃ q, q < xs.length ∧ xs.getD q 0 = p := by
  obtain ⟨q, hq, he⟩ := List.getElem_of_mem h
  exact ⟨q, hq, by rw [List.getD_eq_getElem?_getD, List.getElem?_eq_getElem hq]; exact he⟩
theorem at_mem {xs : List Int} {q : Nat} (h : q < xs.length) : xs.getD q 0 ∈ xs := by
  rw [List.getD_eq_getElem?_getD, List.getElem?_eq_getElem h]
  exact List.getElem_mem _
/-- The greatest of either kind is the same. -/
theorem work_same {l : List Stp} {B B' : Int} (h : WUp (fun j => doneAt l (j + 1)) l l.length 0 B) (h' : WUp (runR l) l l.length 0 B') : B = B' := by
  have le1 : B ≤ B' := by
    rcases h.2.2 with e | ⟨j, q, h1, h2, h3⟩
    · have := h'.1; omega
    · have hj : j < l.length := by omega
      obtain ⟨i, q1, q2, q3⟩ := done_down l _ j hj (at_mem h2)
      obtain ⟨q', q4, q5⟩ := mem_at q2
      have := h'.2.1 i q' (.inl q1) q4
      rw [q5] at this
      have := (cntR_le l ((stp l j).ho.getD q 0) (l.length - (j + 1)) (j + 1)).1
      rw [h3]
      show doneAt l (j + 1) _ ≤ _
      omega
  have le2 : B' ≤ B := by
    rcases h'.2.2 with e | ⟨j, q, h1, h2, h3⟩
    · have := h.1; omega
    · have hj : j < l.length := by omega
      obtain ⟨i, q1, q2, q3⟩ := done_up l _ _ j rfl hj (at_mem h2)
      obtain ⟨q', q4, q5⟩ := mem_at q2
      have := h.2.1 i q' (.inl q1) q4
      simp only [q5] at this
      have := (doneAt_le l ((stp l j).ho.getD q 0) j).1
      rw [h3]
      unfold runR
      omega
  omega
theorem miss_run (l : List Stp) (p : Int) : ∀ (j m : Nat), (m : Int) ≤ missAt l j p → m ≤ j ∧ ∀ n, j - m ≤ n → n < j → GoodN l p n
  | 0, m, h => by
    have : m = 0 := by have h : (m : Int) ≤ 0 := h; omega
    subst this; exact ⟨Nat.le_refl _, fun n h1 h2 => by omega⟩
  | j + 1, m, h => by
    cases m with
    | zero => exact ⟨Nat.zero_le _, fun n h1 h2 => by omega⟩
    | succ m =>
      have h : ((m + 1 : Nat) : Int) ≤ if p ∈ (stp l j).rd ∧ p ≠ (stp l j).pid then missAt l j p + 1 else 0 := h
      by_cases hg : p ∈ (stp l j).rd ∧ p ≠ (stp l j).pid
      · rw [if_pos hg] at h
        obtain ⟨h1, h2⟩ := miss_run l p j m (by omega)
        refine ⟨by omega, fun n q1 q2 => ?_⟩
        by_cases e : n = j
        · subst e; exact ⟨hg.1, Ne.symm hg.2⟩
        · exact h2 n (by omega) (by omega)
      · rw [if_neg hg] at h; omega
theorem run_miss (l : List Stp) (p : Int) (i : Nat) : ∀ m : Nat, (∀ n, i ≤ n → n < i + m → GoodN l p n) → (m : Int) ≤ missAt l (i + m) p
  | 0, _ => (missAt_le l p i).1
  | m + 1, h => by
    have ih := run_miss l p i m (fun n h1 h2 => h n h1 (by omega))
    have hg := h (i + m) (by omega) (by omega)
    show ((m + 1 : Nat) : Int) ≤ if p ∈ (stp l (i + m)).rd ∧ p ≠ (stp l (i + m)).pid then missAt l (i + m) p + 1 else 0
    rw [if_pos ⟨hg.1, Ne.symm hg.2⟩]
    omega
theorem fair_same (k : Int) (l : List Stp) : FairL k l ↔ RFairL k l := by
  constructor
  · rintro ⟨h1, h2⟩
    refine ⟨h1, fun i q hi hq hb => ?_⟩
    obtain ⟨kk, rfl⟩ : ∃ kk : Nat, k = (kk : Int) + 1 := ⟨(k - 1).toNat, by omega⟩
    have hm := run_miss l _ i kk (fun n q1 q2 => hb n q1 (by omega))
    have hg := hb (i + kk) (by omega) (by omega)
    exact h2 (i + kk) (by omega) _ ⟨hg.1, Ne.symm hg.2, by omega⟩
  · rintro ⟨h1, h2⟩
    refine ⟨h1, fun j hj p hb => ?_⟩
    obtain ⟨kk, rfl⟩ : ∃ kk : Nat, k = (kk : Int) + 1 := ⟨(k - 1).toNat, by omega⟩
    obtain ⟨q1, q2⟩ := miss_run l p j kk (by have := hb.2.2; omega)
    have hgood : ∀ n, j - kk ≤ n → n < j + 1 → GoodN l p n := fun n a b => by
      by_cases e : n = j
      · subst e; exact ⟨hb.1, Ne.symm hb.2.1⟩
      · exact q2 n a (by omega)
    obtain ⟨q, e1, e2⟩ := mem_at (hgood (j - kk) (Nat.le_refl _) (by omega)).1
    refine h2 (j - kk) q (by omega) e1 ?_
    rw [e2]
    exact fun n a b => hgood n a (by omega)
set_option maxRecDepth 100000 in
set_option maxHeartbeats 32000000 in
theorem rwork_q (v : Value) (l : List Stp) (w : World) (h : Sts w v l) (hl : l.length ≤ 1000) (hr : ∀ j, j < l.length → (stp l j).ho.length ≤ 9223372036854775807) :
    Calls Try.prog 10 #[v] w (WorkP (runR l) l w) := by
  obtain ⟨a, cap, rfl⟩ := h.form
  have HS := Lib.hid h
  have HR := Lib.hid hr
  obtain ⟨L, hL⟩ : ∃ L, l.length = L := ⟨_, rfl⟩
  have HL := Lib.hid hL
  rw [hL] at hl ⊢
  clear h hr hL
  go_enter Try.func10, Try.ntmps10
  go_wp2
  go_loopw [3, 4] (fun bv iv wr => ∃ (i : Nat) (B : Int), i ≤ L ∧ bv = .int .i64 B ∧ iv = .int .i64 i ∧ w = wr ∧ WUp (runR l) l i 0 B) (fun _ iv _ => L + 1 - (intOf iv).toNat)
  case atStart => exact ⟨0, 0, by omega, rfl, rfl, rfl, WUp.zero _ _⟩
  case round =>
    obtain ⟨i, B, hi, rfl, rfl, rfl, hu⟩ := hrel
    have HU := Lib.hid hu
    clear hu
    by_cases hin : i < L
    · have hiL : (i : Int) < (L : Int) := by omega
      obtain ⟨g, off, ha, c0, c1, s0, s1, hc⟩ := HS.out.at (i := i) (by rw [HL.out]; omega)
      obtain ⟨e0, e1, e2⟩ := hc _ (Touch.refl _ _)
      obtain ⟨a0, n0, rfl⟩ := s0.form
      obtain ⟨a1, n1, rfl⟩ := s1.form
      have HS1 := Lib.hid s1
      obtain ⟨n, hn⟩ : ∃ n, (stp l i).ho.length = n := ⟨_, rfl⟩
      have HNn := Lib.hid hn
      have hn6 : n ≤ 9223372036854775807 := by rw [← hn]; exact HR.out i (by rw [HL.out]; omega)
      subst ha
      rw [hn] at e1
      clear hc s0 s1 hn
      go_wp2_with fail
      go_loopw [3, 5] (fun bv jv wi => ∃ (q : Nat) (B : Int), q ≤ n ∧ bv = .int .i64 B ∧ jv = .int .i64 q ∧ w = wi ∧ WUp (runR l) l i q B) (fun _ jv _ => n + 1 - (intOf jv).toNat)
      case atStart => exact ⟨0, B, by omega, rfl, rfl, rfl, HU.out⟩
      case round =>
        clear HU
        obtain ⟨q, B, hq, rfl, rfl, rfl, hu⟩ := hrel
        have HU := Lib.hid hu
        clear hu
        by_cases hqn : q < n
        · have hqlt : (q : Int) < (n : Int) := by omega
          have hqr : q < (stp l i).ho.length := by rw [HNn.out]; exact hqn
          obtain ⟨lg, lo, ha0, _, hc⟩ := Sl.get HS1.out hqr
          subst ha0
          have f0 := hc _ (Touch.refl _ _)
          obtain ⟨p0, hp0⟩ : ∃ p, (stp l i).ho.getD q 0 = p := ⟨_, rfl⟩
          rw [hp0] at f0
          have HP0 := Lib.hid hp0
          have HQR := Lib.hid hqr
          clear hc hp0 hqr
          go_wp2_with fail
          go_loopw [7, 8] (fun nv kv wn => ∃ (N : Nat) (z : Int), i ≤ N ∧ N ≤ L ∧ nv = .int .i64 z ∧ kv = .int .i64 N ∧ w = wn ∧ 0 ≤ z ∧ z ≤ N ∧ z + cntR l p0 (L - N) N = runR l i p0) (fun _ kv _ => L + 1 - (intOf kv).toNat)
          case atStart => exact ⟨i, 0, by omega, by omega, rfl, rfl, rfl, by omega, by omega, by unfold runR; rw [HL.out]; omega⟩
          case round =>
            obtain ⟨N, z, hN1, hN2, rfl, rfl, rfl, hz0, hzN, hz⟩ := hrel
            have HZ := Lib.hid hz
            clear hz
            have fin : Hid (cntR l p0 (L - N) N = 0 → z = runR l i p0) := Lib.hid (fun h => by have := HZ.out; omega)
            by_cases hNL : N < L
            · have k1 : (N : Int) < (L : Int) := by omega
              obtain ⟨g', off', ha', c0', c1', s0', s1', hc'⟩ := HS.out.at (i := N) (by rw [HL.out]; omega)
              cases ha'
              obtain ⟨x0, x1, x2⟩ := hc' _ (Touch.refl _ _)
              obtain ⟨a0', n0', rfl⟩ := s0'.form
              obtain ⟨a1', n1', rfl⟩ := s1'.form
              obtain ⟨pn, hpn⟩ : ∃ n, (stp l N).pid = n := ⟨_, rfl⟩
              have HPN := Lib.hid hpn
              rw [hpn] at x2
              have HH := Lib.hid (has_l _ _ p0 w s1' (HR.out N (by rw [HL.out]; omega)))
              obtain ⟨m', hm'⟩ : ∃ n, (stp l N).ho.length = n := ⟨_, rfl⟩
              rw [hm'] at x1 HH
              have hf : L - N = (L - (N + 1)) + 1 := by omega
              have HF := Lib.hid hf
              clear hc' s0' s1' hpn hm' hf
              by_cases hmem : p0 ∈ (stp l N).ho
              · rw [dT hmem] at HH
                have HY := Lib.hid (cntR_yes l p0 (L - (N + 1)) N hmem)
                clear hmem
                by_cases hpp : pn = p0
                · have q1 : (pn == p0) = true := beqT hpp
                  have HPP := Lib.hid hpp
                  have v1 : IntKind.i64.wrap (z + 1) = z + 1 := IntWalk.i64_in _ (by omega)
                  clear hpp
                  go_wp2_with fail
                  refine HH.out.mono ?_
                  rintro e w1 ⟨rfl, rfl⟩
                  go_wp2
                  go_roundw
                  case rel =>
                    refine ⟨N + 1, z + 1, by omega, by omega, rfl, by go_num, trivial, by omega, by omega, ?_⟩
                    have h1 := HZ.out
                    rw [HF.out, HY.out, if_pos (by rw [HPN.out]; exact HPP.out)] at h1
                    omega
                  case measure => simp [intOf]; omega
                · have q1 : (pn == p0) = false := beqF hpp
                  have HPP := Lib.hid hpp
                  clear hpp
                  go_wp2_with fail
                  refine HH.out.mono ?_
                  rintro e w1 ⟨rfl, rfl⟩
                  go_wp2
                  go_roundw
                  case rel =>
                    refine ⟨N + 1, z, by omega, by omega, rfl, by go_num, trivial, by omega, by omega, ?_⟩
                    have h1 := HZ.out
                    rw [HF.out, HY.out, if_neg (by rw [HPN.out]; exact HPP.out)] at h1
                    omega
                  case measure => simp [intOf]; omega
              · rw [dF hmem] at HH
                have HV : Hid (runR l i ((stp l i).ho.getD q 0) = z) := Lib.hid (by
                  rw [HP0.out]
                  exact (fin.out (by rw [HF.out]; exact cntR_no _ _ _ _ hmem)).symm)
                clear hmem
                by_cases hBx : B < z
                · have HL2 := Lib.hid (HU.out.more HQR.out (by rw [HV.out]; exact hBx))
                  go_wp2_with fail
                  refine HH.out.mono ?_
                  rintro e w1 ⟨rfl, rfl⟩
                  go_wp2
                  go_roundw
                  case rel => exact ⟨q + 1, z, by omega, rfl, by go_num, trivial, by rw [← HV.out]; exact HL2.out⟩
                  case measure => simp [intOf]; omega
                · have HL2 := Lib.hid (HU.out.keep (by rw [HV.out]; exact hBx))
                  go_wp2_with fail
                  refine HH.out.mono ?_
                  rintro e w1 ⟨rfl, rfl⟩
                  go_wp2
                  go_roundw
                  case rel => exact ⟨q + 1, B, by omega, rfl, by go_num, trivial, HL2.out⟩
                  case measure => simp [intOf]; omega
            · have k1 : ¬ (N : Int) < (L : Int) := by omega
              have HV : Hid (runR l i ((stp l i).ho.getD q 0) = z) := Lib.hid (by
                rw [HP0.out]
                exact (fin.out (by rw [show L - N = 0 from by omega]; rfl)).symm)
              by_cases hBx : B < z
              · have HL2 := Lib.hid (HU.out.more HQR.out (by rw [HV.out]; exact hBx))
                go_wp2
                go_roundw
                case rel => exact ⟨q + 1, z, by omega, rfl, by go_num, trivial, by rw [← HV.out]; exact HL2.out⟩
                case measure => simp [intOf]; omega
              · have HL2 := Lib.hid (HU.out.keep (by rw [HV.out]; exact hBx))
                go_wp2
                go_roundw
                case rel => exact ⟨q + 1, B, by omega, rfl, by go_num, trivial, HL2.out⟩
                case measure => simp [intOf]; omega
        · have hqlt : ¬ (q : Int) < (n : Int) := by omega
          obtain rfl : q = n := by omega
          go_wp2
          go_roundw
          case rel => exact ⟨i + 1, B, by omega, rfl, by go_num, trivial, WUp.next (by rw [HNn.out]; exact HU.out)⟩
          case measure => simp [intOf]; omega
    · have hlt : ¬ (i : Int) < (L : Int) := by omega
      obtain rfl : i = L := by omega
      go_wp2
      go_ret
      exact ⟨B, rfl, by rw [HL.out]; exact HU.out, Touch.refl _ _⟩
end Go.Proofs.Ytpgaifnblafcfaa
