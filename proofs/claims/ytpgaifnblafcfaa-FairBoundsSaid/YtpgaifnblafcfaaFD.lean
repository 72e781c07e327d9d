/-
  Fair, as the reference tells it.
-/
import Derived.Test.YtpgaifnblafcfaaFC
set_option linter.unusedVariables false
namespace Go.Proofs.Ytpgaifnblafcfaa
open Go.RowKit Go.BigFrame

set_option maxHeartbeats 2000000 in
theorem has_l (v : Value) (xs : List Int) (x : Int) (w : World) (h : Sl w v xs) (hl : xs.length ≤ 9223372036854775807) :
    Calls Try.prog 13 #[v, .int .i64 x] w fun e w' => e = .returned (.bool (decide (x ∈ xs))) ∧ w = w' := by
  obtain ⟨a, cap, rfl, h⟩ := h
  have HR := Lib.hid h
  obtain ⟨n, hn⟩ : ∃ n, xs.length = n := ⟨_, rfl⟩
  have HN := Lib.hid hn
  rw [hn] at hl ⊢
  clear h hn
  go_enter Try.func13, Try.ntmps13
  go_wp2
  go_loop [5] (fun i => ∃ j : Nat, j ≤ n ∧ i = .int .i64 j ∧ ∀ k, k < j → xs.getD k 0 ≠ x) (fun i => n + 1 - (intOf i).toNat)
  case atStart => exact ⟨0, by omega, rfl, fun k hk => by omega⟩
  case round =>
    obtain ⟨j, hj, rfl, hno⟩ := hrel
    have HNo := Lib.hid hno
    clear hno
    by_cases hjn : j < n
    · have hlt : (j : Int) < (n : Int) := by omega
      have HZR := HR.out
      rcases HZR with h | ⟨g, off, rfl, hg, hrow⟩
      · exfalso; have := HN.out; rw [h] at this; simp at this; omega
      have hc := hrow j (by rw [HN.out]; exact hjn)
      obtain ⟨y, hy⟩ : ∃ y, xs.getD j 0 = y := ⟨_, rfl⟩
      rw [hy] at hc
      have HY := Lib.hid hy
      clear hy hrow
      by_cases hyx : y = x
      · have d1 : (y == x) = true := beqT hyx
        have HYX := Lib.hid hyx
        clear hyx
        go_wp2
        go_ret
        refine ⟨ret_bool (Eq.symm (dT ?_)), rfl⟩
        have e1 : xs[j]? = some x := by
          have := HY.out
          rw [List.getD_eq_getElem?_getD, List.getElem?_eq_getElem (by rw [HN.out]; exact hjn)] at this
          rw [List.getElem?_eq_getElem (by rw [HN.out]; exact hjn)]
          have h2 := HYX.out
          simp at this
          rw [this, h2]
        exact List.mem_of_getElem? e1
      · have d1 : (y == x) = false := beqF hyx
        have HYX := Lib.hid hyx
        clear hyx
        go_wp2
        go_round
        case rel =>
          refine ⟨j + 1, by omega, by go_num, fun k hk => ?_⟩
          by_cases e : k = j
          · subst e; rw [HY.out]; exact HYX.out
          · exact HNo.out k (by omega)
        case measure => simp [intOf]; omega
    · have hlt : ¬ (j : Int) < (n : Int) := by omega
      go_wp2
      go_ret
      refine ⟨ret_bool (Eq.symm (dF ?_)), rfl⟩
      intro hm
      obtain ⟨k, hk, he⟩ := List.getElem_of_mem hm
      refine HNo.out k (by rw [HN.out] at hk; omega) ?_
      rw [List.getD_eq_getElem?_getD, List.getElem?_eq_getElem hk]
      simpa using he

/-- One is ready, and another one runs. -/
def GoodN (l : List Stp) (p : Int) (n : Nat) : Prop := p ∈ (stp l n).rd ∧ (stp l n).pid ≠ p
def BadR (k : Int) (l : List Stp) (i : Nat) (p : Int) : Prop := ∀ n : Nat, i ≤ n → (n : Int) < i + k → GoodN l p n
def RFairL (k : Int) (l : List Stp) : Prop := 1 ≤ k ∧ ∀ i q : Nat, (i : Int) + k ≤ l.length → q < (stp l i).rd.length → ¬ BadR k l i ((stp l i).rd.getD q 0)
def RFairP (k : Int) (l : List Stp) (w : World) (e : Ending) (w' : World) : Prop := ∃ bb : Bool, e = .returned (.bool bb) ∧ (bb = true ↔ RFairL k l) ∧ w = w'
/-- What is known behind some rounds of the innermost loop. -/
def AllB (l : List Stp) (p : Int) (i n : Nat) (A : Bool) : Prop := A = true ↔ ∀ n', i ≤ n' → n' < n → p ∈ (stp l n').rd
def RanB (l : List Stp) (p : Int) (i n : Nat) (R : Bool) : Prop := R = true ↔ ∃ n', i ≤ n' ∧ n' < n ∧ (stp l n').pid = p
theorem AllB.zero (l : List Stp) (p : Int) (i : Nat) : AllB l p i i true := ⟨fun _ n' h1 h2 => by omega, fun _ => rfl⟩
theorem RanB.zero (l : List Stp) (p : Int) (i : Nat) : RanB l p i i false := ⟨fun h => (by cases h), fun ⟨n', h1, h2, _⟩ => by omega⟩
theorem AllB.off {l : List Stp} {p : Int} {i n : Nat} (h : AllB l p i n false) : AllB l p i (n + 1) false := ⟨fun h => (by cases h), fun h2 => h.2 fun n' q1 q2 => h2 n' q1 (by omega)⟩
theorem AllB.on {l : List Stp} {p : Int} {i n : Nat} (h : AllB l p i n true) (hi : i ≤ n) : AllB l p i (n + 1) (decide (p ∈ (stp l n).rd)) := by
  refine ⟨fun hd n' q1 q2 => ?_, fun h2 => decide_eq_true (h2 n hi (by omega))⟩
  by_cases e : n' = n
  · subst e; exact of_decide_eq_true hd
  · exact h.1 rfl n' q1 (by omega)
theorem RanB.on {l : List Stp} {p : Int} {i n : Nat} (h : RanB l p i n true) : RanB l p i (n + 1) true := ⟨fun _ => by obtain ⟨n', q1, q2, q3⟩ := h.1 rfl; exact ⟨n', q1, by omega, q3⟩, fun _ => rfl⟩
theorem RanB.off {l : List Stp} {p : Int} {i n : Nat} (h : RanB l p i n false) (hi : i ≤ n) : RanB l p i (n + 1) ((stp l n).pid == p) := by
  refine ⟨fun hd => ⟨n, hi, by omega, by simpa using hd⟩, fun ⟨n', q1, q2, q3⟩ => ?_⟩
  by_cases e : n' = n
  · subst e; simpa using q3
  · exact absurd (h.2 ⟨n', q1, by omega, q3⟩) (by simp)
theorem bad_of {l : List Stp} {p : Int} {i kk : Nat} {A R : Bool} (hA : AllB l p i (i + kk) A) (hR : RanB l p i (i + kk) R) : BadR kk l i p ↔ (A = true ∧ R = false) := by
  constructor
  · intro hb
    refine ⟨hA.2 fun n' q1 q2 => (hb n' q1 (by omega)).1, ?_⟩
    cases R with
    | false => rfl
    | true =>
      obtain ⟨n', q1, q2, q3⟩ := hR.1 rfl
      exact absurd q3 (hb n' q1 (by omega)).2
  · rintro ⟨rfl, rfl⟩ n q1 q2
    refine ⟨hA.1 rfl n q1 (by omega), fun e => ?_⟩
    have := hR.2 ⟨n, q1, by omega, e⟩
    cases this
set_option maxRecDepth 100000 in
set_option maxHeartbeats 32000000 in
theorem rfair_q (k : Int) (v : Value) (l : List Stp) (w : World) (h : Sts w v l) (hl : l.length ≤ 1000) (hr : ∀ j, j < l.length → (stp l j).rd.length ≤ 9223372036854775807) :
    Calls Try.prog 8 #[.int .i64 k, v] w (RFairP k l w) := by
  obtain ⟨a, cap, rfl⟩ := h.form
  have HS := Lib.hid h
  have HR := Lib.hid hr
  obtain ⟨L, hL⟩ : ∃ L, l.length = L := ⟨_, rfl⟩
  have HL := Lib.hid hL
  rw [hL] at hl ⊢
  clear h hr hL
  by_cases hk : k < 1
  · have d : decide (k < 1) = true := dT hk
    have HK := Lib.hid hk
    clear hk
    go_enter Try.func8, Try.ntmps8
    go_wp2
    go_ret
    exact ⟨false, rfl, ⟨fun h => (by cases h), fun h => (by have := h.1; have := HK.out; omega)⟩, rfl⟩
  · have d : decide (k < 1) = false := dF hk
    obtain ⟨kk, rfl⟩ : ∃ kk : Nat, k = kk := ⟨k.toNat, by omega⟩
    have hk1 : 1 ≤ kk := by omega
    clear hk
    go_enter Try.func8, Try.ntmps8
    go_wp2
    go_loopw [5] (fun i wr => ∃ (j : Nat), j ≤ L ∧ i = .int .i64 j ∧ w = wr ∧ ∀ i' q, i' < j → i' + kk ≤ L → q < (stp l i').rd.length → ¬ BadR kk l i' ((stp l i').rd.getD q 0)) (fun i _ => L + 1 - (intOf i).toNat)
    case atStart => exact ⟨0, by omega, rfl, rfl, fun i' q h => by omega⟩
    case round =>
      obtain ⟨i, hi, rfl, rfl, hno⟩ := hrel
      have HN := Lib.hid hno
      clear hno
      have v1 : IntKind.i64.wrap ((L : Int) - (i : Int)) = (L : Int) - (i : Int) := IntWalk.i64_in _ (by omega)
      by_cases hin : i + kk ≤ L
      · have d1 : decide ((kk : Int) ≤ (L : Int) - (i : Int)) = true := dT (by omega)
        have d2 : (kk : Int) ≤ (L : Int) - (i : Int) := by omega
        obtain ⟨g, off, ha, c0, c1, s0, s1, hc⟩ := HS.out.at (i := i) (by rw [HL.out]; omega)
        obtain ⟨e0, e1, e2⟩ := hc _ (Touch.refl _ _)
        obtain ⟨a0, n0, rfl⟩ := s0.form
        obtain ⟨a1, n1, rfl⟩ := s1.form
        have HS0 := Lib.hid s0
        obtain ⟨n, hn⟩ : ∃ n, (stp l i).rd.length = n := ⟨_, rfl⟩
        have HNn := Lib.hid hn
        have hn6 : n ≤ 9223372036854775807 := by rw [← hn]; exact HR.out i (by rw [HL.out]; omega)
        subst ha
        rw [hn] at e0
        have hiL : (i : Int) < (L : Int) := by omega
        clear hc s0 s1 hn
        go_wp2_with fail
        go_loopw [6] (fun jv wi => ∃ (q : Nat), q ≤ n ∧ jv = .int .i64 q ∧ w = wi ∧ ∀ q', q' < q → ¬ BadR kk l i ((stp l i).rd.getD q' 0)) (fun jv _ => n + 1 - (intOf jv).toNat)
        case atStart => exact ⟨0, by omega, rfl, rfl, fun q' h => by omega⟩
        case round =>
          obtain ⟨q, hq, rfl, rfl, hnq⟩ := hrel
          have HNQ := Lib.hid hnq
          clear hnq
          by_cases hqn : q < n
          · have hqlt : (q : Int) < (n : Int) := by omega
            have hqr : q < (stp l i).rd.length := by rw [HNn.out]; exact hqn
            obtain ⟨lg, lo, ha0, _, hc⟩ := Sl.get HS0.out hqr
            subst ha0
            have f0 := hc _ (Touch.refl _ _)
            obtain ⟨p0, hp0⟩ : ∃ p, (stp l i).rd.getD q 0 = p := ⟨_, rfl⟩
            rw [hp0] at f0
            have HP0 := Lib.hid hp0
            clear hc hp0 hqr
            go_wp2_with fail
            have v2 : IntKind.i64.wrap ((i : Int) + (kk : Int)) = (i : Int) + (kk : Int) := IntWalk.i64_in _ (by omega)
            go_loopw [8, 9, 10] (fun av rv nv wn => ∃ (N : Nat) (A R : Bool), i ≤ N ∧ N ≤ i + kk ∧ av = .bool A ∧ rv = .bool R ∧ nv = .int .i64 N ∧ w = wn ∧ AllB l p0 i N A ∧ RanB l p0 i N R) (fun _ _ nv _ => i + kk + 1 - (intOf nv).toNat)
            case atStart => exact ⟨i, true, false, by omega, by omega, rfl, rfl, rfl, rfl, AllB.zero _ _ _, RanB.zero _ _ _⟩
            case round =>
              obtain ⟨N, A, R, hN1, hN2, rfl, rfl, rfl, rfl, hA, hR⟩ := hrel
              have HA := Lib.hid hA
              have HRr := Lib.hid hR
              clear hA hR
              by_cases hNk : N < i + kk
              · have k1 : (N : Int) < (i : Int) + (kk : Int) := by omega
                have k2 : decide ((N : Int) < (i : Int) + (kk : Int)) = true := dT k1
                have hNL : (N : Int) < (L : Int) := by omega
                obtain ⟨g', off', ha', c0', c1', s0', s1', hc'⟩ := HS.out.at (i := N) (by rw [HL.out]; omega)
                cases ha'
                obtain ⟨x0, x1, x2⟩ := hc' _ (Touch.refl _ _)
                obtain ⟨a0', n0', rfl⟩ := s0'.form
                obtain ⟨a1', n1', rfl⟩ := s1'.form
                obtain ⟨pn, hpn⟩ : ∃ n, (stp l N).pid = n := ⟨_, rfl⟩
                have HPN := Lib.hid hpn
                rw [hpn] at x2
                have HH := Lib.hid (has_l _ _ p0 w s0' (HR.out N (by rw [HL.out]; omega)))
                obtain ⟨hb, hhb⟩ : ∃ b, decide (p0 ∈ (stp l N).rd) = b := ⟨_, rfl⟩
                have HHB := Lib.hid hhb
                rw [hhb] at HH
                obtain ⟨m', hm'⟩ : ∃ n, (stp l N).rd.length = n := ⟨_, rfl⟩
                rw [hm'] at x0 HH
                clear hc' s0' s1' hpn hhb hm'
                cases A with
                | true =>
                  cases R with
                  | true =>
                    go_wp2_with fail
                    refine HH.out.mono ?_
                    rintro e w1 ⟨rfl, rfl⟩
                    go_wp2
                    go_roundw
                    case rel => exact ⟨N + 1, hb, true, by omega, by omega, rfl, rfl, by go_num, trivial, by rw [← HHB.out]; exact HA.out.on hN1, HRr.out.on⟩
                    case measure => simp [intOf]; omega
                  | false =>
                    go_wp2_with fail
                    refine HH.out.mono ?_
                    rintro e w1 ⟨rfl, rfl⟩
                    go_wp2
                    go_roundw
                    case rel => exact ⟨N + 1, hb, (pn == p0), by omega, by omega, rfl, rfl, by go_num, trivial, by rw [← HHB.out]; exact HA.out.on hN1, by rw [← HPN.out]; exact HRr.out.off hN1⟩
                    case measure => simp [intOf]; omega
                | false =>
                  cases R with
                  | true =>
                    go_wp2
                    go_roundw
                    case rel => exact ⟨N + 1, false, true, by omega, by omega, rfl, rfl, by go_num, trivial, HA.out.off, HRr.out.on⟩
                    case measure => simp [intOf]; omega
                  | false =>
                    go_wp2
                    go_roundw
                    case rel => exact ⟨N + 1, false, (pn == p0), by omega, by omega, rfl, rfl, by go_num, trivial, HA.out.off, by rw [← HPN.out]; exact HRr.out.off hN1⟩
                    case measure => simp [intOf]; omega
              · have k1 : ¬ (N : Int) < (i : Int) + (kk : Int) := by omega
                have k2 : decide ((N : Int) < (i : Int) + (kk : Int)) = false := dF k1
                obtain rfl : N = i + kk := by omega
                have HBd := Lib.hid (bad_of HA.out HRr.out)
                have rest : ¬ (A = true ∧ R = false) → ∀ q', q' < q + 1 → ¬ BadR kk l i ((stp l i).rd.getD q' 0) := fun h q' hq' => by
                  by_cases e : q' = q
                  · subst e; rw [HP0.out]; exact fun hb => h (HBd.out.1 hb)
                  · exact HNQ.out q' (by omega)
                have HRest := Lib.hid rest
                clear rest
                cases A with
                | true =>
                  cases R with
                  | true =>
                    go_wp2
                    go_roundw
                    case rel => exact ⟨q + 1, by omega, by go_num, trivial, HRest.out (by simp)⟩
                    case measure => simp [intOf]; omega
                  | false =>
                    go_wp2
                    go_ret
                    refine ⟨false, rfl, ⟨fun h => (by cases h), fun h => ?_⟩, rfl⟩
                    have hbd := HBd.out.2 (by simp)
                    rw [← HP0.out] at hbd
                    exact absurd hbd (h.2 i q (by rw [HL.out]; omega) (by rw [HNn.out]; exact hqn))
                | false =>
                  go_wp2
                  go_roundw
                  case rel => exact ⟨q + 1, by omega, by go_num, trivial, HRest.out (by simp)⟩
                  case measure => simp [intOf]; omega
          · have hqlt : ¬ (q : Int) < (n : Int) := by omega
            obtain rfl : q = n := by omega
            go_wp2
            go_roundw
            case rel =>
              refine ⟨i + 1, by omega, by go_num, trivial, fun i' q' h1 h2 h3 => ?_⟩
              by_cases e : i' = i
              · subst e; exact HNQ.out q' (by rw [← HNn.out]; exact h3)
              · exact HN.out i' q' (by omega) h2 h3
            case measure => simp [intOf]; omega
      · have d1 : decide ((kk : Int) ≤ (L : Int) - (i : Int)) = false := dF (by omega)
        have d2 : ¬ (kk : Int) ≤ (L : Int) - (i : Int) := by omega
        go_wp2
        go_ret
        refine ⟨true, rfl, ⟨fun _ => ⟨by omega, fun i' q h1 h2 => HN.out i' q ?_ ?_ h2⟩, fun _ => rfl⟩, rfl⟩
        · rw [HL.out] at h1; omega
        · rw [HL.out] at h1; omega
end Go.Proofs.Ytpgaifnblafcfaa
