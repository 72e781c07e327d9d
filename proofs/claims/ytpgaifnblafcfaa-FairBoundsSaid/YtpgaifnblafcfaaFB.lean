/-
  Fair, as the program tells it.
-/
import Derived.Test.YtpgaifnblafcfaaFA
set_option linter.unusedVariables false
namespace Go.Proofs.Ytpgaifnblafcfaa
open Go.RowKit Go.BigFrame

/-- In how many steps in a row up to there one was ready, and another one ran. -/
def missAt (l : List Stp) : Nat → Int → Int
  | 0, _ => 0
  | j + 1, p => if p ∈ (stp l j).rd ∧ p ≠ (stp l j).pid then missAt l j p + 1 else 0
theorem missAt_le (l : List Stp) (p : Int) : ∀ j, 0 ≤ missAt l j p ∧ missAt l j p ≤ j
  | 0 => by simp [missAt]
  | j + 1 => by
    have := missAt_le l p j
    unfold missAt
    split <;> omega
def BadP (k : Int) (l : List Stp) (j : Nat) (p : Int) : Prop := p ∈ (stp l j).rd ∧ p ≠ (stp l j).pid ∧ k ≤ missAt l j p + 1
def FairL (k : Int) (l : List Stp) : Prop := 1 ≤ k ∧ ∀ j, j < l.length → ∀ p, ¬ BadP k l j p
/-- What is counted within a step, behind q of those who are ready. -/
def nowF (l : List Stp) (j q : Nat) (p : Int) : Int := if p ∈ (stp l j).rd.take q ∧ p ≠ (stp l j).pid then missAt l j p + 1 else 0
theorem nowF_zero (l : List Stp) (j : Nat) (p : Int) : nowF l j 0 p = 0 := by simp [nowF]
theorem nowF_all (l : List Stp) (j : Nat) (p : Int) : nowF l j (stp l j).rd.length p = missAt l (j + 1) p := by unfold nowF; rw [List.take_length]; rfl
theorem mem_take_succ (xs : List Int) (q : Nat) (hq : q < xs.length) (p : Int) : p ∈ xs.take (q + 1) ↔ p ∈ xs.take q ∨ p = xs.getD q 0 := by
  rw [List.take_succ_eq_append_getElem hq, List.mem_append, List.mem_singleton, List.getD_eq_getElem?_getD, List.getElem?_eq_getElem hq]
  rfl
theorem nowF_put (l : List Stp) (j q : Nat) (hq : q < (stp l j).rd.length) (p0 : Int) (h0 : (stp l j).rd.getD q 0 = p0) (hne : p0 ≠ (stp l j).pid) : ∀ p, putC (nowF l j q) p0 (missAt l j p0 + 1) p = nowF l j (q + 1) p := fun p => by
  unfold putC nowF
  simp only [mem_take_succ _ _ hq, h0]
  by_cases hp : p = p0
  · subst hp; rw [if_pos rfl, if_pos ⟨.inr rfl, hne⟩]
  · rw [if_neg hp]; simp [hp]
theorem nowF_same (l : List Stp) (j q : Nat) (hq : q < (stp l j).rd.length) (h0 : (stp l j).rd.getD q 0 = (stp l j).pid) : ∀ p, nowF l j q p = nowF l j (q + 1) p := fun p => by
  unfold nowF
  simp only [mem_take_succ _ _ hq, h0]
  by_cases hp : p = (stp l j).pid <;> simp [hp]
theorem Sl.get {w : World} {a : Option Addr} {n cap : Nat} {xs : List Int} (h : Sl w (.slice a n cap) xs) {q : Nat} (hq : q < xs.length) : ∃ g off, a = some ⟨g, off, none⟩ ∧ n = xs.length ∧ ∀ w', Touch [] w w' → w'.cell? ⟨g, off + q, none⟩ = some (.int .i64 (xs.getD q 0)) := by
  obtain ⟨a', cap', he, h⟩ := h
  cases he
  rcases h with h | ⟨g, off, rfl, hg, hr⟩
  · subst h; simp at hq
  · exact ⟨g, off, rfl, rfl, fun w' ht => (hr.touch ht hg (by simp)) q hq⟩
def FairP (k : Int) (l : List Stp) (w : World) (e : Ending) (w' : World) : Prop := ∃ bb : Bool, e = .returned (.bool bb) ∧ (bb = true ↔ FairL k l) ∧ Touch [] w w'
set_option maxHeartbeats 16000000 in
theorem fair_q (k : Int) (v : Value) (l : List Stp) (w : World) (h : Sts w v l) (hl : l.length ≤ 1000) (hr : ∀ j, j < l.length → (stp l j).rd.length ≤ 9223372036854775807) :
    Calls Try.prog 7 #[.int .i64 k, v] w (FairP k l w) := by
  obtain ⟨a, cap, rfl⟩ := h.form
  have HS := Lib.hid h
  have HR := Lib.hid hr
  obtain ⟨L, hL⟩ : ∃ L, l.length = L := ⟨_, rfl⟩
  have HL := Lib.hid hL
  rw [hL] at hl ⊢
  clear h hr hL
  by_cases hk : k < 1
  · have d : decide (k < 1) = true := dT hk
    have HK := Lib.hid hk
    clear hk
    go_enter Try.func7, Try.ntmps7
    go_wp2
    go_ret
    exact ⟨false, rfl, ⟨fun h => (by cases h), fun h => (by have := h.1; have := HK.out; omega)⟩, Touch.refl _ _⟩
  · have d : decide (k < 1) = false := dF hk
    have HK := Lib.hid hk
    have hmm := @run_makeMap Try.prog
    clear hk
    go_enter Try.func7, Try.ntmps7
    go_wp2
    go_loopw [5, 16] (fun mv i wr => ∃ (j b : Nat), j ≤ L ∧ i = .int .i64 j ∧ mv = .map (some b) ∧ w.heap.size ≤ b ∧ Mc wr b (missAt l j) ∧ Touch [] w wr ∧ ∀ j', j' < j → ∀ p, ¬ BadP k l j' p) (fun _ i _ => L + 1 - (intOf i).toNat)
    case atStart => exact ⟨0, _, by omega, rfl, rfl, Nat.le_refl _, Mc.new.congr (fun _ => rfl), (Touch.refl _ _).alloc _, fun j' hj => by omega⟩
    case round =>
      obtain ⟨j, b, hj, rfl, rfl, hb, hm, ht, hno⟩ := hrel
      have HM := Lib.hid hm
      have HT := Lib.hid ht
      have HN := Lib.hid hno
      have HB := Lib.hid hb
      clear hm hno hb
      by_cases hjn : j < L
      · have hlt : (j : Int) < (L : Int) := by omega
        obtain ⟨g, off, ha, c0, c1, s0, s1, hc⟩ := HS.out.at (i := j) (by rw [HL.out]; exact hjn)
        obtain ⟨d0, d1, d2⟩ := hc _ ht
        obtain ⟨a0, n0, rfl⟩ := s0.form
        obtain ⟨a1, n1, rfl⟩ := s1.form
        have HS0 := Lib.hid s0
        obtain ⟨n, hn⟩ : ∃ n, (stp l j).rd.length = n := ⟨_, rfl⟩
        have HNn := Lib.hid hn
        have hn6 : n ≤ 9223372036854775807 := by rw [← hn]; exact HR.out j (by rw [HL.out]; exact hjn)
        obtain ⟨pd, hpd⟩ : ∃ n, (stp l j).pid = n := ⟨_, rfl⟩
        have HP := Lib.hid hpd
        subst ha
        rw [hn] at d0
        rw [hpd] at d2
        clear ht hc s0 s1 hn hpd
        go_wp2_with fail
        obtain ⟨X, hX⟩ : ∃ X, wr.heap.size = X := ⟨_, rfl⟩
        have HXw : Hid (w.heap.size ≤ X) := Lib.hid (by have := HT.out.size; omega)
        have HbX : Hid (b < X) := Lib.hid (by have := HM.out.lt; omega)
        have ht2 : Touch [] wr ((wr.alloc (.cells #[.slice a0 n n0, .slice a1 (stp l j).ho.length n1, .int .i64 pd] 25)).alloc (.map #[] 0)) := ((Touch.refl _ _).alloc _).alloc _
        have HM2 := Lib.hid (HM.out.touch ht2 (by simp))
        have HNW : Hid (Mc ((wr.alloc (.cells #[.slice a0 n n0, .slice a1 (stp l j).ho.length n1, .int .i64 pd] 25)).alloc (.map #[] 0)) (X + 1) (nowF l j 0)) := Lib.hid (by
          have := (Mc.new (w := wr.alloc (.cells #[.slice a0 n n0, .slice a1 (stp l j).ho.length n1, .int .i64 pd] 25))).congr (c' := nowF l j 0) (fun p => (nowF_zero l j p).symm)
          rw [show (wr.alloc (.cells #[.slice a0 n n0, .slice a1 (stp l j).ho.length n1, .int .i64 pd] 25)).heap.size = X + 1 from by simp [hX]] at this
          exact this)
        have HBX : Hid (Blk ((wr.alloc (.cells #[.slice a0 n n0, .slice a1 (stp l j).ho.length n1, .int .i64 pd] 25)).alloc (.map #[] 0)) X #[.slice a0 n n0, .slice a1 (stp l j).ho.length n1, .int .i64 pd] 25) := Lib.hid ((Blk.new hX.symm).alloc _)
        have HT2 := Lib.hid (HT.out.trans ht2)
        obtain ⟨W2, hW2⟩ : ∃ W2, ((wr.alloc (.cells #[.slice a0 n n0, .slice a1 (stp l j).ho.length n1, .int .i64 pd] 25)).alloc (.map #[] 0)) = W2 := ⟨_, rfl⟩
        rw [hW2] at HM2 HNW HBX HT2 ⊢
        rw [hX]
        clear ht2 hW2 hX d0 d1 d2 HM HT
        go_loopw [24] (fun i wi => ∃ q : Nat, q ≤ n ∧ i = .int .i64 q ∧ Mc wi b (missAt l j) ∧ Mc wi (X + 1) (nowF l j q) ∧ Blk wi X #[.slice a0 n n0, .slice a1 (stp l j).ho.length n1, .int .i64 pd] 25 ∧ Touch [] w wi ∧ ∀ q', q' < q → ¬ BadP k l j ((stp l j).rd.getD q' 0)) (fun i _ => n + 1 - (intOf i).toNat)
        case atStart => exact ⟨0, by omega, rfl, HM2.out, HNW.out, HBX.out, HT2.out, fun q' hq => by omega⟩
        case round =>
          clear HM2 HNW HBX HT2
          obtain ⟨q, hq, rfl, hm, hnw, hbx, ht, hnq⟩ := hrel
          have HM := Lib.hid hm
          have HT := Lib.hid ht
          have HNQ := Lib.hid hnq
          have HBX := Lib.hid hbx
          clear hnq
          by_cases hqn : q < n
          · have hqlt : (q : Int) < (n : Int) := by omega
            have hqr : q < (stp l j).rd.length := by rw [HNn.out]; exact hqn
            obtain ⟨lg, lo, ha0, _, hc⟩ := Sl.get HS0.out hqr
            subst ha0
            have e0 := hc _ ht
            have x2 := hbx.cell (i := 2) rfl
            obtain ⟨p0, hp0⟩ : ∃ p, (stp l j).rd.getD q 0 = p := ⟨_, rfl⟩
            rw [hp0] at e0
            have HP0 := Lib.hid hp0
            have HQR := Lib.hid hqr
            by_cases hpp : p0 = pd
            · have q1 : (p0 != pd) = false := bneF hpp
              have HPP := Lib.hid hpp
              have hlk := hnw.look p0
              have hz : nowF l j q p0 = 0 := by
                unfold nowF
                rw [if_neg (fun h => h.2 (by rw [HP.out]; exact hpp))]
              rw [hz] at hlk
              have HNW := Lib.hid (hnw.congr (nowF_same l j q hqr (by rw [hp0, HP.out]; exact hpp)))
              have d4 : decide (k ≤ 0) = false := dF (by have := HK.out; omega)
              clear hm hnw hbx ht hc hp0 hqr hz hpp
              go_wp2
              go_roundw
              case rel =>
                refine ⟨q + 1, by omega, by go_num, HM.out, HNW.out, HBX.out, HT.out, fun q' hq' => ?_⟩
                by_cases e : q' = q
                · subst e
                  rw [HP0.out]
                  exact fun hb => hb.2.1 (by rw [HP.out]; exact HPP.out)
                · exact HNQ.out q' (by omega)
              case measure => simp [intOf]; omega
            · have q1 : (p0 != pd) = true := bneT hpp
              have HPP := Lib.hid hpp
              have hlk := hm.look p0
              obtain ⟨mi, hmi⟩ : ∃ m, missAt l j p0 = m := ⟨_, rfl⟩
              have hml := missAt_le l p0 j
              rw [hmi] at hlk hml
              have v1 : IntKind.i64.wrap (mi + 1) = mi + 1 := IntWalk.i64_in _ (by omega)
              obtain ⟨w2, hup, hnw2, t2, hs2⟩ := hnw.put p0 (mi + 1)
              have hlk2 := hnw2.look p0
              rw [show putC (nowF l j q) p0 (mi + 1) p0 = mi + 1 from if_pos rfl] at hlk2
              have HNW := Lib.hid (hnw2.congr (c' := nowF l j (q + 1)) (fun p => by rw [← hmi]; exact nowF_put l j q hqr p0 hp0 (by rw [HP.out]; exact hpp) p))
              have HM2 := Lib.hid (hm.touch t2 (by simp; have := HbX.out; omega))
              have HBX2 := Lib.hid (hbx.touch t2 (by simp))
              have HT2 : Hid (Touch [] w w2) := Lib.hid (ht.transF t2 (fun i hi hlt => by simp at hi; have := HXw.out; omega))
              have x2' := HBX2.out.cell (i := 2) rfl
              have HMI := Lib.hid hmi
              have HMM : Hid (p0 ∈ (stp l j).rd) := Lib.hid (by
                rw [← hp0, List.getD_eq_getElem?_getD, List.getElem?_eq_getElem hqr]
                exact List.getElem_mem _)
              clear hm hnw hnw2 hbx ht hc hp0 hqr hmi t2 hs2 hpp hml
              by_cases hkm : k ≤ mi + 1
              · have d4 : decide (k ≤ mi + 1) = true := dT hkm
                have HKM := Lib.hid hkm
                clear hkm
                go_wp2
                go_ret
                refine ⟨false, rfl, ⟨fun h => (by cases h), fun h => ?_⟩, HT2.out⟩
                exact absurd ⟨HMM.out, by rw [HP.out]; exact HPP.out, by rw [HMI.out]; exact HKM.out⟩ (h.2 j (by rw [HL.out]; exact hjn) p0)
              · have d4 : decide (k ≤ mi + 1) = false := dF hkm
                have HKM := Lib.hid hkm
                clear hkm
                go_wp2
                go_roundw
                case rel =>
                  refine ⟨q + 1, by omega, by go_num, HM2.out, HNW.out, HBX2.out, HT2.out, fun q' hq' => ?_⟩
                  by_cases e : q' = q
                  · subst e
                    rw [HP0.out]
                    exact fun hb => HKM.out (by have := hb.2.2; rw [HMI.out] at this; exact this)
                  · exact HNQ.out q' (by omega)
                case measure => simp [intOf]; omega
          · have hqlt : ¬ (q : Int) < (n : Int) := by omega
            obtain rfl : q = n := by omega
            have HNW := Lib.hid (hnw.congr (c' := missAt l (j + 1)) (fun p => by rw [← HNn.out]; exact nowF_all l j p))
            clear hm hnw hbx ht
            go_wp2
            go_roundw
            case rel =>
              refine ⟨j + 1, X + 1, by omega, by go_num, rfl, by have := HXw.out; omega, HNW.out, HT.out, fun j' hj' p => ?_⟩
              by_cases e : j' = j
              · subst e
                intro hb
                obtain ⟨q', hq', e'⟩ := List.getElem_of_mem hb.1
                refine HNQ.out q' (by rw [← HNn.out]; exact hq') ?_
                rw [List.getD_eq_getElem?_getD, List.getElem?_eq_getElem hq']
                show BadP k l j' _
                rw [show (some (stp l j').rd[q']).getD 0 = p from e']
                exact hb
              · exact HN.out j' (by omega) p
            case measure => simp [intOf]; omega
      · have hlt : ¬ (j : Int) < (L : Int) := by omega
        clear ht
        go_wp2
        go_ret
        refine ⟨true, rfl, ⟨fun _ => ⟨by have := HK.out; omega, fun j' hj' => HN.out j' (by rw [HL.out] at hj'; omega)⟩, fun _ => rfl⟩, HT.out⟩
end Go.Proofs.Ytpgaifnblafcfaa
