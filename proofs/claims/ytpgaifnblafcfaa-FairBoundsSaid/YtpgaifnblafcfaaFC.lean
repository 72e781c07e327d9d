/-
  Work, as the program tells it.
-/
import Derived.Test.YtpgaifnblafcfaaFB
set_option linter.unusedVariables false
namespace Go.Proofs.Ytpgaifnblafcfaa
open Go.RowKit Go.BigFrame

/-- How many steps one has done in the spell that goes on. -/
def doneAt (l : List Stp) : Nat → Int → Int
  | 0, _ => 0
  | j + 1, p => if p ∈ (stp l j).ho then doneAt l j p + (if p = (stp l j).pid then 1 else 0) else 0
theorem doneAt_le (l : List Stp) (p : Int) : ∀ j, 0 ≤ doneAt l j p ∧ doneAt l j p ≤ j
  | 0 => by simp [doneAt]
  | j + 1 => by
    have := doneAt_le l p j
    unfold doneAt
    by_cases h : p ∈ (stp l j).ho
    · rw [if_pos h]; split <;> omega
    · rw [if_neg h]; omega
def nowW (l : List Stp) (j q : Nat) (p : Int) : Int := if p ∈ (stp l j).ho.take q then doneAt l j p + (if p = (stp l j).pid then 1 else 0) else 0
theorem nowW_zero (l : List Stp) (j : Nat) (p : Int) : nowW l j 0 p = 0 := by simp [nowW]
theorem nowW_all (l : List Stp) (j : Nat) (p : Int) : nowW l j (stp l j).ho.length p = doneAt l (j + 1) p := by unfold nowW; rw [List.take_length]; rfl
theorem nowW_put (l : List Stp) (j q : Nat) (hq : q < (stp l j).ho.length) (p0 : Int) (h0 : (stp l j).ho.getD q 0 = p0) (hne : p0 ≠ (stp l j).pid) : ∀ p, putC (nowW l j q) p0 (doneAt l j p0) p = nowW l j (q + 1) p := fun p => by
  unfold putC nowW
  simp only [mem_take_succ _ _ hq, h0]
  by_cases hp : p = p0
  · subst hp; rw [if_pos rfl, if_pos (.inr rfl), if_neg hne]; omega
  · rw [if_neg hp]; simp [hp]
theorem nowW_put2 (l : List Stp) (j q : Nat) (hq : q < (stp l j).ho.length) (p0 : Int) (h0 : (stp l j).ho.getD q 0 = p0) (he : p0 = (stp l j).pid) (x : Int) : ∀ p, putC (putC (nowW l j q) p0 x) p0 (doneAt l j p0 + 1) p = nowW l j (q + 1) p := fun p => by
  unfold putC nowW
  simp only [mem_take_succ _ _ hq, h0]
  by_cases hp : p = p0
  · subst hp; rw [if_pos rfl, if_pos (.inr rfl), if_pos he]
  · rw [if_neg hp, if_neg hp]; simp [hp]
/-- B is the greatest of these values, up to there. -/
def WUp (val : Nat → Int → Int) (l : List Stp) (j q : Nat) (B : Int) : Prop :=
  0 ≤ B ∧ (∀ j' q', (j' < j ∨ (j' = j ∧ q' < q)) → q' < (stp l j').ho.length → val j' ((stp l j').ho.getD q' 0) ≤ B) ∧ (B = 0 ∨ ∃ j' q', (j' < j ∨ (j' = j ∧ q' < q)) ∧ q' < (stp l j').ho.length ∧ B = val j' ((stp l j').ho.getD q' 0))
theorem WUp.zero (val : Nat → Int → Int) (l : List Stp) : WUp val l 0 0 0 := ⟨Int.le_refl _, fun j' q' h => by omega, .inl rfl⟩
theorem WUp.keep {val : Nat → Int → Int} {l : List Stp} {j q : Nat} {B : Int} (h : WUp val l j q B) (hx : ¬ B < val j ((stp l j).ho.getD q 0)) : WUp val l j (q + 1) B := by
  refine ⟨h.1, fun j' q' hj hq => ?_, ?_⟩
  · by_cases e : j' = j ∧ q' = q
    · obtain ⟨rfl, rfl⟩ := e; omega
    · exact h.2.1 j' q' (by omega) hq
  · rcases h.2.2 with e | ⟨j', q', h1, h2, h3⟩
    · exact .inl e
    · exact .inr ⟨j', q', by omega, h2, h3⟩
theorem WUp.more {val : Nat → Int → Int} {l : List Stp} {j q : Nat} {B : Int} (h : WUp val l j q B) (hq : q < (stp l j).ho.length) (hx : B < val j ((stp l j).ho.getD q 0)) : WUp val l j (q + 1) (val j ((stp l j).ho.getD q 0)) := by
  refine ⟨by have := h.1; omega, fun j' q' hj hq' => ?_, .inr ⟨j, q, by omega, hq, rfl⟩⟩
  by_cases e : j' = j ∧ q' = q
  · obtain ⟨rfl, rfl⟩ := e; omega
  · have := h.2.1 j' q' (by omega) hq'; omega
theorem WUp.next {val : Nat → Int → Int} {l : List Stp} {j : Nat} {B : Int} (h : WUp val l j (stp l j).ho.length B) : WUp val l (j + 1) 0 B := by
  refine ⟨h.1, fun j' q' hj hq => h.2.1 j' q' ?_ hq, ?_⟩
  · by_cases e : j' = j
    · subst e; exact .inr ⟨rfl, hq⟩
    · exact .inl (by omega)
  · rcases h.2.2 with e | ⟨j', q', h1, h2, h3⟩
    · exact .inl e
    · exact .inr ⟨j', q', by omega, h2, h3⟩
def WorkP (val : Nat → Int → Int) (l : List Stp) (w : World) (e : Ending) (w' : World) : Prop := ∃ B : Int, e = .returned (.int .i64 B) ∧ WUp val l l.length 0 B ∧ Touch [] w w'
set_option maxHeartbeats 16000000 in
theorem work_q (v : Value) (l : List Stp) (w : World) (h : Sts w v l) (hl : l.length ≤ 1000) (hr : ∀ j, j < l.length → (stp l j).ho.length ≤ 9223372036854775807) :
    Calls Try.prog 9 #[v] w (WorkP (fun j => doneAt l (j + 1)) l w) := by
  obtain ⟨a, cap, rfl⟩ := h.form
  have HS := Lib.hid h
  have HR := Lib.hid hr
  obtain ⟨L, hL⟩ : ∃ L, l.length = L := ⟨_, rfl⟩
  have HL := Lib.hid hL
  rw [hL] at hl ⊢
  clear h hr hL
  have hmm := @run_makeMap Try.prog
  go_enter Try.func9, Try.ntmps9
  go_wp2
  go_loopw [3, 4, 13] (fun bv mv i wr => ∃ (j b : Nat) (B : Int), j ≤ L ∧ bv = .int .i64 B ∧ i = .int .i64 j ∧ mv = .map (some b) ∧ w.heap.size ≤ b ∧ Mc wr b (doneAt l j) ∧ Touch [] w wr ∧ WUp (fun j => doneAt l (j + 1)) l j 0 B) (fun _ _ i _ => L + 1 - (intOf i).toNat)
  case atStart => exact ⟨0, _, 0, by omega, rfl, rfl, rfl, Nat.le_refl _, Mc.new.congr (fun _ => rfl), (Touch.refl _ _).alloc _, WUp.zero _ _⟩
  case round =>
    obtain ⟨j, b, B, hj, rfl, rfl, rfl, hb, hm, ht, hno⟩ := hrel
    have HM := Lib.hid hm
    have HT := Lib.hid ht
    have HU := Lib.hid hno
    have HB := Lib.hid hb
    clear hm hno hb
    by_cases hjn : j < L
    · have hlt : (j : Int) < (L : Int) := by omega
      obtain ⟨g, off, ha, c0, c1, s0, s1, hc⟩ := HS.out.at (i := j) (by rw [HL.out]; exact hjn)
      obtain ⟨d0, d1, d2⟩ := hc _ ht
      obtain ⟨a0, n0, rfl⟩ := s0.form
      obtain ⟨a1, n1, rfl⟩ := s1.form
      have HS1 := Lib.hid s1
      obtain ⟨n, hn⟩ : ∃ n, (stp l j).ho.length = n := ⟨_, rfl⟩
      have HNn := Lib.hid hn
      have hn6 : n ≤ 9223372036854775807 := by rw [← hn]; exact HR.out j (by rw [HL.out]; exact hjn)
      obtain ⟨pd, hpd⟩ : ∃ n, (stp l j).pid = n := ⟨_, rfl⟩
      have HP := Lib.hid hpd
      subst ha
      rw [hn] at d1
      rw [hpd] at d2
      clear ht hc s0 s1 hn hpd
      go_wp2_with fail
      obtain ⟨X, hX⟩ : ∃ X, wr.heap.size = X := ⟨_, rfl⟩
      have HXw : Hid (w.heap.size ≤ X) := Lib.hid (by have := HT.out.size; omega)
      have HbX : Hid (b < X) := Lib.hid (by have := HM.out.lt; omega)
      have ht2 : Touch [] wr ((wr.alloc (.cells #[.slice a0 (stp l j).rd.length n0, .slice a1 n n1, .int .i64 pd] 25)).alloc (.map #[] 0)) := ((Touch.refl _ _).alloc _).alloc _
      have HM2 := Lib.hid (HM.out.touch ht2 (by simp))
      have HNW : Hid (Mc ((wr.alloc (.cells #[.slice a0 (stp l j).rd.length n0, .slice a1 n n1, .int .i64 pd] 25)).alloc (.map #[] 0)) (X + 1) (nowW l j 0)) := Lib.hid (by
        have := (Mc.new (w := wr.alloc (.cells #[.slice a0 (stp l j).rd.length n0, .slice a1 n n1, .int .i64 pd] 25))).congr (c' := nowW l j 0) (fun p => (nowW_zero l j p).symm)
        rw [show (wr.alloc (.cells #[.slice a0 (stp l j).rd.length n0, .slice a1 n n1, .int .i64 pd] 25)).heap.size = X + 1 from by simp [hX]] at this
        exact this)
      have HBX : Hid (Blk ((wr.alloc (.cells #[.slice a0 (stp l j).rd.length n0, .slice a1 n n1, .int .i64 pd] 25)).alloc (.map #[] 0)) X #[.slice a0 (stp l j).rd.length n0, .slice a1 n n1, .int .i64 pd] 25) := Lib.hid ((Blk.new hX.symm).alloc _)
      have HT2 := Lib.hid (HT.out.trans ht2)
      obtain ⟨W2, hW2⟩ : ∃ W2, ((wr.alloc (.cells #[.slice a0 (stp l j).rd.length n0, .slice a1 n n1, .int .i64 pd] 25)).alloc (.map #[] 0)) = W2 := ⟨_, rfl⟩
      rw [hW2] at HM2 HNW HBX HT2 ⊢
      rw [hX]
      clear ht2 hW2 hX d0 d1 d2 HM HT
      go_loopw [3, 21] (fun bv i wi => ∃ (q : Nat) (B : Int), q ≤ n ∧ bv = .int .i64 B ∧ i = .int .i64 q ∧ Mc wi b (doneAt l j) ∧ Mc wi (X + 1) (nowW l j q) ∧ Blk wi X #[.slice a0 (stp l j).rd.length n0, .slice a1 n n1, .int .i64 pd] 25 ∧ Touch [] w wi ∧ WUp (fun j => doneAt l (j + 1)) l j q B) (fun _ i _ => n + 1 - (intOf i).toNat)
      case atStart => exact ⟨0, B, by omega, rfl, rfl, HM2.out, HNW.out, HBX.out, HT2.out, HU.out⟩
      case round =>
        clear HM2 HNW HBX HT2 HU
        obtain ⟨q, B, hq, rfl, rfl, hm, hnw, hbx, ht, hnq⟩ := hrel
        have HM := Lib.hid hm
        have HT := Lib.hid ht
        have HU := Lib.hid hnq
        have HBX := Lib.hid hbx
        clear hnq
        by_cases hqn : q < n
        · have hqlt : (q : Int) < (n : Int) := by omega
          have hqr : q < (stp l j).ho.length := by rw [HNn.out]; exact hqn
          obtain ⟨lg, lo, ha0, _, hc⟩ := Sl.get HS1.out hqr
          subst ha0
          have e0 := hc _ ht
          have x2 := hbx.cell (i := 2) rfl
          obtain ⟨p0, hp0⟩ : ∃ p, (stp l j).ho.getD q 0 = p := ⟨_, rfl⟩
          rw [hp0] at e0
          have HP0 := Lib.hid hp0
          have HQR := Lib.hid hqr
          have HMM : p0 ∈ (stp l j).ho := by
            rw [← hp0, List.getD_eq_getElem?_getD, List.getElem?_eq_getElem hqr]
            exact List.getElem_mem _
          have hlk := hm.look p0
          obtain ⟨mi, hmi⟩ : ∃ m, doneAt l j p0 = m := ⟨_, rfl⟩
          have hml := doneAt_le l p0 j
          rw [hmi] at hlk hml
          have v1 : IntKind.i64.wrap (mi + 1) = mi + 1 := IntWalk.i64_in _ (by omega)
          obtain ⟨w2, hup, hnw2, t2, hs2⟩ := hnw.put p0 mi
          have hlk2 := hnw2.look p0
          rw [show putC (nowW l j q) p0 mi p0 = mi from if_pos rfl] at hlk2
          have hm2 := hm.touch t2 (by simp; have := HbX.out; omega)
          have hbx2 := hbx.touch t2 (by simp)
          have ht2 : Touch [] w w2 := ht.transF t2 (fun i hi hlt => by simp at hi; have := HXw.out; omega)
          have x2' := hbx2.cell (i := 2) rfl
          by_cases hpp : p0 = pd
          · have q1 : (p0 == pd) = true := beqT hpp
            obtain ⟨w3, hup2, hnw3, t3, hs3⟩ := hnw2.put p0 (mi + 1)
            have hlk3 := hnw3.look p0
            rw [show putC (putC (nowW l j q) p0 mi) p0 (mi + 1) p0 = mi + 1 from if_pos rfl] at hlk3
            have HNW := Lib.hid (hnw3.congr (c' := nowW l j (q + 1)) (fun p => by rw [← hmi]; exact nowW_put2 l j q hqr p0 hp0 (by rw [HP.out]; exact hpp) _ p))
            have HM2 := Lib.hid (hm2.touch t3 (by simp; have := HbX.out; omega))
            have HBX2 := Lib.hid (hbx2.touch t3 (by simp))
            have HT2 : Hid (Touch [] w w3) := Lib.hid (ht2.transF t3 (fun i hi hlt => by simp at hi; have := HXw.out; omega))
            have HV : Hid (doneAt l (j + 1) ((stp l j).ho.getD q 0) = mi + 1) := Lib.hid (by rw [hp0]; unfold doneAt; rw [if_pos HMM, if_pos (by rw [HP.out]; exact hpp), hmi])
            clear hm hnw hnw2 hnw3 hbx hbx2 ht ht2 hc hp0 hqr hmi t2 hs2 t3 hs3 hpp hml hm2 HMM
            by_cases hBx : B < mi + 1
            · have HL2 := Lib.hid (HU.out.more HQR.out (by show B < doneAt l (j + 1) _; rw [HV.out]; exact hBx))
              go_wp2
              go_roundw
              case rel => exact ⟨q + 1, mi + 1, by omega, rfl, by go_num, HM2.out, HNW.out, HBX2.out, HT2.out, by have := HL2.out; simp only [HV.out] at this; exact this⟩
              case measure => simp [intOf]; omega
            · have HL2 := Lib.hid (HU.out.keep (by show ¬ B < doneAt l (j + 1) _; rw [HV.out]; exact hBx))
              go_wp2
              go_roundw
              case rel => exact ⟨q + 1, B, by omega, rfl, by go_num, HM2.out, HNW.out, HBX2.out, HT2.out, HL2.out⟩
              case measure => simp [intOf]; omega
          · have q1 : (p0 == pd) = false := beqF hpp
            have HNW := Lib.hid (hnw2.congr (c' := nowW l j (q + 1)) (fun p => by rw [← hmi]; exact nowW_put l j q hqr p0 hp0 (by rw [HP.out]; exact hpp) p))
            have HM2 := Lib.hid hm2
            have HBX2 := Lib.hid hbx2
            have HT2 := Lib.hid ht2
            have HV : Hid (doneAt l (j + 1) ((stp l j).ho.getD q 0) = mi) := Lib.hid (by rw [hp0]; unfold doneAt; rw [if_pos HMM, if_neg (by rw [HP.out]; exact hpp), hmi]; omega)
            clear hm hnw hnw2 hbx hbx2 ht ht2 hc hp0 hqr hmi t2 hs2 hpp hml hm2 HMM v1
            by_cases hBx : B < mi
            · have HL2 := Lib.hid (HU.out.more HQR.out (by show B < doneAt l (j + 1) _; rw [HV.out]; exact hBx))
              go_wp2
              go_roundw
              case rel => exact ⟨q + 1, mi, by omega, rfl, by go_num, HM2.out, HNW.out, HBX2.out, HT2.out, by have := HL2.out; simp only [HV.out] at this; exact this⟩
              case measure => simp [intOf]; omega
            · have HL2 := Lib.hid (HU.out.keep (by show ¬ B < doneAt l (j + 1) _; rw [HV.out]; exact hBx))
              go_wp2
              go_roundw
              case rel => exact ⟨q + 1, B, by omega, rfl, by go_num, HM2.out, HNW.out, HBX2.out, HT2.out, HL2.out⟩
              case measure => simp [intOf]; omega
        · have hqlt : ¬ (q : Int) < (n : Int) := by omega
          obtain rfl : q = n := by omega
          have HNW := Lib.hid (hnw.congr (c' := doneAt l (j + 1)) (fun p => by rw [← HNn.out]; exact nowW_all l j p))
          clear hm hnw hbx ht
          go_wp2
          go_roundw
          case rel => exact ⟨j + 1, X + 1, B, by omega, rfl, by go_num, rfl, by have := HXw.out; omega, HNW.out, HT.out, WUp.next (by rw [HNn.out]; exact HU.out)⟩
          case measure => simp [intOf]; omega
    · have hlt : ¬ (j : Int) < (L : Int) := by omega
      obtain rfl : j = L := by omega
      clear ht
      go_wp2
      go_ret
      exact ⟨B, rfl, by rw [HL.out]; exact HU.out, HT.out⟩
end Go.Proofs.Ytpgaifnblafcfaa
