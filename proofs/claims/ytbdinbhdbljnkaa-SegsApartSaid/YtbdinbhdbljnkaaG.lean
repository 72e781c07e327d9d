/-
  Segments of words: step by step as the reference's.
-/
import Derived.Test.YtbdinbhdbljnkaaF
import Derived.Deep.RegionHeld3
set_option linter.unusedVariables false
namespace Go.Proofs.Ytbdinbhdbljnkaa
open Go.RowKit

theorem least_or (f : Nat → Bool) (x : Bool) (n : Nat) : (∀ j, j < n → f j = !x) ∨ ∃ k, k < n ∧ f k = x ∧ ∀ j, j < k → f j = !x := by
  induction n with
  | zero => exact .inl (fun j hj => by omega)
  | succ n ih =>
    rcases ih with h | ⟨k, h1, h2, h3⟩
    · by_cases hf : f n = x
      · exact .inr ⟨n, by omega, hf, h⟩
      · refine .inl (fun j hj => ?_)
        by_cases e : j = n
        · subst e; cases h2 : f j <;> cases x <;> simp_all
        · exact h j (by omega)
    · exact .inr ⟨k, by omega, h2, h3⟩
theorem given_or (a s z : Int) (f : Nat → Bool) (n : Nat) : (∃ k, k < n ∧ f k = true ∧ a + k * s = z) ∨ ∀ k, k < n → f k = true → a + (k : Int) * s ≠ z := by
  by_cases h : ∃ k, k < n ∧ f k = true ∧ a + (k : Int) * s = z
  · exact .inl h
  · exact .inr (fun k h1 h2 h3 => h ⟨k, h1, h2, h3⟩)
theorem free_len (b g : Nat) (a s : Int) (n : Nat) (f : Nat → Bool) (w : World) (hz : Sz a s n) (h : Sg 43 w b g a s n f) :
    Calls Try.prog 15 #[.pointer (some ⟨b, 0, none⟩)] w fun e w' => e = .returned (.int .i64 ((n : Int) - ((tkL a s f n).length : Int))) ∧ Touch [] w w' :=
  (free_any b g a s n f w hz h).mono fun _ _ ⟨he, ht⟩ => ⟨by rw [he]; exact ret_int (by have := tkL_len a s f n; omega), ht⟩

/-- Both of them, in one world. -/
structure Two (w0 w : World) (b g b' g' : Nat) (a s : Int) (n : Nat) (f : Nat → Bool) : Prop where
  p : Sg 43 w b g a s n f
  r : Sg 37 w b' g' a s n f
  t : Touch [] w0 w
structure Apart4 (w0 : World) (b g b' g' : Nat) : Prop where
  n1 : b' ≠ b
  n2 : b' ≠ g
  n3 : g' ≠ b
  n4 : g' ≠ g
  l1 : w0.heap.size ≤ g
  l2 : w0.heap.size ≤ g'
theorem Two.touch {w0 w w' : World} {b g b' g' : Nat} {a s : Int} {n : Nat} {f : Nat → Bool} (h : Two w0 w b g b' g' a s n f) (ht : Touch [] w w') : Two w0 w' b g b' g' a s n f :=
  ⟨h.p.touch ht (by simp) (by simp), h.r.touch ht (by simp) (by simp), h.t.trans ht⟩
theorem Two.step {w0 w w1 w2 : World} {b g b' g' : Nat} {a s : Int} {n : Nat} {f f' : Nat → Bool} (ha : Apart4 w0 b g b' g') (h : Two w0 w b g b' g' a s n f)
    (h1 : Sg 43 w1 b g a s n f') (t1 : Touch [g] w w1) (h2 : Sg 37 w2 b' g' a s n f') (t2 : Touch [g'] w1 w2) : Two w0 w2 b g b' g' a s n f' :=
  ⟨h1.touch t2 (by simpa using Ne.symm ha.n3) (by simpa using Ne.symm ha.n4), h2, (h.t.transF t1 (fun i hi hl => by simp at hi; have := ha.l1; omega)).transF t2 (fun i hi hl => by simp at hi; have := ha.l2; omega)⟩
theorem Two.mid {w0 w w1 : World} {b g b' g' : Nat} {a s : Int} {n : Nat} {f f' : Nat → Bool} (ha : Apart4 w0 b g b' g') (h : Two w0 w b g b' g' a s n f) (t1 : Touch [g] w w1) : Sg 37 w1 b' g' a s n f :=
  h.r.touch t1 (by simpa using ha.n2) (by simpa using ha.n4)

set_option maxRecDepth 100000 in
set_option maxHeartbeats 4000000 in
theorem plays_long (a t s : Int) (v : Value) (zs : List Int) (w : World) (hs : Sl w v zs) (hm : zs.length ≤ maxLen) (h : 80 < zs.length) :
    Calls Try.prog 3 #[.int .i64 a, .int .i64 t, .int .i64 s, v] w fun e w' => e = .returned (.bool true) ∧ Below w.heap.size w w' := by
  obtain ⟨ad, cap, rfl, _⟩ := hs
  unfold maxLen at hm
  obtain ⟨n, hn⟩ : ∃ n, zs.length = n := ⟨_, rfl⟩
  rw [hn] at h hm ⊢
  clear hn
  have d : decide ((80 : Int) < (n : Int)) = true := dT (by omega)
  go_enter Try.func3, Try.ntmps3
  go_wp2_with fail
  refine (awake_any _).mono ?_
  rintro e w1 ⟨rfl, ht⟩
  go_wp2
  go_ret
  exact ⟨rfl, ht.below (Nat.le_refl _) (by simp)⟩

set_option maxRecDepth 100000 in
set_option maxHeartbeats 4000000 in
theorem plays_bad (a t s : Int) (v : Value) (zs : List Int) (w : World) (hs : Sl w v zs) (h : zs.length ≤ 80) (hb : BadN a t s) :
    Calls Try.prog 3 #[.int .i64 a, .int .i64 t, .int .i64 s, v] w fun e w' => e = .returned (.bool true) ∧ Below w.heap.size w w' := by
  obtain ⟨ad, cap, rfl, _⟩ := hs
  have HB := Lib.hid hb
  clear hb
  obtain ⟨n, hn⟩ : ∃ n, zs.length = n := ⟨_, rfl⟩
  rw [hn] at h ⊢
  clear hn
  have d : decide ((80 : Int) < (n : Int)) = false := dF (by omega)
  go_enter Try.func3, Try.ntmps3
  go_wp2_with fail
  refine (new_bad a t s _ HB.out).mono ?_
  rintro e w2 ⟨rfl, rfl⟩
  go_wp2_with fail
  refine (rnew_bad a t s _ HB.out).mono ?_
  rintro e w2 ⟨rfl, rfl⟩
  go_wp2_with fail
  refine wp_loop_rounds 1 ?_
  rw [rounds_succ]
  by_cases h0 : (0 : Int) < (n : Int)
  all_goals
    go_wp2_with fail
    refine (awake_any _).mono ?_
    rintro e w3 ⟨rfl, ht⟩
    go_wp2
    go_ret
    exact ⟨rfl, ht.below (Nat.le_refl _) (by simp)⟩

set_option maxRecDepth 100000 in
set_option maxHeartbeats 32000000 in
theorem plays_in (a t s : Int) (n : Nat) (v : Value) (zs : List Int) (w : World) (hs : Sl w v zs) (hu : ∀ y ∈ zs, InI y) (h : zs.length ≤ 80)
    (h0 : 0 ≤ a) (h1 : a ≤ t) (h2 : t ≤ 8192) (h3 : 1 ≤ s) (h4 : s ≤ 8192) (hn : (t - a) / s = n) (hn2 : n ≤ 8192) (hz : Sz a s n) :
    Calls Try.prog 3 #[.int .i64 a, .int .i64 t, .int .i64 s, v] w fun e w' => e = .returned (.bool true) ∧ Below w.heap.size w w' := by
  have HZ := Lib.hid hz
  have HC := Lib.hid (fun w => new_ok a t s n w h0 h1 h2 h3 h4 hn hn2)
  have HCR := Lib.hid (fun w => rnew_ok a t s n w h0 h1 h2 h3 h4 hn hn2)
  have HU := Lib.hid hu
  obtain ⟨ad, cap, rfl, hrow⟩ := hs
  have HR := Lib.hid hrow
  obtain ⟨len, hlen⟩ : ∃ len, zs.length = len := ⟨_, rfl⟩
  have HL := Lib.hid hlen
  rw [hlen] at h ⊢
  clear hz hn hu hrow hlen h0 h1 h2
  have d : decide ((80 : Int) < (len : Int)) = false := dF (by omega)
  go_enter Try.func3, Try.ntmps3
  go_wp2_with fail
  refine (HC.out _).mono ?_
  rintro e w1 ⟨b, g, rfl, hs, hb, hg, ht⟩
  have HS := Lib.hid hs
  have HG := Lib.hid hg
  have HT := Lib.hid ht
  clear hs hb hg ht
  go_wp2_with fail
  refine (HCR.out _).mono ?_
  rintro e w2 ⟨b', g', rfl, hs, hb, hg, ht⟩
  have HA4 : Hid (Apart4 w b g b' g') := Lib.hid (by
    have l1 := HS.out.obj.lt
    have l2 := HS.out.row.lt
    have l3 := HT.out.size
    exact ⟨by omega, by omega, by omega, by omega, HG.out, by omega⟩)
  have HB0 : Hid (Two w w2 b g b' g' a s n (fun _ => false)) := Lib.hid ⟨HS.out.touch ht (by simp) (by simp), hs, HT.out.trans ht⟩
  clear hs hb hg ht
  clear HS HG HT HC HCR
  go_wp2_with fail
  go_loopw [13] (fun i wr => ∃ (j : Nat) (f : Nat → Bool), j ≤ len ∧ i = .int .i64 j ∧ Two w wr b g b' g' a s n f) (fun i _ => len + 1 - (intOf i).toNat)
  case atStart => exact ⟨0, _, by omega, rfl, HB0.out⟩
  case round =>
    obtain ⟨j, f, hj, rfl, hb⟩ := hrel
    have HB := Lib.hid hb
    clear hb
    by_cases hjn : j < len
    · have HZR := HR.out
      rcases HZR with h | ⟨lg, off, rfl, hlt, hrow⟩
      · exfalso; have := HL.out; rw [h] at this; simp at this; omega
      have HLt := Lib.hid hlt
      have HRow := Lib.hid hrow
      have hlt2 : (j : Int) < (len : Int) := by omega
      have hzi : InI (zs.getD j 0) := HU.out _ (by rw [List.getD_eq_getElem?_getD, List.getElem?_eq_getElem (by rw [HL.out]; exact hjn)]; simp)
      have HX : Hid (∀ w', Touch [] w w' → w'.cell? ⟨lg, off + j, none⟩ = some (.int .i64 (zs.getD j 0))) := Lib.hid (fun w' ht => hrow.touch ht hlt (by simp) j (by rw [HL.out]; exact hjn))
      obtain ⟨z, hz⟩ : ∃ z, zs.getD j 0 = z := ⟨_, rfl⟩
      rw [hz] at HX hzi
      unfold InI at hzi
      obtain ⟨z1, z2⟩ := hzi
      clear hz hrow hlt
      have hc := HX.out _ HB.out.t
      by_cases hneg : z < 0
      · have d2 : decide (z < 0) = true := dT hneg
        clear hneg
        rcases least_or f false n with hall | ⟨k, hk, hf, hall⟩
        · have HAll := Lib.hid hall
          clear hall
          go_wp2_with fail
          refine (take_no b g a s n f _ HZ.out HB.out.p HAll.out).mono ?_
          rintro e w3 ⟨rfl, ht⟩
          have HB := Lib.hid (HB.out.touch ht)
          clear ht hc
          go_wp2_with fail
          refine (rtake_no b' g' a s n f _ HZ.out HB.out.r HAll.out).mono ?_
          rintro e w4 ⟨rfl, ht⟩
          have HB := Lib.hid (HB.out.touch ht)
          clear ht
          go_wp2_with fail
          have HLN : Hid ((tkL a s (f) n).length ≤ 1000000) := Lib.hid (by have := tkL_len a s (f) n; omega)
          have hln := tkL_len a s (f) n
          have hln2 : ((tkL a s (f) n).length : Int) ≤ 8192 := by omega
          clear hln
          have y0 := HB.out.r.obj.cell (i := 2) rfl
          have HA := Lib.hid ((Touch.refl [] _).drew : Touch [] w4 (World.drew w4))
          have ew : IntKind.i64.wrap ((n : Int) - ((tkL a s (f) n).length : Int)) = (n : Int) - ((tkL a s (f) n).length : Int) := IntWalk.i64_in _ (by omega)
          go_region_held3 (fun w' => w'.cell? ⟨b', 2, none⟩ = some (.slice (some ⟨g', 0, none⟩) n n)) (first | go_keep | exact (HB.out.touch HA.out).r.obj.cell (i := 2) rfl)
            ((first
                    | (go_at_call 14; refine (size_any b g a s n _ _ (HB.out.touch HA.out).p).mono ?_; rintro e w' ⟨rfl, rfl⟩)
                    | (go_at_call 15; refine (free_len b g a s n _ _ HZ.out (HB.out.touch HA.out).p).mono ?_; rintro e w' ⟨rfl, ht⟩; have HA := Lib.hid (HA.out.trans ht); clear ht)
                    | (go_at_call 16; refine (all_any b' g' a s n _ _ HZ.out (HB.out.touch HA.out).r).mono ?_; rintro e w' ⟨va, rfl, hva, _, ht⟩; have HA := Lib.hid (HA.out.trans ht); have HV2 := Lib.hid hva; (try have HVV := Lib.hid (HV1.out.touch ht (fun _ _ => by simp))); clear ht; obtain ⟨x1, x2, rfl⟩ := Own.form (w := w) hva; clear hva)
                    | (go_at_call 18; refine (taken_any b g a s n _ _ HZ.out (HB.out.touch HA.out).p).mono ?_; rintro e w' ⟨va, rfl, hva, hvb, ht⟩; have HA := Lib.hid (HA.out.trans ht); have HV1 := Lib.hid hva; clear ht hvb; obtain ⟨x1, x2, rfl⟩ := Own.form (w := w) hva; clear hva)
                    | (go_at_call 17; refine (ints_eq _ _ (tkL a s (f) n) _ HVV.out HV2.out HLN.out).mono ?_; rintro e w' ⟨rfl, ht⟩; have HA := Lib.hid (HA.out.trans ht); clear ht)))
          have HB2 := Lib.hid (HB.out.touch HA.out)
          clear y0 hln2 ew
          go_wp2
          go_roundw
          case rel => exact ⟨j + 1, _, by omega, by go_num, HB2.out⟩
          case measure => simp [intOf]; omega
        · have HAll := Lib.hid hall
          have HF := Lib.hid hf
          obtain ⟨q1, q2, q3, _⟩ := HZ.out.at hk
          clear hall hf
          go_wp2_with fail
          refine (take_yes b g a s n k f _ HZ.out HB.out.p hk HF.out HAll.out).mono ?_
          rintro e w3 ⟨rfl, hs, ht⟩
          have HS1 := Lib.hid hs
          have HT1 := Lib.hid ht
          clear hs ht hc
          go_wp2_with fail
          refine (rtake_yes b' g' a s n k f _ HZ.out (Two.mid (f' := f) HA4.out HB.out HT1.out) hk HF.out HAll.out).mono ?_
          rintro e w4 ⟨rfl, hs, ht⟩
          have HB := Lib.hid (Two.step HA4.out HB.out HS1.out HT1.out hs ht)
          clear ht hs
          go_wp2_with fail
          have HLN : Hid ((tkL a s (setB f k true) n).length ≤ 1000000) := Lib.hid (by have := tkL_len a s (setB f k true) n; omega)
          have hln := tkL_len a s (setB f k true) n
          have hln2 : ((tkL a s (setB f k true) n).length : Int) ≤ 8192 := by omega
          clear hln
          have y0 := HB.out.r.obj.cell (i := 2) rfl
          have HA := Lib.hid ((Touch.refl [] _).drew : Touch [] w4 (World.drew w4))
          have ew : IntKind.i64.wrap ((n : Int) - ((tkL a s (setB f k true) n).length : Int)) = (n : Int) - ((tkL a s (setB f k true) n).length : Int) := IntWalk.i64_in _ (by omega)
          go_region_held3 (fun w' => w'.cell? ⟨b', 2, none⟩ = some (.slice (some ⟨g', 0, none⟩) n n)) (first | go_keep | exact (HB.out.touch HA.out).r.obj.cell (i := 2) rfl)
            ((first
                    | (go_at_call 14; refine (size_any b g a s n _ _ (HB.out.touch HA.out).p).mono ?_; rintro e w' ⟨rfl, rfl⟩)
                    | (go_at_call 15; refine (free_len b g a s n _ _ HZ.out (HB.out.touch HA.out).p).mono ?_; rintro e w' ⟨rfl, ht⟩; have HA := Lib.hid (HA.out.trans ht); clear ht)
                    | (go_at_call 16; refine (all_any b' g' a s n _ _ HZ.out (HB.out.touch HA.out).r).mono ?_; rintro e w' ⟨va, rfl, hva, _, ht⟩; have HA := Lib.hid (HA.out.trans ht); have HV2 := Lib.hid hva; (try have HVV := Lib.hid (HV1.out.touch ht (fun _ _ => by simp))); clear ht; obtain ⟨x1, x2, rfl⟩ := Own.form (w := w) hva; clear hva)
                    | (go_at_call 18; refine (taken_any b g a s n _ _ HZ.out (HB.out.touch HA.out).p).mono ?_; rintro e w' ⟨va, rfl, hva, hvb, ht⟩; have HA := Lib.hid (HA.out.trans ht); have HV1 := Lib.hid hva; clear ht hvb; obtain ⟨x1, x2, rfl⟩ := Own.form (w := w) hva; clear hva)
                    | (go_at_call 17; refine (ints_eq _ _ (tkL a s (setB f k true) n) _ HVV.out HV2.out HLN.out).mono ?_; rintro e w' ⟨rfl, ht⟩; have HA := Lib.hid (HA.out.trans ht); clear ht)))
          have HB2 := Lib.hid (HB.out.touch HA.out)
          clear y0 hln2 ew
          go_wp2
          go_roundw
          case rel => exact ⟨j + 1, _, by omega, by go_num, HB2.out⟩
          case measure => simp [intOf]; omega
      · have d2 : decide (z < 0) = false := dF hneg
        clear hneg
        rcases given_or a s z f n with ⟨k, hk, hf, he⟩ | hno
        · have HE := Lib.hid he
          have HF := Lib.hid hf
          clear he hf
          go_wp2_with fail
          have HA := Lib.hid ((Touch.refl [] _).drew : Touch [] wr (World.drew wr))
          go_region_held3 (fun w' => w'.cell? ⟨lg, off + j, none⟩ = some (.int .i64 z)) (first | go_keep | exact HX.out _ HT1.out | exact HX.out _ HB.out.t)
            ((first
              | (go_at_call 12; refine (give_yes b g a s z n k f _ HZ.out (HB.out.touch HA.out).p hk HF.out HE.out).mono ?_; rintro e w3 ⟨rfl, hs, ht⟩; have HS1 := Lib.hid hs; have HT0 := Lib.hid ht; have HT1 := Lib.hid ((HB.out.touch HA.out).t.transF ht (fun i hi hl => by simp at hi; have := HA4.out.l1; omega)); clear hs ht)
              | (go_at_call 13; refine (rgive_yes b' g' a s z n k f _ HZ.out (Two.mid (f' := f) HA4.out (HB.out.touch HA.out) HT0.out) hk HF.out HE.out).mono ?_; rintro e w4 ⟨rfl, hs, ht⟩; have HB := Lib.hid (Two.step HA4.out (HB.out.touch HA.out) HS1.out HT0.out hs ht); clear hs ht)))
          clear hc
          go_wp2_with fail
          have HLN : Hid ((tkL a s (setB f k false) n).length ≤ 1000000) := Lib.hid (by have := tkL_len a s (setB f k false) n; omega)
          have hln := tkL_len a s (setB f k false) n
          have hln2 : ((tkL a s (setB f k false) n).length : Int) ≤ 8192 := by omega
          clear hln
          have y0 := HB.out.r.obj.cell (i := 2) rfl
          have HA := Lib.hid ((Touch.refl [] _).drew : Touch [] w4 (World.drew w4))
          have ew : IntKind.i64.wrap ((n : Int) - ((tkL a s (setB f k false) n).length : Int)) = (n : Int) - ((tkL a s (setB f k false) n).length : Int) := IntWalk.i64_in _ (by omega)
          go_region_held3 (fun w' => w'.cell? ⟨b', 2, none⟩ = some (.slice (some ⟨g', 0, none⟩) n n)) (first | go_keep | exact (HB.out.touch HA.out).r.obj.cell (i := 2) rfl)
            ((first
                    | (go_at_call 14; refine (size_any b g a s n _ _ (HB.out.touch HA.out).p).mono ?_; rintro e w' ⟨rfl, rfl⟩)
                    | (go_at_call 15; refine (free_len b g a s n _ _ HZ.out (HB.out.touch HA.out).p).mono ?_; rintro e w' ⟨rfl, ht⟩; have HA := Lib.hid (HA.out.trans ht); clear ht)
                    | (go_at_call 16; refine (all_any b' g' a s n _ _ HZ.out (HB.out.touch HA.out).r).mono ?_; rintro e w' ⟨va, rfl, hva, _, ht⟩; have HA := Lib.hid (HA.out.trans ht); have HV2 := Lib.hid hva; (try have HVV := Lib.hid (HV1.out.touch ht (fun _ _ => by simp))); clear ht; obtain ⟨x1, x2, rfl⟩ := Own.form (w := w) hva; clear hva)
                    | (go_at_call 18; refine (taken_any b g a s n _ _ HZ.out (HB.out.touch HA.out).p).mono ?_; rintro e w' ⟨va, rfl, hva, hvb, ht⟩; have HA := Lib.hid (HA.out.trans ht); have HV1 := Lib.hid hva; clear ht hvb; obtain ⟨x1, x2, rfl⟩ := Own.form (w := w) hva; clear hva)
                    | (go_at_call 17; refine (ints_eq _ _ (tkL a s (setB f k false) n) _ HVV.out HV2.out HLN.out).mono ?_; rintro e w' ⟨rfl, ht⟩; have HA := Lib.hid (HA.out.trans ht); clear ht)))
          have HB2 := Lib.hid (HB.out.touch HA.out)
          clear y0 hln2 ew
          go_wp2
          go_roundw
          case rel => exact ⟨j + 1, _, by omega, by go_num, HB2.out⟩
          case measure => simp [intOf]; omega
        · have HNo := Lib.hid hno
          clear hno
          go_wp2_with fail
          have HA := Lib.hid ((Touch.refl [] _).drew : Touch [] wr (World.drew wr))
          go_region_held3 (fun w' => w'.cell? ⟨lg, off + j, none⟩ = some (.int .i64 z)) (first | go_keep | exact HX.out _ HB.out.t | exact HX.out _ HB1.out.t)
            ((first
              | (go_at_call 12; refine (give_no b g a s z n f _ HZ.out (HB.out.touch HA.out).p HNo.out).mono ?_; rintro e w3 ⟨rfl, ht⟩; have HB1 := Lib.hid ((HB.out.touch HA.out).touch ht); clear ht)
              | (go_at_call 13; refine (rgive_no b' g' a s z n f _ HZ.out HB1.out.r HNo.out).mono ?_; rintro e w4 ⟨rfl, ht⟩; have HB := Lib.hid (HB1.out.touch ht); clear ht)))
          clear hc
          go_wp2_with fail
          have HLN : Hid ((tkL a s (f) n).length ≤ 1000000) := Lib.hid (by have := tkL_len a s (f) n; omega)
          have hln := tkL_len a s (f) n
          have hln2 : ((tkL a s (f) n).length : Int) ≤ 8192 := by omega
          clear hln
          have y0 := HB.out.r.obj.cell (i := 2) rfl
          have HA := Lib.hid ((Touch.refl [] _).drew : Touch [] w4 (World.drew w4))
          have ew : IntKind.i64.wrap ((n : Int) - ((tkL a s (f) n).length : Int)) = (n : Int) - ((tkL a s (f) n).length : Int) := IntWalk.i64_in _ (by omega)
          go_region_held3 (fun w' => w'.cell? ⟨b', 2, none⟩ = some (.slice (some ⟨g', 0, none⟩) n n)) (first | go_keep | exact (HB.out.touch HA.out).r.obj.cell (i := 2) rfl)
            ((first
                    | (go_at_call 14; refine (size_any b g a s n _ _ (HB.out.touch HA.out).p).mono ?_; rintro e w' ⟨rfl, rfl⟩)
                    | (go_at_call 15; refine (free_len b g a s n _ _ HZ.out (HB.out.touch HA.out).p).mono ?_; rintro e w' ⟨rfl, ht⟩; have HA := Lib.hid (HA.out.trans ht); clear ht)
                    | (go_at_call 16; refine (all_any b' g' a s n _ _ HZ.out (HB.out.touch HA.out).r).mono ?_; rintro e w' ⟨va, rfl, hva, _, ht⟩; have HA := Lib.hid (HA.out.trans ht); have HV2 := Lib.hid hva; (try have HVV := Lib.hid (HV1.out.touch ht (fun _ _ => by simp))); clear ht; obtain ⟨x1, x2, rfl⟩ := Own.form (w := w) hva; clear hva)
                    | (go_at_call 18; refine (taken_any b g a s n _ _ HZ.out (HB.out.touch HA.out).p).mono ?_; rintro e w' ⟨va, rfl, hva, hvb, ht⟩; have HA := Lib.hid (HA.out.trans ht); have HV1 := Lib.hid hva; clear ht hvb; obtain ⟨x1, x2, rfl⟩ := Own.form (w := w) hva; clear hva)
                    | (go_at_call 17; refine (ints_eq _ _ (tkL a s (f) n) _ HVV.out HV2.out HLN.out).mono ?_; rintro e w' ⟨rfl, ht⟩; have HA := Lib.hid (HA.out.trans ht); clear ht)))
          have HB2 := Lib.hid (HB.out.touch HA.out)
          clear y0 hln2 ew
          go_wp2
          go_roundw
          case rel => exact ⟨j + 1, _, by omega, by go_num, HB2.out⟩
          case measure => simp [intOf]; omega
    · have hlt : ¬ (j : Int) < (len : Int) := by omega
      go_wp2_with fail
      refine (awake_any _).mono ?_
      rintro e w4 ⟨rfl, ht⟩
      go_wp2
      go_ret
      exact ⟨rfl, (HB.out.t.trans ht).below (Nat.le_refl _) (by simp)⟩

theorem plays_law (a t s : Int) (v : Value) (zs : List Int) (w : World) (h0 : (Lit.int .i64 a).wf = true) (h1 : (Lit.int .i64 t).wf = true) (h2 : (Lit.int .i64 s).wf = true) (hs : Sl w v zs) (hu : ∀ y ∈ zs, InI y) (hm : zs.length ≤ maxLen) :
    Calls Try.prog 3 #[.int .i64 a, .int .i64 t, .int .i64 s, v] w fun e w' => e = .returned (.bool true) ∧ Below w.heap.size w w' := by
  by_cases h : 80 < zs.length
  · exact plays_long a t s v zs w hs hm h
  by_cases hb : BadN a t s
  · exact plays_bad a t s v zs w hs (by omega) hb
  unfold BadN at hb
  obtain ⟨n, hn, hn2, hz, htop⟩ := div_bd (a := a) (t := t) (s := s) (by omega) (by omega) (by omega) (by omega) (by omega)
  exact plays_in a t s n v zs w hs hu (by omega) (by omega) (by omega) (by omega) (by omega) (by omega) hn hn2 hz
end Go.Proofs.Ytbdinbhdbljnkaa
