/-
  Who descends from one, as the reference tells it; both are the same.
-/
import Derived.Test.YtjcbcbhiophkfaaJE
set_option linter.unusedVariables false
namespace Go.Proofs.Ytjcbcbhiophkfaa
open Go.RowKit Go.BigFrame

theorem und_more {ps : Nat → Nat → Int} {pid : Int} {k : Nat} (h : ps k 1 = pid ∨ ps k 1 ∈ und ps pid k) : und ps pid (k + 1) = und ps pid k ++ [(k : Int) + 1] := if_pos h
theorem und_keep {ps : Nat → Nat → Int} {pid : Int} {k : Nat} (h : ¬ (ps k 1 = pid ∨ ps k 1 ∈ und ps pid k)) : und ps pid (k + 1) = und ps pid k := if_neg h
/-- One number more at the end of a list of the call's own, from w0 on. -/
theorem push_own {w0 w : World} {v : Value} {xs : List Int} (h : Qu w w0.heap.size 3 v (xs.map (Value.int .i64))) (ht : Touch [] w0 w) (x : Int) (hl : xs.length ≤ 100000) :
    ∃ v' w', (∀ ty, (Builtin.append_ #[42, 42] ty #[v, .slice (some ⟨w.heap.size, 0, none⟩) 1 1]).run Try.prog (w.alloc (.cells #[.int .i64 x] 3)) = .ok v' w') ∧ Qu w' w0.heap.size 3 v' ((xs ++ [x]).map (Value.int .i64)) ∧ Touch [] w0 w' ∧ ∃ a c, v' = .slice a (xs.length + 1) c := by
  have hs := ht.size
  obtain ⟨v', w', hr, hq, hg, hn⟩ := Qu.appendI (h.alloc (.cells #[.int .i64 x] 3)) (by simp; omega) (show Sl (w.alloc (.cells #[.int .i64 x] 3)) (.slice (some ⟨w.heap.size, 0, none⟩) 1 1) [x] from ⟨_, 1, rfl, .inr ⟨w.heap.size, 0, rfl, by simp, row1 _ _ _ _ rfl⟩⟩) (by simp; omega)
  refine ⟨v', w', hr, hq, (ht.alloc _).grown hg (fun k hk hlt => by have := (h.own k hk).1; omega), ?_⟩
  obtain ⟨a, c, e⟩ := Qu.form hq
  rw [List.length_append, List.length_singleton] at e
  exact ⟨a, c, e⟩
section
variable (b : Nat) (G : List Nat) (most : Int) (n : Nat) (ps : Nat → Nat → Int) (w : World)
theorem runder_low (pid : Int) (hp : pid < 1) : Calls Try.prog 42 #[.pointer (some ⟨b, 0, none⟩), .int .i64 pid] w (Own [] w) := by
  have d : decide (pid < 1) = true := dT hp
  clear hp
  go_enter Try.func42, Try.ntmps42
  go_wp2
  go_ret
  exact ⟨_, rfl, Qu.made (c := #[]) rfl (Nat.le_refl _) rfl (Nat.zero_le _), (Touch.refl _ _).alloc _⟩
set_option maxHeartbeats 16000000 in
theorem runder_q (pid : Int) (h : Rt w b G most n ps) (hn : n ≤ 9000) (hp : 1 ≤ pid) : Calls Try.prog 42 #[.pointer (some ⟨b, 0, none⟩), .int .i64 pid] w (Own (und ps pid n) w) := by
  obtain ⟨v0, h0, _⟩ := h
  obtain ⟨va, vc, hv, _⟩ := h0.all.form
  subst hv
  have HW := Lib.hid h0
  clear h0
  have d : decide (pid < 1) = false := dF (by omega)
  go_enter Try.func42, Try.ntmps42
  go_wp2
  go_loopw [5, 6] (fun v i wr => ∃ k : Nat, k ≤ n ∧ i = .int .i64 ((k : Int) + 1) ∧ Qu wr w.heap.size 3 v ((und ps pid k).map (Value.int .i64)) ∧ Touch [] w wr) (fun _ i _ => n + 2 - (intOf i).toNat)
  case atStart => exact ⟨0, by omega, rfl, Qu.made (c := #[]) rfl (Nat.le_refl _) rfl (Nat.zero_le _), (Touch.refl _ _).alloc _⟩
  case round =>
    obtain ⟨k, hk, rfl, hq, ht⟩ := hrel
    have HQ := Lib.hid hq
    have HT := Lib.hid ht
    have hul := und_len ps pid k
    obtain ⟨ua, uc, rfl⟩ := Qu.form hq
    have hwr := HW.out.touch ht (fun _ _ => by simp)
    have x1 := hwr.obj.cell (i := 1) rfl
    by_cases hkl : k < n
    · have hlt : (k : Int) + 1 ≤ (n : Int) := by omega
      have hlt2 : (k : Int) < (n : Int) := by omega
      obtain ⟨g, cap, he, _, _, _, _, hc, _, _⟩ := hwr.all.at hkl
      cases he
      have y : wr.cell? ⟨g, k * 5, none⟩ = some (.int .i64 (ps k 1)) := hc 0 (by omega)
      have v1 : IntKind.i64.wrap ((k : Int) + 1 - 1) = (k : Int) := by rw [show (k : Int) + 1 - 1 = (k : Int) from by omega]; exact IntWalk.i64_in _ (by omega)
      obtain ⟨v', w2, hr, hq2, ht2, a2, c2, hv'⟩ := push_own hq ht ((k : Int) + 1) (by omega)
      subst hv'
      have HR := Lib.hid hr
      have HQ2 := Lib.hid hq2
      have HT2 := Lib.hid ht2
      have HH := Lib.hid (has_l _ (und ps pid k) (ps k 1) wr hq.sl (by omega))
      clear hc hwr hq ht hr hq2 ht2
      by_cases hpp : ps k 1 = pid
      · have q : (ps k 1 == pid) = true := beqT hpp
        have HU := Lib.hid (und_more (ps := ps) (pid := pid) (k := k) (.inl hpp))
        clear hpp HH
        go_wp2_with (at_builtin; refine Lib.wpList_append_run _ rfl _ _ _ _ rfl _ _ rfl rfl _ _ (HR.out _) ?_)
        go_roundw
        case rel => exact ⟨k + 1, by omega, by go_num, by rw [HU.out]; exact HQ2.out, HT2.out⟩
        case measure => simp [intOf]; omega
      · have q : (ps k 1 == pid) = false := beqF hpp
        by_cases hm : ps k 1 ∈ und ps pid k
        · have HU := Lib.hid (und_more (ps := ps) (pid := pid) (k := k) (.inr hm))
          rw [dT hm] at HH
          clear hpp hm
          go_wp2_with fail
          refine HH.out.mono ?_
          rintro e w3 ⟨rfl, rfl⟩
          go_wp2_with (at_builtin; refine Lib.wpList_append_run _ rfl _ _ _ _ rfl _ _ rfl rfl _ _ (HR.out _) ?_)
          go_roundw
          case rel => exact ⟨k + 1, by omega, by go_num, by rw [HU.out]; exact HQ2.out, HT2.out⟩
          case measure => simp [intOf]; omega
        · have HU := Lib.hid (und_keep (ps := ps) (pid := pid) (k := k) (fun e => e.elim hpp hm))
          rw [dF hm] at HH
          clear hpp hm
          go_wp2_with fail
          refine HH.out.mono ?_
          rintro e w3 ⟨rfl, rfl⟩
          go_wp2
          go_roundw
          case rel => exact ⟨k + 1, by omega, by go_num, by rw [HU.out]; exact HQ.out, HT.out⟩
          case measure => simp [intOf]; omega
    · have hlt : ¬ (k : Int) + 1 ≤ (n : Int) := by omega
      obtain rfl : k = n := by omega
      clear hq ht hwr
      go_wp2
      go_ret
      exact ⟨_, rfl, HQ.out, HT.out⟩
end
/-- Who descends from one, as either tells it. -/
def undL (ps : Nat → Nat → Int) (n : Nat) (pid : Int) : List Int := if 1 ≤ pid ∧ pid < n then und ps pid n else []
theorem und_none {ps : Nat → Nat → Int} {n : Nat} {pid : Int} (hp : ParOk n ps) (h : (n : Int) ≤ pid) : und ps pid n = [] := by
  cases hu : und ps pid n with
  | nil => rfl
  | cons x r =>
    have hm : x ∈ und ps pid n := by rw [hu]; simp
    have h1 := und_gt hp (Nat.le_refl n) hm
    have h2 := (und_le hm).2
    omega
theorem under_1 (b : Nat) (F : List Nat) (most : Int) (n : Nat) (ps : Nat → Nat → Int) (live : List Int) (w : World) (pid : Int) (xs : List Int) (hpo : ParOk n ps) (h : Pt w b F most n ps live) (hn : n ≤ 9000) (hx : undL ps n pid = xs) :
    Calls Try.prog 20 #[.pointer (some ⟨b, 0, none⟩), .int .i64 pid] w (Own xs w) := by
  subst hx
  unfold undL
  by_cases h1 : pid < 1
  · rw [if_neg (by omega)]
    refine (under_low0 b F most n ps live pid w h1 h hn).mono ?_
    rintro e w' ⟨rfl, ht⟩
    exact ⟨_, rfl, Qu.nil _ _ _, ht⟩
  · by_cases h2 : (n : Int) ≤ pid
    · rw [if_neg (by omega)]
      refine (under_high b F most n ps live pid w h1 h2 h hn).mono ?_
      rintro e w' ⟨rfl, ht⟩
      exact ⟨_, rfl, Qu.nil _ _ _, ht⟩
    · rw [if_pos (by omega)]
      obtain ⟨p, rfl⟩ : ∃ p : Nat, pid = p := ⟨pid.toNat, by omega⟩
      exact under_q b F most n ps live p w (by omega) (by omega) hpo h hn
theorem under_2 (c : Nat) (G : List Nat) (most : Int) (n : Nat) (ps : Nat → Nat → Int) (w : World) (pid : Int) (xs : List Int) (hpo : ParOk n ps) (h : Rt w c G most n ps) (hn : n ≤ 9000) (hx : undL ps n pid = xs) :
    Calls Try.prog 42 #[.pointer (some ⟨c, 0, none⟩), .int .i64 pid] w (Own xs w) := by
  subst hx
  unfold undL
  by_cases h1 : pid < 1
  · rw [if_neg (by omega)]
    exact runder_low c w pid h1
  · by_cases h2 : (n : Int) ≤ pid
    · rw [if_neg (by omega)]
      have := runder_q c G most n ps w pid h hn (by omega)
      rwa [und_none hpo h2] at this
    · rw [if_pos (by omega)]
      exact runder_q c G most n ps w pid h hn (by omega)
end Go.Proofs.Ytjcbcbhiophkfaa
