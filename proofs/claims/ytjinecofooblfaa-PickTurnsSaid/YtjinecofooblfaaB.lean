/-
  Whose turn it is: the first place of the least number above another one, or of the least of all.
-/
import Derived.Test.YtjinecofooblfaaA
set_option linter.unusedVariables false
namespace Go.Proofs.Ytjinecofooblfaa
open Go.RowKit

/-- the numbers that the variadic argument holds: none, or one. -/
def Above (o : Option Int) (x : Int) : Bool := match o with | none => true | some y => decide (y < x)
theorem above_none (x : Int) : Above none x = true := rfl
theorem above_some (y x : Int) : Above (some y) x = decide (y < x) := rfl
def Vari (w : World) (v : Value) (o : Option Int) : Prop := (o = none ∧ v = .slice none 0 0) ∨ ∃ y b, o = some y ∧ v = .slice (some ⟨b, 0, none⟩) 1 1 ∧ w.cell? ⟨b, 0, none⟩ = some (.int .i64 y)

theorem Vari.drewN {w : World} {v : Value} {o : Option Int} (h : Vari w v o) (n : Nat) : Vari (w.drewN n) v o := h
set_option maxHeartbeats 400000 in
theorem isAbove_any (x : Int) (v : Value) (o : Option Int) (w : World) (hv : Vari w v o) :
    Calls Try.prog 11 #[.int .i64 x, v] w fun e w' => e = .returned (.bool (Above o x)) ∧ w' = w := by
  rcases hv with ⟨rfl, rfl⟩ | ⟨y, b, rfl, rfl, hcell⟩
  · go_enter Try.func11, Try.ntmps11
    go_wp2
    refine wp_loop_rounds 1 ?_
    rw [rounds_succ]
    go_wp2
    go_ret
    exact ⟨rfl, rfl⟩
  · rw [above_some]
    by_cases h : y < x
    · rw [dT h]
      go_enter Try.func11, Try.ntmps11
      go_wp2
      refine wp_loop_rounds 2 ?_
      rw [rounds_succ]
      go_wp2
      rw [rounds_succ]
      go_wp2
      go_ret
      exact ⟨rfl, rfl⟩
    · rw [dF h]
      go_enter Try.func11, Try.ntmps11
      go_wp2
      refine wp_loop_rounds 2 ?_
      rw [rounds_succ]
      go_wp2
      go_ret
      exact ⟨rfl, rfl⟩

/-- The place that has been found among the first k numbers: -1, if none. -/
def lst (P : Int → Bool) (zs : List Int) : Nat → Int
  | 0 => -1
  | k + 1 => if P (zs.getD k 0) = true ∧ (lst P zs k < 0 ∨ zs.getD k 0 < zs.getD (lst P zs k).toNat 0) then k else lst P zs k
theorem lst_bd (P : Int → Bool) (zs : List Int) (k : Nat) : -1 ≤ lst P zs k ∧ lst P zs k < k := by
  induction k with
  | zero => simp [lst]
  | succ k ih => unfold lst; split <;> omega
theorem lst_P (P : Int → Bool) (zs : List Int) (k : Nat) (h : 0 ≤ lst P zs k) : P (zs.getD (lst P zs k).toNat 0) = true := by
  induction k with
  | zero => simp [lst] at h
  | succ k ih =>
    unfold lst at h ⊢
    split
    · rename_i hc; simpa using hc.1
    · rename_i hc; rw [if_neg hc] at h; exact ih h
theorem lst_none (P : Int → Bool) (zs : List Int) (k : Nat) (h : lst P zs k < 0) : ∀ j, j < k → P (zs.getD j 0) = false := by
  induction k with
  | zero => intro j hj; omega
  | succ k ih =>
    intro j hj
    unfold lst at h
    split at h
    · omega
    · rename_i hc
      by_cases hjk : j = k
      · subst hjk
        cases hp : P (zs.getD j 0) with
        | false => rfl
        | true => exact absurd ⟨hp, .inl h⟩ hc
      · exact ih h j (by omega)
theorem lst_le (P : Int → Bool) (zs : List Int) (k : Nat) (h : 0 ≤ lst P zs k) : ∀ j, j < k → P (zs.getD j 0) = true → zs.getD (lst P zs k).toNat 0 ≤ zs.getD j 0 := by
  induction k with
  | zero => simp [lst] at h
  | succ k ih =>
    intro j hj hp
    unfold lst at h ⊢
    split
    · rename_i hc
      rw [Int.toNat_natCast]
      by_cases hjk : j = k
      · subst hjk; omega
      · by_cases h0 : lst P zs k < 0
        · have := lst_none P zs k h0 j (by omega); rw [hp] at this; cases this
        · have := ih (by omega) j (by omega) hp
          rcases hc.2 with h1 | h1 <;> omega
    · rename_i hc
      rw [if_neg hc] at h
      by_cases hjk : j = k
      · subst hjk
        have : ¬ (zs.getD j 0 < zs.getD (lst P zs j).toNat 0) := fun h2 => hc ⟨hp, .inr h2⟩
        omega
      · exact ih h j (by omega) hp

def maxZ (a : Int) : Int := if a < 0 then 0 else a
set_option maxHeartbeats 1000000 in
theorem least_any (b off cap : Nat) (zs : List Int) (v : Value) (o : Option Int) (w : World) (hl : zs.length ≤ 1000) (hv : Vari w v o) (hc : Row w b off zs) :
    Calls Try.prog 10 #[.slice (some ⟨b, off, none⟩) zs.length cap, v] w fun e w' => e = .returned (.tuple #[.int .i64 (maxZ (lst (Above o) zs zs.length)), .bool (decide (0 ≤ lst (Above o) zs zs.length))]) ∧ ∃ n, w' = w.drewN n := by
  have HC := Lib.hid hc
  clear hc
  have HV := Lib.hid hv
  clear hv
  go_enter Try.func10, Try.ntmps10
  go_wp2
  go_loopw [6, 10] (fun f i wr => ∃ j m : Nat, j ≤ zs.length ∧ i = .int .i64 j ∧ f = .int .i64 (lst (Above o) zs j) ∧ wr = w.drewN m) (fun _ i _ => zs.length + 1 - (intOf i).toNat)
  case atStart => exact ⟨0, 0, by omega, rfl, rfl, rfl⟩
  case round =>
    obtain ⟨j, m, hj, rfl, rfl, rfl⟩ := hrel
    have hbd := lst_bd (Above o) zs j
    obtain ⟨l1, l2⟩ := hbd
    have HV1 := Lib.hid (HV.out.drewN m)
    have HC1 : Hid (Row (w.drewN m) b off zs) := HC.out
    obtain ⟨wr, hwr⟩ : ∃ wr, w.drewN m = wr := ⟨_, rfl⟩
    rw [hwr] at HV1 HC1
    rw [hwr]
    have HW := Lib.hid hwr
    clear hwr
    by_cases hjk : j < zs.length
    · have hcell := HC1.out j hjk
      have hN : Hid (lst (Above o) zs (j + 1) = if Above o (zs.getD j 0) = true ∧ (lst (Above o) zs j < 0 ∨ zs.getD j 0 < zs.getD (lst (Above o) zs j).toNat 0) then (j : Int) else lst (Above o) zs j) := rfl
      have hlen : (j : Int) < (zs.length : Int) := by omega
      cases hA : Above o (zs.getD j 0) with
      | false =>
        have HA := Lib.hid hA
        clear hA
        generalize zs.getD j 0 = z at *
        go_wp2
        go_quiet ((go_at_call 11; exact Calls.quiet_of_same ((isAbove_any _ _ _ _ (HV1.out.drewN _)).mono fun _ _ h => by rw [HA.out] at h; exact h)))
        go_wp2
        go_roundw
        case rel => exact ⟨j + 1, _, by omega, by go_num, by rw [hN.out, if_neg (by rintro ⟨h1, _⟩; rw [HA.out] at h1; cases h1)], by rw [← HW.out, World.drewN_drewN]⟩
        case measure => simp [intOf]; omega
      | true =>
        have HA := Lib.hid hA
        clear hA
        by_cases hf : lst (Above o) zs j < 0
        · have hf2 : decide (lst (Above o) zs j < 0) = true := dT hf
          have HN : Hid (lst (Above o) zs (j + 1) = (j : Int)) := by unfold Hid; rw [hN.out, if_pos ⟨HA.out, .inl hf⟩]
          clear hN hf
          generalize zs.getD j 0 = z at *
          go_wp2
          go_quiet ((go_at_call 11; exact Calls.quiet_of_same ((isAbove_any _ _ _ _ (HV1.out.drewN _)).mono fun _ _ h => by rw [HA.out] at h; exact h)))
          go_wp2
          go_roundw
          case rel => exact ⟨j + 1, _, by omega, by go_num, by rw [HN.out], by rw [← HW.out, World.drewN_drewN]⟩
          case measure => simp [intOf]; omega
        · have hf2 : decide (lst (Above o) zs j < 0) = false := dF hf
          obtain ⟨q, hq⟩ : ∃ q : Nat, lst (Above o) zs j = q := ⟨(lst (Above o) zs j).toNat, by omega⟩
          have hq2 : q < zs.length := by omega
          have hcq := HC1.out q hq2
          rw [hq, Int.toNat_natCast] at hN
          have HQ := Lib.hid hq
          rw [hq] at hf2
          rw [hq]
          clear hq hf l1 l2
          have hqz : (q : Int) < (zs.length : Int) := by omega
          by_cases hlt : zs.getD j 0 < zs.getD q 0
          · have HN : Hid (lst (Above o) zs (j + 1) = (j : Int)) := by unfold Hid; rw [hN.out, if_pos ⟨HA.out, .inr hlt⟩]
            have hlt2 : decide (zs.getD j 0 < zs.getD q 0) = true := dT hlt
            clear hN hlt
            generalize zs.getD j 0 = z at *
            generalize zs.getD q 0 = y at *
            go_wp2
            go_quiet ((go_at_call 11; exact Calls.quiet_of_same ((isAbove_any _ _ _ _ (HV1.out.drewN _)).mono fun _ _ h => by rw [HA.out] at h; exact h)))
            go_wp2
            go_roundw
            case rel => exact ⟨j + 1, _, by omega, by go_num, by rw [HN.out], by rw [← HW.out, World.drewN_drewN]⟩
            case measure => simp [intOf]; omega
          · have HN : Hid (lst (Above o) zs (j + 1) = (q : Int)) := by unfold Hid; rw [hN.out, if_neg (by rintro ⟨h1, h2 | h2⟩ <;> omega)]
            have hlt2 : decide (zs.getD j 0 < zs.getD q 0) = false := dF hlt
            clear hN hlt
            generalize zs.getD j 0 = z at *
            generalize zs.getD q 0 = y at *
            go_wp2
            go_quiet ((go_at_call 11; exact Calls.quiet_of_same ((isAbove_any _ _ _ _ (HV1.out.drewN _)).mono fun _ _ h => by rw [HA.out] at h; exact h)))
            go_wp2
            go_roundw
            case rel => exact ⟨j + 1, _, by omega, by go_num, by rw [HN.out], by rw [← HW.out, World.drewN_drewN]⟩
            case measure => simp [intOf]; omega
    · have e : j = zs.length := by omega
      have HE := Lib.hid e
      by_cases hq : lst (Above o) zs j < 0
      · have H1 : Hid (maxZ (lst (Above o) zs zs.length) = 0 ∧ decide (0 ≤ lst (Above o) zs zs.length) = false) := by
          unfold Hid; rw [← HE.out]; exact ⟨if_pos hq, dF (by omega)⟩
        have d1 : decide (0 ≤ lst (Above o) zs j) = false := dF (by omega)
        have d2 : decide (lst (Above o) zs j < 0) = true := dT hq
        have hge : ¬ (j : Int) < (zs.length : Int) := by omega
        clear hjk e
        generalize lst (Above o) zs j = q at *
        go_wp2
        go_ret2
        refine ⟨?_, m, HW.out.symm⟩
        rw [H1.out.1, H1.out.2]
        rfl
      · have H1 : Hid (maxZ (lst (Above o) zs zs.length) = lst (Above o) zs j ∧ decide (0 ≤ lst (Above o) zs zs.length) = true) := by
          unfold Hid; rw [← HE.out]; exact ⟨if_neg hq, dT (by omega)⟩
        have d1 : decide (0 ≤ lst (Above o) zs j) = true := dT (by omega)
        have d2 : decide (lst (Above o) zs j < 0) = false := dF hq
        have hge : ¬ (j : Int) < (zs.length : Int) := by omega
        clear hjk e
        go_wp2
        go_ret2
        refine ⟨?_, m, HW.out.symm⟩
        rw [H1.out.1, H1.out.2]
        rfl

/-- Whose turn it is: at, a place of the numbers. -/
def TurnAt (zs : List Int) (last : Int) (at_ : Nat) : Prop :=
  at_ < zs.length ∧ ((last < zs.getD at_ 0 ∧ ∀ j, j < zs.length → last < zs.getD j 0 → zs.getD at_ 0 ≤ zs.getD j 0) ∨
    ((∀ j, j < zs.length → zs.getD j 0 ≤ last) ∧ ∀ j, j < zs.length → zs.getD at_ 0 ≤ zs.getD j 0))

theorem turn_yes (zs : List Int) (last : Int) (h : 0 ≤ lst (Above (some last)) zs zs.length) : TurnAt zs last (lst (Above (some last)) zs zs.length).toNat := by
  have hb := lst_bd (Above (some last)) zs zs.length
  have hp := lst_P _ zs _ h
  have hl := lst_le _ zs _ h
  refine ⟨by omega, .inl ⟨?_, ?_⟩⟩
  · simpa [above_some] using hp
  · intro j hj hlt
    exact hl j hj (by simpa [above_some] using hlt)
theorem turn_no (zs : List Int) (last : Int) (h0 : 0 < zs.length) (h : lst (Above (some last)) zs zs.length < 0) : 0 ≤ lst (Above none) zs zs.length ∧ TurnAt zs last (lst (Above none) zs zs.length).toNat := by
  have hn := lst_none _ zs _ h
  have h2 : 0 ≤ lst (Above none) zs zs.length := by
    by_cases hx : lst (Above none) zs zs.length < 0
    · have := lst_none _ zs _ hx 0 h0; rw [above_none] at this; cases this
    · omega
  have hb := lst_bd (Above none) zs zs.length
  have hl := lst_le _ zs _ h2
  refine ⟨h2, by omega, .inr ⟨?_, ?_⟩⟩
  · intro j hj
    have := hn j hj
    rw [above_some] at this
    simpa using this
  · intro j hj
    exact hl j hj (above_none _)

def TurnPost (zs : List Int) (last : Int) (w : World) (e : Ending) (w' : World) : Prop :=
  ∃ k : Nat, e = .returned (.tuple #[.int .i64 k, .bool true]) ∧ TurnAt zs last k ∧ Below w.heap.size w w'
set_option maxHeartbeats 1000000 in
theorem turn_any (b off cap : Nat) (zs : List Int) (last : Int) (w : World) (h0 : 0 < zs.length) (hl : zs.length ≤ 1000) (hb : b < w.heap.size) (hc : Row w b off zs) :
    Calls Try.prog 8 #[.slice (some ⟨b, off, none⟩) zs.length cap, .int .i64 last] w (TurnPost zs last w) := by
  have hc2 : Row (w.alloc (.cells #[.int .i64 last] 3)) b off zs := fun j hj => by rw [World.cell?_alloc_past _ _ _ hb]; exact hc j hj
  have hv : Vari (w.alloc (.cells #[.int .i64 last] 3)) (.slice (some ⟨w.heap.size, 0, none⟩) 1 1) (some last) := .inr ⟨last, _, rfl, rfl, by rw [World.cell?_alloc_at _ _ _ _ rfl]; rfl⟩
  have HT := Lib.hid (turn_yes zs last)
  have HT2 := Lib.hid (turn_no zs last h0)
  have HB := Lib.hid (lst_bd (Above (some last)) zs zs.length)
  have c1 := Lib.hid (fun cap => least_any b off cap zs _ _ _ hl hv hc2)
  clear hv hc2
  have HC := Lib.hid hc
  clear hc
  go_enter Try.func8, Try.ntmps8
  go_wp2_with fail
  refine (c1.out _).mono ?_
  rintro e w' ⟨rfl, m, rfl⟩
  clear c1
  by_cases hp : 0 ≤ lst (Above (some last)) zs zs.length
  · have ht := HT.out hp
    rw [dT hp, show maxZ (lst (Above (some last)) zs zs.length) = ((lst (Above (some last)) zs zs.length).toNat : Int) from by unfold maxZ; rw [if_neg (by omega)]; omega]
    generalize (lst (Above (some last)) zs zs.length).toNat = k at *
    have HK := Lib.hid ht
    clear ht hp
    go_wp2_with fail
    go_ret2
    exact ⟨k, rfl, HK.out, below_drewN ((Below.refl _ _).alloc (Nat.le_refl _) _) _⟩
  · obtain ⟨h3, ht⟩ := HT2.out (by omega)
    rw [dF hp]
    have c2 := Lib.hid (fun cap W hW => least_any b off cap zs _ none W hl (.inl ⟨rfl, rfl⟩) hW)
    have hW : Row ((w.alloc (.cells #[.int .i64 last] 3)).drewN m) b off zs := fun j hj => by
      show (w.alloc (.cells #[.int .i64 last] 3)).cell? _ = _
      rw [World.cell?_alloc_past _ _ _ hb]; exact HC.out j hj
    have HW := Lib.hid hW
    clear hW hp
    have h4 : maxZ (lst (Above none) zs zs.length) = ((lst (Above none) zs zs.length).toNat : Int) := by unfold maxZ; rw [if_neg (by omega)]; omega
    have H3 := Lib.hid (And.intro (dT h3) h4)
    have HK := Lib.hid ht
    clear h3 h4 ht
    go_wp2_with fail
    refine (c2.out _ _ HW.out).mono ?_
    rintro e w' ⟨he, m2, rfl⟩
    rw [H3.out.1, H3.out.2] at he
    subst he
    generalize (lst (Above none) zs zs.length).toNat = k at *
    go_wp2
    go_ret2
    exact ⟨k, rfl, HK.out, below_drewN ((Below.refl _ _).alloc (Nat.le_refl _) _) _⟩
end Go.Proofs.Ytjinecofooblfaa
