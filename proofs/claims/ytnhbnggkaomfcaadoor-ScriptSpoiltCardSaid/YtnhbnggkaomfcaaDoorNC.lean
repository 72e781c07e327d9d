/-
  The reference's Num: the number that a numeral tells.
-/
import Derived.Test.YtnhbnggkaomfcaaDoorNB
set_option linter.unusedVariables false
namespace Go.Proofs.YtnhbnggkaomfcaaDoor
open Go Go.RowKit

theorem decV_take (D : List UInt8) (k : Nat) : decV 0 (D.take k) ≤ decV 0 D := by
  have h := decV_append (D.take k) (D.drop k) 0
  rw [List.take_append_drop] at h
  rw [h]
  exact decV_ge _ _
theorem decV_next (D : List UInt8) (k : Nat) (h : k < D.length) : decV 0 (D.take (k + 1)) = decV 0 (D.take k) * 10 + dv D[k] := by
  rw [List.take_succ_eq_append_getElem h, decV_snoc]
/-- L is a numeral's text to be: D behind its sign. -/
structure Dg (neg : Bool) (L D : List UInt8) : Prop where
  sign : (neg = true ∧ L = 45 :: D) ∨ (neg = false ∧ L = D ∧ D.head? ≠ some 45)
  ne : D ≠ []
  nought : D.head? = some 48 → L = [48]
theorem Dg.good {neg : Bool} {L D : List UInt8} (h : Dg neg L D) {x : Int} (hx : numL L = some x) : (∀ c ∈ D, isDig c) ∧ decV 0 D ≤ 9223372036854775808 := by
  rcases numL_shape hx with ⟨d, e, h1, h2, h3, h4, h5, h6⟩ | ⟨h0, h1, h2, h3, h4, h5, h6⟩
  · rcases h.sign with ⟨_, e2⟩ | ⟨_, e2, hh⟩
    · rw [e] at e2
      injection e2 with _ e2
      subst e2
      exact ⟨h2, h5⟩
    · rw [← e2, e] at hh
      exact absurd rfl hh
  · rcases h.sign with ⟨_, e2⟩ | ⟨_, e2, hh⟩
    · rw [e2] at h0
      exact absurd rfl h0
    · subst e2
      exact ⟨h2, by omega⟩
theorem Dg.byte {neg : Bool} {L D : List UInt8} (h : Dg neg L D) {k : Nat} (hk : k < D.length) (hd : ¬ isDig D[k]) : numL L = none := by
  cases e : numL L with
  | none => rfl
  | some x => exact absurd ((h.good e).1 _ (List.getElem_mem hk)) hd
theorem Dg.big {neg : Bool} {L D : List UInt8} (h : Dg neg L D) {k : Nat} (hk : 9223372036854775808 < decV 0 (D.take k)) : numL L = none := by
  cases e : numL L with
  | none => rfl
  | some x =>
    have := (h.good e).2
    have := decV_take D k
    omega
theorem Dg.neg_fin {L D : List UInt8} (h : Dg true L D) (hd : ∀ c ∈ D, isDig c) (hv : decV 0 D ≤ 9223372036854775808) : numL L = some (-(decV 0 D : Int)) := by
  rcases h.sign with ⟨_, e⟩ | ⟨e, _⟩
  · rw [e]
    refine numL_minus h.ne hd (fun e2 => ?_) hv
    have := h.nought e2
    rw [e] at this
    injection this with this
    exact absurd this (by decide)
  · cases e
theorem Dg.pos_fin {L D : List UInt8} (h : Dg false L D) (hd : ∀ c ∈ D, isDig c) (hv : decV 0 D ≤ 9223372036854775807) : numL L = some (decV 0 D : Int) := by
  rcases h.sign with ⟨e, _⟩ | ⟨_, e, _⟩
  · cases e
  · subst e
    exact numL_digits h.ne hd h.nought hv
theorem Dg.pos_big {L D : List UInt8} (h : Dg false L D) (hv : decV 0 D = 9223372036854775808) : numL L = none := by
  cases e : numL L with
  | none => rfl
  | some x =>
    rcases h.sign with ⟨e2, _⟩ | ⟨_, e2, hh⟩
    · cases e2
    · subst e2
      rcases numL_shape e with ⟨d, e, _⟩ | ⟨h0, h1, h2, h3, h4, h5, h6⟩
      · rw [e] at hh; exact absurd rfl hh
      · omega
theorem numL_nil : numL [] = none := numL_of_none fun x _ e => itoa_ne x e
theorem numL_sign : numL [45] = none := by
  cases e : numL [45] with
  | none => rfl
  | some x =>
    rcases numL_shape e with ⟨d, e, h1, _⟩ | ⟨h0, _⟩
    · injection e with _ e; exact absurd e.symm h1
    · exact absurd rfl h0
theorem numL_long {neg : Bool} {L D : List UInt8} (h : (neg = true ∧ L = 45 :: D) ∨ (neg = false ∧ L = D ∧ D.head? ≠ some 45)) (hl : 19 < D.length) : numL L = none := by
  cases e : numL L with
  | none => rfl
  | some x =>
    rcases numL_shape e with ⟨d, e1, h1, h2, h3, h4, _⟩ | ⟨h0, h1, h2, h3, h4, _⟩
    · rcases h with ⟨_, e2⟩ | ⟨_, e2, hh⟩
      · rw [e1] at e2; injection e2 with _ e2; subst e2; omega
      · rw [← e2, e1] at hh; exact absurd rfl hh
    · rcases h with ⟨_, e2⟩ | ⟨_, e2, hh⟩
      · rw [e2] at h0; exact absurd rfl h0
      · subst e2; omega
theorem numL_nought {neg : Bool} {L D : List UInt8} (h : (neg = true ∧ L = 45 :: D) ∨ (neg = false ∧ L = D ∧ D.head? ≠ some 45)) (hh : D.head? = some 48) (hl : L ≠ [48]) : numL L = none := by
  cases e : numL L with
  | none => rfl
  | some x =>
    rcases numL_shape e with ⟨d, e1, h1, h2, h3, h4, _⟩ | ⟨h0, h1, h2, h3, h4, _⟩
    · rcases h with ⟨_, e2⟩ | ⟨_, e2, hh2⟩
      · rw [e1] at e2; injection e2 with _ e2; subst e2; exact absurd hh h3
      · rw [← e2, e1] at hh2; exact absurd rfl hh2
    · rcases h with ⟨_, e2⟩ | ⟨_, e2, hh2⟩
      · rw [e2] at h0; exact absurd rfl h0
      · subst e2; exact absurd (h3 hh) hl
/-- the quotient by which the reference asks whether one digit more fits. -/
theorem quo_least (x : Int) (h0 : 0 ≤ x) (h9 : x ≤ 9) : (-9223372036854775808 + x).tdiv 10 = -((9223372036854775808 - x) / 10) := by
  rw [show -9223372036854775808 + x = -(9223372036854775808 - x) from by omega, Int.neg_tdiv, Int.tdiv_eq_ediv_of_nonneg (by omega)]
def NumP (s : ByteArray) (w : World) (e : Ending) (w' : World) : Prop := w = w' ∧ ((∃ x, numL s.data.toList = some x ∧ e = .returned (.tuple #[.int .i64 x, .bool true])) ∨ (numL s.data.toList = none ∧ e = .returned (.tuple #[.int .i64 0, .bool false])))
theorem headD (s : ByteArray) (h : 0 < s.size) : s.data.toList.head? = some s[0] := by
  have h' : 0 < s.data.size := h
  rw [List.head?_eq_getElem?, Array.getElem?_toList, Array.getElem?_eq_getElem h']
  rfl
theorem u8T {c : UInt8} {n : Nat} {z : Int} (hn : n < 256) (hz : z = (n : Int)) (h : c = UInt8.ofNat n) : ((c.toNat : Int) == z) = true := by
  subst h
  subst hz
  refine beqT ?_
  rw [UInt8.toNat_ofNat']
  omega
theorem u8F {c : UInt8} {n : Nat} {z : Int} (hn : n < 256) (hz : z = (n : Int)) (h : ¬ c = UInt8.ofNat n) : ((c.toNat : Int) == z) = false := by
  subst hz
  refine beqF fun e => h ?_
  apply UInt8.toNat_inj.1
  rw [UInt8.toNat_ofNat']
  omega
theorem notT {a b : ByteArray} (h : ¬ a = b) : (!a.toList == b.toList) = true := by rw [strF h]; rfl
theorem notF {a b : ByteArray} (h : a = b) : (!a.toList == b.toList) = false := by rw [strT h]; rfl
theorem l48 : (mk [48]).toList = [48] := by rw [ByteArray.toList_eq]; rfl
theorem ex1 (s : ByteArray) (h : 1 ≤ s.size) : s.data.toList = s[0] :: (s.extract 1 s.size).data.toList := by
  have h' : 0 < s.data.toList.length := by rw [Array.length_toList]; exact h
  rw [Lib.extract_data]
  have e : s.size = s.data.toList.length := by rw [Array.length_toList]; rfl
  rw [e, List.take_of_length_le (by simp)]
  have := List.drop_eq_getElem_cons (i := 0) h'
  rw [List.drop_zero] at this
  exact this
set_option maxHeartbeats 8000000 in
theorem num_neg (s : ByteArray) (w : World) (hs : s.size ≤ 9223372036854775807) (h0 : 1 ≤ s.size) (h45 : s[0] = 45) (h1 : 1 ≤ s.size - 1) (h19 : s.size - 1 ≤ 19) (hz : ¬ (s.extract 1 s.size)[0]'(by simp; omega) = 48) (hD : Dg true s.data.toList (s.extract 1 s.size).data.toList) : Calls Tryd.prog 28 #[.string s] w (NumP s w) := by
  have b45 : ((s[0].toNat : Int) == 45) = true := u8T (n := 45) (by omega) rfl h45
  have b48 : ((((s.extract 1 s.size)[0]'(by simp; omega)).toNat : Int) == 48) = false := u8F (n := 48) (by omega) rfl hz
  have e0 : ((((s.size - 1 : Nat) : Int)) == 0) = false := beqF (by omega)
  clear h45 hz
  have HD := Lib.hid hD
  clear hD
  have HL := Lib.hid (show (s.extract 1 s.size).data.toList.length = (s.size - 1) from by rw [Array.length_toList]; show (s.extract 1 s.size).size = _; first | rfl | simp)
  go_enter Tryd.func28, Tryd.ntmps28
  go_wp2
  go_loop [5, 6] (fun nv kv => ∃ k m : Nat, k ≤ (s.size - 1) ∧ kv = .int .i64 (k : Int) ∧ nv = .int .i64 (-(m : Int)) ∧ m = decV 0 ((s.extract 1 s.size).data.toList.take k) ∧ m ≤ 9223372036854775808 ∧ ∀ c ∈ (s.extract 1 s.size).data.toList.take k, isDig c) (fun _ kv => (s.size - 1) + 1 - (intOf kv).toNat)
  case atStart => exact ⟨0, 0, by omega, rfl, rfl, by rw [List.take_zero, decV_nil], by omega, fun c hc => by simp at hc⟩
  case round =>
    obtain ⟨k, m, hk, rfl, rfl, hme, hm, hdg⟩ := hrel
    have HM := Lib.hid hme
    have HG := Lib.hid hdg
    clear hme hdg
    by_cases hlt : k < (s.size - 1)
    · have hkD : k < (s.extract 1 s.size).data.toList.length := by rw [HL.out]; exact hlt
      have hkd : k < (s.extract 1 s.size).size := by first | exact hlt | (simp; omega)
      have hce : (s.extract 1 s.size).data.toList[k] = (s.extract 1 s.size)[k] := rfl
      have HC := Lib.hid hce
      clear hce
      have hc2 : (s.extract 1 s.size)[k].toNat < 256 := (s.extract 1 s.size)[k].toNat_lt
      obtain ⟨c, hc⟩ : ∃ c : Nat, (s.extract 1 s.size)[k].toNat = c := ⟨_, rfl⟩
      rw [hc] at hc2
      have HCN := Lib.hid hc
      by_cases hdig : 48 ≤ c ∧ c ≤ 57
      · obtain ⟨h48, h57⟩ := hdig
        have hdgk : isDig (s.extract 1 s.size).data.toList[k] := by unfold isDig; rw [HC.out, hc]; omega
        have hdv : dv (s.extract 1 s.size).data.toList[k] = c - 48 := by rw [dv_eq, HC.out, hc]
        have hnx := decV_next (s.extract 1 s.size).data.toList k hkD
        rw [hdv, ← HM.out] at hnx
        have HN := Lib.hid hnx
        have HI := Lib.hid hdgk
        have hq := quo_least ((c : Int) - 48) (by omega) (by omega)
        have HQ0 := Lib.hid hq
        by_cases hov : m * 10 + (c - 48) ≤ 9223372036854775808
        · have ht : decide (-(m : Int) < (-9223372036854775808 + ((c : Int) - 48)).tdiv 10) = false := dF (by rw [hq]; omega)
          clear hdgk hdv hnx hq
          go_wp2
          go_round
          case rel => exact ⟨k + 1, m * 10 + (c - 48), by omega, by go_num, by rw [show (10 * -(m : Int) - ((c : Int) - 48)) = -((m * 10 + (c - 48) : Nat) : Int) from by omega], by rw [HN.out], hov, fun x hx => by
            rw [List.take_succ_eq_append_getElem hkD] at hx
            rcases List.mem_append.1 hx with hx | hx
            · exact HG.out x hx
            · rw [List.mem_singleton.1 hx]; exact HI.out⟩
          case measure => simp [intOf]; omega
        · have ht : decide (-(m : Int) < (-9223372036854775808 + ((c : Int) - 48)).tdiv 10) = true := dT (by rw [hq]; omega)
          have HQ := Lib.hid (HD.out.big (k := k + 1) (by rw [hnx]; omega))
          clear hdgk hdv hnx hq
          go_wp2
          go_ret2
          exact ⟨rfl, .inr ⟨HQ.out, rfl⟩⟩
      · have HQ := Lib.hid (HD.out.byte hkD (by unfold isDig; rw [HC.out, hc]; omega))
        rcases (by omega : c < 48 ∨ 57 < c) with h | h
        all_goals
          clear hdig
          go_wp2
          go_ret2
          exact ⟨rfl, .inr ⟨HQ.out, rfl⟩⟩
    · obtain rfl : k = (s.size - 1) := by omega
      rw [← HL.out, List.take_length] at HM HG
      have HQ := Lib.hid (HD.out.neg_fin HG.out (by rw [← HM.out]; exact hm))
      go_wp2
      go_ret2
      exact ⟨rfl, .inl ⟨_, HQ.out, by rw [← HM.out]; rfl⟩⟩
set_option maxHeartbeats 8000000 in
theorem num_pos (s : ByteArray) (w : World) (hs : s.size ≤ 9223372036854775807) (h0 : 1 ≤ s.size) (h45 : ¬ s[0] = 45) (h19 : s.size ≤ 19) (hz : ¬ s[0] = 48) (hD : Dg false s.data.toList (s).data.toList) : Calls Tryd.prog 28 #[.string s] w (NumP s w) := by
  have b45 : ((s[0].toNat : Int) == 45) = false := u8F (n := 45) (by omega) rfl h45
  have b48 : ((s[0].toNat : Int) == 48) = false := u8F (n := 48) (by omega) rfl hz
  have e0 : ((s.size : Int) == 0) = false := beqF (by omega)
  clear h45 hz
  have HD := Lib.hid hD
  clear hD
  have HL := Lib.hid (show (s).data.toList.length = s.size from by rw [Array.length_toList]; show (s).size = _; first | rfl | simp)
  go_enter Tryd.func28, Tryd.ntmps28
  go_wp2
  go_loop [5, 6] (fun nv kv => ∃ k m : Nat, k ≤ s.size ∧ kv = .int .i64 (k : Int) ∧ nv = .int .i64 (-(m : Int)) ∧ m = decV 0 ((s).data.toList.take k) ∧ m ≤ 9223372036854775808 ∧ ∀ c ∈ (s).data.toList.take k, isDig c) (fun _ kv => s.size + 1 - (intOf kv).toNat)
  case atStart => exact ⟨0, 0, by omega, rfl, rfl, by rw [List.take_zero, decV_nil], by omega, fun c hc => by simp at hc⟩
  case round =>
    obtain ⟨k, m, hk, rfl, rfl, hme, hm, hdg⟩ := hrel
    have HM := Lib.hid hme
    have HG := Lib.hid hdg
    clear hme hdg
    by_cases hlt : k < s.size
    · have hkD : k < (s).data.toList.length := by rw [HL.out]; exact hlt
      have hkd : k < (s).size := by first | exact hlt | (simp; omega)
      have hce : (s).data.toList[k] = (s)[k] := rfl
      have HC := Lib.hid hce
      clear hce
      have hc2 : (s)[k].toNat < 256 := (s)[k].toNat_lt
      obtain ⟨c, hc⟩ : ∃ c : Nat, (s)[k].toNat = c := ⟨_, rfl⟩
      rw [hc] at hc2
      have HCN := Lib.hid hc
      by_cases hdig : 48 ≤ c ∧ c ≤ 57
      · obtain ⟨h48, h57⟩ := hdig
        have hdgk : isDig (s).data.toList[k] := by unfold isDig; rw [HC.out, hc]; omega
        have hdv : dv (s).data.toList[k] = c - 48 := by rw [dv_eq, HC.out, hc]
        have hnx := decV_next (s).data.toList k hkD
        rw [hdv, ← HM.out] at hnx
        have HN := Lib.hid hnx
        have HI := Lib.hid hdgk
        have hq := quo_least ((c : Int) - 48) (by omega) (by omega)
        have HQ0 := Lib.hid hq
        by_cases hov : m * 10 + (c - 48) ≤ 9223372036854775808
        · have ht : decide (-(m : Int) < (-9223372036854775808 + ((c : Int) - 48)).tdiv 10) = false := dF (by rw [hq]; omega)
          clear hdgk hdv hnx hq
          go_wp2
          go_round
          case rel => exact ⟨k + 1, m * 10 + (c - 48), by omega, by go_num, by rw [show (10 * -(m : Int) - ((c : Int) - 48)) = -((m * 10 + (c - 48) : Nat) : Int) from by omega], by rw [HN.out], hov, fun x hx => by
            rw [List.take_succ_eq_append_getElem hkD] at hx
            rcases List.mem_append.1 hx with hx | hx
            · exact HG.out x hx
            · rw [List.mem_singleton.1 hx]; exact HI.out⟩
          case measure => simp [intOf]; omega
        · have ht : decide (-(m : Int) < (-9223372036854775808 + ((c : Int) - 48)).tdiv 10) = true := dT (by rw [hq]; omega)
          have HQ := Lib.hid (HD.out.big (k := k + 1) (by rw [hnx]; omega))
          clear hdgk hdv hnx hq
          go_wp2
          go_ret2
          exact ⟨rfl, .inr ⟨HQ.out, rfl⟩⟩
      · have HQ := Lib.hid (HD.out.byte hkD (by unfold isDig; rw [HC.out, hc]; omega))
        rcases (by omega : c < 48 ∨ 57 < c) with h | h
        all_goals
          clear hdig
          go_wp2
          go_ret2
          exact ⟨rfl, .inr ⟨HQ.out, rfl⟩⟩
    · obtain rfl : k = s.size := by omega
      rw [← HL.out, List.take_length] at HM HG
      by_cases hb : m = 9223372036854775808
      · have HQ := Lib.hid (HD.out.pos_big (by rw [← HM.out]; exact hb))
        subst hb
        go_wp2
        go_ret2
        exact ⟨rfl, .inr ⟨HQ.out, rfl⟩⟩
      · have HQ := Lib.hid (HD.out.pos_fin HG.out (by rw [← HM.out]; omega))
        have hb1 : (-(m : Int) == -9223372036854775808) = false := beqF (by omega)
        go_wp2
        go_ret2
        exact ⟨rfl, .inl ⟨_, HQ.out, by rw [← HM.out]; simp⟩⟩
set_option maxHeartbeats 8000000 in
theorem num_zero (s : ByteArray) (w : World) (hs : s.size ≤ 9223372036854775807) (h0 : 1 ≤ s.size) (h45 : ¬ s[0] = 45) (h19 : s.size ≤ 19) (h48 : s[0] = 48) (hz : s = mk [48]) (hD : Dg false s.data.toList (s).data.toList) : Calls Tryd.prog 28 #[.string s] w (NumP s w) := by
  have b45 : ((s[0].toNat : Int) == 45) = false := u8F (n := 45) (by omega) rfl h45
  have b48 : ((s[0].toNat : Int) == 48) = true := u8T (n := 48) (by omega) rfl h48
  have b48n : (!s.toList == [48]) = false := by have := notF hz; rw [l48] at this; exact this
  have e0 : ((s.size : Int) == 0) = false := beqF (by omega)
  clear h45 hz h48
  have HD := Lib.hid hD
  clear hD
  have HL := Lib.hid (show (s).data.toList.length = s.size from by rw [Array.length_toList]; show (s).size = _; first | rfl | simp)
  go_enter Tryd.func28, Tryd.ntmps28
  go_wp2
  go_loop [5, 6] (fun nv kv => ∃ k m : Nat, k ≤ s.size ∧ kv = .int .i64 (k : Int) ∧ nv = .int .i64 (-(m : Int)) ∧ m = decV 0 ((s).data.toList.take k) ∧ m ≤ 9223372036854775808 ∧ ∀ c ∈ (s).data.toList.take k, isDig c) (fun _ kv => s.size + 1 - (intOf kv).toNat)
  case atStart => exact ⟨0, 0, by omega, rfl, rfl, by rw [List.take_zero, decV_nil], by omega, fun c hc => by simp at hc⟩
  case round =>
    obtain ⟨k, m, hk, rfl, rfl, hme, hm, hdg⟩ := hrel
    have HM := Lib.hid hme
    have HG := Lib.hid hdg
    clear hme hdg
    by_cases hlt : k < s.size
    · have hkD : k < (s).data.toList.length := by rw [HL.out]; exact hlt
      have hkd : k < (s).size := by first | exact hlt | (simp; omega)
      have hce : (s).data.toList[k] = (s)[k] := rfl
      have HC := Lib.hid hce
      clear hce
      have hc2 : (s)[k].toNat < 256 := (s)[k].toNat_lt
      obtain ⟨c, hc⟩ : ∃ c : Nat, (s)[k].toNat = c := ⟨_, rfl⟩
      rw [hc] at hc2
      have HCN := Lib.hid hc
      by_cases hdig : 48 ≤ c ∧ c ≤ 57
      · obtain ⟨h48, h57⟩ := hdig
        have hdgk : isDig (s).data.toList[k] := by unfold isDig; rw [HC.out, hc]; omega
        have hdv : dv (s).data.toList[k] = c - 48 := by rw [dv_eq, HC.out, hc]
        have hnx := decV_next (s).data.toList k hkD
        rw [hdv, ← HM.out] at hnx
        have HN := Lib.hid hnx
        have HI := Lib.hid hdgk
        have hq := quo_least ((c : Int) - 48) (by omega) (by omega)
        have HQ0 := Lib.hid hq
        by_cases hov : m * 10 + (c - 48) ≤ 9223372036854775808
        · have ht : decide (-(m : Int) < (-9223372036854775808 + ((c : Int) - 48)).tdiv 10) = false := dF (by rw [hq]; omega)
          clear hdgk hdv hnx hq
          go_wp2
          go_round
          case rel => exact ⟨k + 1, m * 10 + (c - 48), by omega, by go_num, by rw [show (10 * -(m : Int) - ((c : Int) - 48)) = -((m * 10 + (c - 48) : Nat) : Int) from by omega], by rw [HN.out], hov, fun x hx => by
            rw [List.take_succ_eq_append_getElem hkD] at hx
            rcases List.mem_append.1 hx with hx | hx
            · exact HG.out x hx
            · rw [List.mem_singleton.1 hx]; exact HI.out⟩
          case measure => simp [intOf]; omega
        · have ht : decide (-(m : Int) < (-9223372036854775808 + ((c : Int) - 48)).tdiv 10) = true := dT (by rw [hq]; omega)
          have HQ := Lib.hid (HD.out.big (k := k + 1) (by rw [hnx]; omega))
          clear hdgk hdv hnx hq
          go_wp2
          go_ret2
          exact ⟨rfl, .inr ⟨HQ.out, rfl⟩⟩
      · have HQ := Lib.hid (HD.out.byte hkD (by unfold isDig; rw [HC.out, hc]; omega))
        rcases (by omega : c < 48 ∨ 57 < c) with h | h
        all_goals
          clear hdig
          go_wp2
          go_ret2
          exact ⟨rfl, .inr ⟨HQ.out, rfl⟩⟩
    · obtain rfl : k = s.size := by omega
      rw [← HL.out, List.take_length] at HM HG
      by_cases hb : m = 9223372036854775808
      · have HQ := Lib.hid (HD.out.pos_big (by rw [← HM.out]; exact hb))
        subst hb
        go_wp2
        go_ret2
        exact ⟨rfl, .inr ⟨HQ.out, rfl⟩⟩
      · have HQ := Lib.hid (HD.out.pos_fin HG.out (by rw [← HM.out]; omega))
        have hb1 : (-(m : Int) == -9223372036854775808) = false := beqF (by omega)
        go_wp2
        go_ret2
        exact ⟨rfl, .inl ⟨_, HQ.out, by rw [← HM.out]; simp⟩⟩
set_option maxHeartbeats 4000000 in
theorem num_e0 (s : ByteArray) (w : World) (hs : s.size ≤ 9223372036854775807) (h0 : s.size = 0) (hq : numL s.data.toList = none) : Calls Tryd.prog 28 #[.string s] w (NumP s w) := by
  have HQ := Lib.hid hq
  clear hq
  go_enter Tryd.func28, Tryd.ntmps28
  go_wp2
  go_ret2
  exact ⟨rfl, .inr ⟨HQ.out, rfl⟩⟩
set_option maxHeartbeats 4000000 in
theorem num_e1 (s : ByteArray) (w : World) (hs : s.size ≤ 9223372036854775807) (h0 : s.size = 1) (h45 : s[0] = 45) (hq : numL s.data.toList = none) : Calls Tryd.prog 28 #[.string s] w (NumP s w) := by
  have b45 : ((s[0].toNat : Int) == 45) = true := u8T (n := 45) (by omega) rfl h45
  have e0 : ((((s.size - 1 : Nat) : Int)) == 0) = true := beqT (by omega)
  have h0' : 0 < s.size := by omega
  clear h45
  have HQ := Lib.hid hq
  clear hq
  go_enter Tryd.func28, Tryd.ntmps28
  go_wp2
  go_ret2
  exact ⟨rfl, .inr ⟨HQ.out, rfl⟩⟩
set_option maxHeartbeats 4000000 in
theorem num_e2 (s : ByteArray) (w : World) (hs : s.size ≤ 9223372036854775807) (h0 : 20 < s.size) (h45 : s[0] = 45) (hq : numL s.data.toList = none) : Calls Tryd.prog 28 #[.string s] w (NumP s w) := by
  have b45 : ((s[0].toNat : Int) == 45) = true := u8T (n := 45) (by omega) rfl h45
  have e0 : ((((s.size - 1 : Nat) : Int)) == 0) = false := beqF (by omega)
  have e1 : decide (19 < (((s.size - 1 : Nat) : Int))) = true := dT (by omega)
  clear h45
  have HQ := Lib.hid hq
  clear hq
  go_enter Tryd.func28, Tryd.ntmps28
  go_wp2
  go_ret2
  exact ⟨rfl, .inr ⟨HQ.out, rfl⟩⟩
set_option maxHeartbeats 4000000 in
theorem num_e3 (s : ByteArray) (w : World) (hs : s.size ≤ 9223372036854775807) (h0 : 1 < s.size) (h1 : s.size ≤ 20) (h45 : s[0] = 45) (hz : (s.extract 1 s.size)[0]'(by simp; omega) = 48) (hq : numL s.data.toList = none) : Calls Tryd.prog 28 #[.string s] w (NumP s w) := by
  have b45 : ((s[0].toNat : Int) == 45) = true := u8T (n := 45) (by omega) rfl h45
  have b48 : ((((s.extract 1 s.size)[0]'(by simp; omega)).toNat : Int) == 48) = true := u8T (n := 48) (by omega) rfl hz
  have b48n : (!s.toList == [48]) = true := by
    have := notT (a := s) (b := mk [48]) (fun e => by rw [e] at h0; exact absurd h0 (by decide))
    rw [l48] at this; exact this
  have e0 : ((((s.size - 1 : Nat) : Int)) == 0) = false := beqF (by omega)
  have e1 : decide (19 < (((s.size - 1 : Nat) : Int))) = false := dF (by omega)
  clear h45 hz
  have HQ := Lib.hid hq
  clear hq
  go_enter Tryd.func28, Tryd.ntmps28
  go_wp2
  go_ret2
  exact ⟨rfl, .inr ⟨HQ.out, rfl⟩⟩
set_option maxHeartbeats 4000000 in
theorem num_e4 (s : ByteArray) (w : World) (hs : s.size ≤ 9223372036854775807) (h0 : 19 < s.size) (h45 : ¬ s[0] = 45) (hq : numL s.data.toList = none) : Calls Tryd.prog 28 #[.string s] w (NumP s w) := by
  have b45 : ((s[0].toNat : Int) == 45) = false := u8F (n := 45) (by omega) rfl h45
  have e0 : ((s.size : Int) == 0) = false := beqF (by omega)
  clear h45
  have HQ := Lib.hid hq
  clear hq
  go_enter Tryd.func28, Tryd.ntmps28
  go_wp2
  go_ret2
  exact ⟨rfl, .inr ⟨HQ.out, rfl⟩⟩
set_option maxHeartbeats 4000000 in
theorem num_e5 (s : ByteArray) (w : World) (hs : s.size ≤ 9223372036854775807) (h0 : 1 ≤ s.size) (h1 : s.size ≤ 19) (h45 : ¬ s[0] = 45) (h48 : s[0] = 48) (hz : ¬ s = mk [48]) (hq : numL s.data.toList = none) : Calls Tryd.prog 28 #[.string s] w (NumP s w) := by
  have b45 : ((s[0].toNat : Int) == 45) = false := u8F (n := 45) (by omega) rfl h45
  have b48 : ((s[0].toNat : Int) == 48) = true := u8T (n := 48) (by omega) rfl h48
  have b48n : (!s.toList == [48]) = true := by have := notT hz; rw [l48] at this; exact this
  have e0 : ((s.size : Int) == 0) = false := beqF (by omega)
  clear h45 hz h48
  have HQ := Lib.hid hq
  clear hq
  go_enter Tryd.func28, Tryd.ntmps28
  go_wp2
  go_ret2
  exact ⟨rfl, .inr ⟨HQ.out, rfl⟩⟩
theorem num_any (s : ByteArray) (w : World) (hs : s.size ≤ 9223372036854775807) : Calls Tryd.prog 28 #[.string s] w (NumP s w) := by
  have hlen : s.data.toList.length = s.size := by rw [Array.length_toList]; rfl
  by_cases h0 : s.size = 0
  · exact num_e0 s w hs h0 (by rw [List.eq_nil_of_length_eq_zero (hlen.trans h0)]; exact numL_nil)
  by_cases h45 : s[0] = 45
  · have he := ex1 s (by omega)
    rw [h45] at he
    have hdl : (s.extract 1 s.size).data.toList.length = s.size - 1 := by
      have := congrArg List.length he
      rw [hlen] at this; simp only [List.length_cons] at this; omega
    by_cases h1 : s.size = 1
    · refine num_e1 s w hs h1 h45 ?_
      rw [he, List.eq_nil_of_length_eq_zero (by omega : (s.extract 1 s.size).data.toList.length = 0)]
      exact numL_sign
    · have hsg : (true = true ∧ s.data.toList = 45 :: (s.extract 1 s.size).data.toList) ∨ (true = false ∧ s.data.toList = (s.extract 1 s.size).data.toList ∧ (s.extract 1 s.size).data.toList.head? ≠ some 45) := .inl ⟨rfl, he⟩
      by_cases h2 : 20 < s.size
      · exact num_e2 s w hs h2 h45 (numL_long hsg (by omega))
      · have hh := headD (s.extract 1 s.size) (by simp; omega)
        by_cases hz : (s.extract 1 s.size)[0]'(by simp; omega) = 48
        · refine num_e3 s w hs (by omega) (by omega) h45 hz (numL_nought hsg (by rw [hh, hz]) (fun e => ?_))
          have := congrArg List.length e
          rw [hlen] at this; simp only [List.length_cons, List.length_nil] at this; omega
        · exact num_neg s w hs (by omega) h45 (by omega) (by omega) hz ⟨hsg, fun e => by rw [e] at hdl; simp only [List.length_nil] at hdl; omega, fun e => by rw [hh] at e; exact absurd (Option.some.inj e) hz⟩
  · have hh := headD s (by omega)
    have hsg : (false = true ∧ s.data.toList = 45 :: s.data.toList) ∨ (false = false ∧ s.data.toList = s.data.toList ∧ s.data.toList.head? ≠ some 45) := .inr ⟨rfl, rfl, fun e => by rw [hh] at e; exact h45 (Option.some.inj e)⟩
    by_cases h1 : 19 < s.size
    · exact num_e4 s w hs h1 h45 (numL_long hsg (by omega))
    · have hne : s.data.toList ≠ [] := fun e => by rw [e] at hlen; simp only [List.length_nil] at hlen; omega
      by_cases hz : s[0] = 48
      · by_cases he : s = mk [48]
        · exact num_zero s w hs (by omega) h45 (by omega) hz he ⟨hsg, hne, fun _ => by rw [he, mk_list]⟩
        · refine num_e5 s w hs (by omega) (by omega) h45 hz he (numL_nought hsg (by rw [hh, hz]) (fun e => he ?_))
          apply bytes_eq; rw [e, mk_list]
      · exact num_pos s w hs (by omega) h45 (by omega) hz ⟨hsg, hne, fun e => by rw [hh] at e; exact absurd (Option.some.inj e) hz⟩
end Go.Proofs.YtnhbnggkaomfcaaDoor
