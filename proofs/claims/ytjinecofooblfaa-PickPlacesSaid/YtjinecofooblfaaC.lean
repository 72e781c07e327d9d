/-
  The laws of who is picked: their walks.
-/
import Derived.Test.YtjinecofooblfaaB
set_option linter.unusedVariables false
namespace Go.Proofs.Ytjinecofooblfaa
open Go.RowKit

theorem run_mk (n : Nat) (hn : n ≤ 100000) (w : World) : (Instr.makeSlice 23 (.int .i64 (n : Int)) (.int .i64 (n : Int))).run Try.prog w = .ok (.slice (some ⟨w.heap.size, 0, none⟩) n n) (w.alloc (.cells (rowA (fun _ => 0) n) 3)) := by
  obtain ⟨i0, hi, hz0, hz1, hz2⟩ := info_parts (show (Try.prog.info? 3).map (fun i => (i.zero, i.size, i.bytes)) = some (some (.int .i64 0), 1, 8) from by kernel_rfl)
  have h := run_make (P := Try.prog) w 23 3 i0 (.int .i64 0) Try.underlying23 hi hz0 .i64 .i64 n n (by omega) (by omega) (by rw [hz2]; omega) (by omega)
  rw [hz1, Int.toNat_natCast, Nat.mul_one, madeCells_row] at h
  exact h

theorem aw1 (cap b : Nat) (w : World) (hc : Row w b 0 [3, 5, 8]) :
    Calls Try.prog 7 #[.slice (some ⟨b, 0, none⟩) 3 cap, .int .i64 (-1)] w fun e w' => e = .returned (.tuple #[.int .i64 8, .bool true]) ∧ w = w' :=
  of_any b 0 cap [3, 5, 8] (-1) w (by simp) (by simp) hc
theorem aw2 (cap b : Nat) (w : World) (hc : Row w b 0 [3, 5]) :
    Calls Try.prog 6 #[.slice (some ⟨b, 0, none⟩) 2 cap, .int .i64 5] w fun e w' => e = .returned (.tuple #[.int .i64 1, .bool true]) ∧ w = w' :=
  place_yes b 0 cap [3, 5] 5 1 w (by simp) (by simp) rfl (by
    intro j hj
    have h : j = 0 := by omega
    subst h
    decide) hc
theorem aw3 (cap b : Nat) (w : World) (hc : Row w b 0 [3, 5]) :
    Calls Try.prog 6 #[.slice (some ⟨b, 0, none⟩) 2 cap, .int .i64 4] w fun e w' => e = .returned (.tuple #[.int .i64 0, .bool false]) ∧ w = w' :=
  place_no b 0 cap [3, 5] 4 w (by simp) (by
    intro j hj
    have h : j = 0 ∨ j = 1 := by simp at hj; omega
    rcases h with rfl | rfl <;> decide) hc
theorem aw4 (cap b : Nat) (w : World) (hb : b < w.heap.size) (hc : Row w b 0 [3, 5, 8]) :
    Calls Try.prog 8 #[.slice (some ⟨b, 0, none⟩) 3 cap, .int .i64 8] w fun e w' => e = .returned (.tuple #[.int .i64 0, .bool true]) ∧ Below w.heap.size w w' :=
  (turn_any b 0 cap [3, 5, 8] 8 w (by simp) (by simp) hb hc).mono (by
    rintro e w' ⟨k, rfl, ⟨hk, h⟩, hb⟩
    have h0 : k = 0 := by
      have hk' : k = 0 ∨ k = 1 ∨ k = 2 := by simp at hk; omega
      rcases hk' with rfl | rfl | rfl
      · rfl
      · rcases h with ⟨h, _⟩ | ⟨_, h⟩
        · exact absurd h (by decide)
        · exact absurd (h 0 (by simp)) (by decide)
      · rcases h with ⟨h, _⟩ | ⟨_, h⟩
        · exact absurd h (by decide)
        · exact absurd (h 0 (by simp)) (by decide)
    subst h0
    exact ⟨rfl, hb⟩)
set_option maxHeartbeats 1000000 in
theorem awake_any (w : World) :
    Calls Try.prog 5 #[] w fun e w' => e = .returned (.bool true) ∧ Below w.heap.size w w' := by
  go_enter Try.func5, Try.ntmps5
  go_wp2_with fail
  refine (aw1 _ _ _ (by exact row3 _ _ _ _ _ _ (by simp))).mono ?_
  rintro e w' ⟨rfl, rfl⟩
  go_wp2_with fail
  refine (of_none _ _).mono ?_
  rintro e w' ⟨rfl, rfl⟩
  go_wp2_with fail
  refine (aw2 _ _ _ (by exact row2 _ _ _ _ _ (by simp))).mono ?_
  rintro e w' ⟨rfl, rfl⟩
  go_wp2_with fail
  refine (aw3 _ _ _ (by exact row2 _ _ _ _ _ (by simp))).mono ?_
  rintro e w' ⟨rfl, rfl⟩
  go_wp2_with fail
  refine (aw4 _ _ _ (by simp) (by exact row3 _ _ _ _ _ _ (by simp))).mono ?_
  rintro e w' ⟨rfl, hb⟩
  have HB := Lib.hid hb
  clear hb
  go_wp2
  go_ret
  refine ⟨rfl, ?_⟩
  have h1 := HB.out
  refine Below.trans ?_ (h1.mono (by simp; omega))
  exact ((((Below.refl _ _).alloc (Nat.le_refl _) _).alloc (by simp) _).alloc (by simp; omega) _).alloc (by simp; omega) _

theorem of_at (b off cap n j : Nat) (f : Nat → Int) (p : Int) (w : World) (hj : j < n) (hl : n ≤ 1000) (hp : p % n = j) (hc : Row w b off (rowL f n)) :
    Calls Try.prog 7 #[.slice (some ⟨b, off, none⟩) n cap, .int .i64 p] w fun e w' => e = .returned (.tuple #[.int .i64 (f j), .bool true]) ∧ w = w' := by
  have h := of_any b off cap (rowL f n) p w (by rw [rowL_length]; omega) (by rw [rowL_length]; omega) hc
  rw [rowL_length, hp, Int.toNat_natCast, rowL_get _ _ _ hj] at h
  exact h

/-- The numbers of the law: 1, 1 + g, 1 + 2 g ..; the first k of them laid. -/
def val (g : Int) (j : Nat) : Int := 1 + j * g
def fill (g : Int) (k : Nat) (j : Nat) : Int := if j < k then val g j else 0
theorem fill_all (g : Int) (n : Nat) : rowA (fill g n) n = rowA (val g) n := rowA_congr fun j hj => if_pos hj
theorem fill_zero (g : Int) (n : Nat) : rowA (fill g 0) n = rowA (fun _ => 0) n := rowA_congr fun j hj => if_neg (by omega)
theorem fill_set (g : Int) (n k : Nat) : (rowA (fill g k) n).setIfInBounds k (.int .i64 (1 + k * g)) = rowA (fill g (k + 1)) n := by
  rw [rowA_set]
  apply rowA_congr
  intro j hj
  unfold fill
  by_cases h : j = k
  · subst h; rw [if_pos rfl, if_pos (by omega)]; rfl
  · rw [if_neg h]
    by_cases h2 : j < k
    · rw [if_pos h2, if_pos (by omega)]
    · rw [if_neg h2, if_neg (by omega)]
theorem val_bd (g : Int) (j : Nat) (h1 : 1 ≤ g) (h2 : g ≤ 1000) (hj : j ≤ 100) : 0 ≤ (j : Int) * g ∧ (j : Int) * g ≤ 100000 := by
  refine ⟨Int.mul_nonneg (by omega) (by omega), ?_⟩
  have : (j : Int) * g ≤ 100 * 1000 := Int.mul_le_mul (by omega) (by omega) (by omega) (by omega)
  omega
theorem val_inj (g : Int) (h1 : 1 ≤ g) (i j : Nat) (h : val g i = val g j) : i = j := by
  unfold val at h
  have h2 : (i : Int) * g = j * g := by omega
  have := Int.eq_of_mul_eq_mul_right (by omega : g ≠ 0) h2
  omega

set_option maxHeartbeats 1000000 in
theorem places_yes (n k : Nat) (g : Int) (w : World) (hn1 : 1 ≤ n) (hn2 : n ≤ 60) (hg1 : 1 ≤ g) (hg2 : g ≤ 1000) (hk : k < n) :
    Calls Try.prog 3 #[.int .i64 n, .int .i64 g, .int .i64 k] w fun e w' => e = .returned (.bool true) ∧ Below w.heap.size w w' := by
  have HM := Lib.hid (fun w => run_mk n (by omega) w)
  have hmk := HM.out
  go_enter Try.func3, Try.ntmps3
  go_wp2_with fail
  clear hmk
  go_loopw [8] (fun i wr => ∃ j : Nat, j ≤ n ∧ i = .int .i64 j ∧ wr = w.alloc (.cells (rowA (fill g j) n) 3)) (fun i _ => n + 1 - (intOf i).toNat)
  case atStart => exact ⟨0, by omega, rfl, by rw [fill_zero]⟩
  case round =>
    obtain ⟨j, hj, rfl, rfl⟩ := hrel
    by_cases hjn : j < n
    · obtain ⟨v1, v2⟩ := val_bd g j hg1 hg2 (by omega)
      have hcell := rowA_get (fill g j) n j hjn
      have hset := fill_set g n j
      have HS := Lib.hid hset
      clear hset
      generalize fill g j j = z at *
      generalize rowA (fill g j) n = A at *
      go_wp2
      go_roundw
      case rel => exact ⟨j + 1, by omega, by go_num, by rw [← HS.out]⟩
      case measure => simp [intOf]; omega
    · have hjn2 : j = n := by omega
      subst hjn2
      rw [fill_all]
      have hrow : Row (w.alloc (.cells (rowA (val g) j) 3)) w.heap.size 0 (rowL (val g) j) := row_new
      have hbel : Below w.heap.size w (w.alloc (.cells (rowA (val g) j) 3)) := (Below.refl _ _).alloc (Nat.le_refl _) _
      have hlt : w.heap.size < (w.alloc (.cells (rowA (val g) j) 3)).heap.size := by simp
      generalize w.alloc (.cells (rowA (val g) j) 3) = W at *
      have hck := hrow k (by rw [rowL_length]; exact hk)
      rw [rowL_get _ _ _ hk, Nat.zero_add] at hck
      have hone := place_yes w.heap.size 0 j (rowL (val g) j) (val g k) k W (by rw [rowL_length]; omega) (by rw [rowL_length]; exact hk) (rowL_get _ _ _ hk) (fun q hq => by
        rw [rowL_get _ _ _ (by omega)]; exact fun h => by have := val_inj g hg1 _ _ h; omega) hrow
      rw [rowL_length] at hone
      have HO := Lib.hid hone
      have HR := Lib.hid hrow
      have HB := Lib.hid hbel
      clear hone hrow hbel
      go_wp2_with fail
      refine HO.out.mono ?_
      rintro e w' ⟨rfl, rfl⟩
      clear HO
      go_wp2_with fail
      go_loop [11] (fun i => ∃ q : Nat, q ≤ j ∧ i = .int .i64 q) (fun i => j + 1 - (intOf i).toNat)
      case atStart => exact ⟨0, by omega, rfl⟩
      case round =>
        obtain ⟨q, hq, rfl⟩ := hrel
        by_cases hqn : q < j
        · have H1 := Lib.hid (fun cap => of_at w.heap.size 0 cap j q (val g) q W hqn (by omega) (Int.emod_eq_of_lt (by omega) (by omega)) HR.out)
          have H2 := Lib.hid (fun cap => of_at w.heap.size 0 cap j q (val g) (q - j) W hqn (by omega) (by rw [Int.sub_emod_right]; exact Int.emod_eq_of_lt (by omega) (by omega)) HR.out)
          go_wp2_with fail
          refine (H1.out _).mono ?_
          rintro e w' ⟨rfl, rfl⟩
          go_wp2_with fail
          refine (H2.out _).mono ?_
          rintro e w' ⟨rfl, rfl⟩
          by_cases hqk : q = k
          · subst hqk
            go_wp2_with fail
            go_round
            case rel => exact ⟨q + 1, by omega, by go_num⟩
            case measure => simp [intOf]; omega
          · have e1 : (val g q == val g k) = false := beqF (fun h => hqk (val_inj g hg1 _ _ h))
            have e2 : ((q : Int) == (k : Int)) = false := beqF (by omega)
            clear hqk
            go_wp2_with fail
            go_round
            case rel => exact ⟨q + 1, by omega, by go_num⟩
            case measure => simp [intOf]; omega
        · go_wp2_with fail
          refine (awake_any _).mono ?_
          rintro e w' ⟨rfl, hb⟩
          have HX := Lib.hid hb
          clear hb
          go_wp2
          go_ret
          exact ⟨rfl, HB.out.trans (HX.out.mono (by omega))⟩

theorem has_empty (a : Option Addr) (cap : Nat) (p : Int) (w : World) :
    Calls Try.prog 9 #[.slice a 0 cap, .int .i64 p] w fun e w' => e = .returned (.bool false) ∧ w = w' := by
  go_enter Try.func9, Try.ntmps9
  go_wp2
  refine wp_loop_rounds 1 ?_
  rw [rounds_succ]
  go_wp2
  go_ret
  exact ⟨rfl, rfl⟩

/-- A row that the call owns, as a slice with its numbers. -/
theorem own_row {w : World} {base n : Nat} {v : Value} {xs : List Int} (h : w.ownsRow base 3 1 v n (xs.map (Value.int .i64))) :
    xs.length = n ∧ ((v = .slice none 0 0 ∧ xs = []) ∨ ∃ g cap, v = .slice (some ⟨g, 0, none⟩) xs.length cap ∧ base ≤ g ∧ g < w.heap.size ∧ Row w g 0 xs) := by
  obtain ⟨h1, h2⟩ := h
  have hl : xs.length = n := by simpa using h1
  refine ⟨hl, ?_⟩
  rcases h2 with ⟨rfl, rfl⟩ | ⟨g, cap, cur, rfl, hb, hh, hle, hcap, hs, ht⟩
  · exact .inl ⟨rfl, List.eq_nil_of_length_eq_zero hl⟩
  · refine .inr ⟨g, cap, by rw [hl], hb, lt_of_block hh, fun j hj => ?_⟩
    rw [World.cell?]
    simp only [hh, Nat.zero_add]
    have e : (cur.toList.take (n * 1))[j]? = (xs.map (Value.int .i64))[j]? := by rw [ht]
    rw [List.getElem?_take, if_pos (by omega)] at e
    simp only [Option.isSome_none, Bool.false_eq_true, if_false]
    rw [← Array.getElem?_toList, e]
    simp [hj]

theorem has_own (base : Nat) (v : Value) (n : Nat) (xs : List Int) (p : Int) (w : World) (hn : n ≤ 1000) (h : w.ownsRow base 3 1 v n (xs.map (Value.int .i64))) (hf : ∀ x ∈ xs, x ≠ p) :
    Calls Try.prog 9 #[v, .int .i64 p] w fun e w' => e = .returned (.bool false) ∧ w = w' := by
  obtain ⟨hl, ⟨rfl, rfl⟩ | ⟨g, cap, rfl, hb, hlt, hr⟩⟩ := own_row h
  · exact has_empty none 0 p w
  · exact (has_no g 0 cap xs p w (by omega) (fun j hj => hf _ (by rw [List.getD_eq_getElem?_getD, List.getElem?_eq_getElem hj]; exact List.getElem_mem hj)) hr)

/-! The turns, by the places in rising order. -/
def nxt (n c : Nat) : Nat := if c + 1 = n then 0 else c + 1
def back (n c t : Nat) : Nat := if t ≤ c then c - t else c + n - t
def valD (g : Int) (n : Nat) (p : Nat) : Int := val g (n - 1 - p)
def fillD (g : Int) (n k : Nat) (p : Nat) : Int := if n ≤ p + k then valD g n p else 0
theorem fillD_all (g : Int) (n : Nat) : rowA (fillD g n n) n = rowA (valD g n) n := rowA_congr fun j hj => if_pos (by omega)
theorem fillD_zero (g : Int) (n : Nat) : rowA (fillD g n 0) n = rowA (fun _ => 0) n := rowA_congr fun j hj => if_neg (by omega)
theorem fillD_set (g : Int) (n k : Nat) (hk : k < n) : (rowA (fillD g n k) n).setIfInBounds (n - 1 - k) (.int .i64 (1 + k * g)) = rowA (fillD g n (k + 1)) n := by
  rw [rowA_set]
  apply rowA_congr
  intro j hj
  unfold fillD
  by_cases h : j = n - 1 - k
  · rw [if_pos h, if_pos (by omega)]; unfold valD val; rw [show n - 1 - j = k from by omega]
  · rw [if_neg h]
    by_cases h2 : n ≤ j + k
    · rw [if_pos h2, if_pos (by omega)]
    · rw [if_neg h2, if_neg (by omega)]
theorem val_lt (g : Int) (h1 : 1 ≤ g) (i j : Nat) : val g i < val g j ↔ i < j := by
  unfold val
  constructor
  · intro h
    have h2 : (i : Int) * g < j * g := by omega
    have := Int.lt_of_mul_lt_mul_right h2 (by omega)
    omega
  · intro h
    have := Int.mul_lt_mul_of_pos_right (show (i : Int) < j by omega) (show 0 < g by omega)
    omega

/-- What has been seen when the turn was at place c (rising) and j of them have been seen. -/
def Seen (g : Int) (n c j : Nat) (xs : List Int) : Prop := ∀ x ∈ xs, ∃ t, t < j ∧ x = val g (back n c t)
theorem seen_next (g : Int) (n c j : Nat) (xs : List Int) (hc : c < n) (hj : j < n) (h : Seen g n c j xs) : Seen g n (nxt n c) (j + 1) (xs ++ [val g (nxt n c)]) := by
  intro x hx
  rw [List.mem_append] at hx
  rcases hx with hx | hx
  · obtain ⟨t, ht, rfl⟩ := h x hx
    refine ⟨t + 1, by omega, ?_⟩
    congr 1
    unfold back nxt
    split <;> split <;> split <;> omega
  · rw [List.mem_singleton] at hx
    subst hx
    exact ⟨0, by omega, by unfold back; rw [if_pos (by omega)]; rfl⟩
theorem seen_not (g : Int) (h1 : 1 ≤ g) (n c j : Nat) (xs : List Int) (hc : c < n) (hj : j < n) (h : Seen g n c j xs) : ∀ x ∈ xs, x ≠ val g (nxt n c) := by
  intro x hx e
  obtain ⟨t, ht, rfl⟩ := h x hx
  have := val_inj g h1 _ _ e
  unfold back nxt at this
  split at this <;> split at this <;> omega
/-- The turn behind place c (rising) is at the next one. -/
theorem turn_next (g : Int) (h1 : 1 ≤ g) (n c p : Nat) (hc : c < n) (h : TurnAt (rowL (valD g n) n) (val g c) p) : p < n ∧ n - 1 - p = nxt n c := by
  obtain ⟨hp, h⟩ := h
  rw [rowL_length] at hp h
  refine ⟨hp, ?_⟩
  have hq : ∀ q, q < n → (rowL (valD g n) n).getD (n - 1 - q) 0 = val g q := fun q hq => by
    rw [rowL_get _ _ _ (by omega)]; unfold valD; rw [show n - 1 - (n - 1 - q) = q from by omega]
  have hpv : (rowL (valD g n) n).getD p 0 = val g (n - 1 - p) := by rw [rowL_get _ _ _ hp]; rfl
  rw [hpv] at h
  unfold nxt
  rcases h with ⟨h2, h3⟩ | ⟨h2, h3⟩
  · have h4 := (val_lt g h1 _ _).1 h2
    rw [if_neg (by omega)]
    have h5 := h3 (n - 1 - (c + 1)) (by omega)
    rw [hq _ (by omega)] at h5
    have h6 := h5 ((val_lt g h1 _ _).2 (by omega))
    by_cases h7 : c + 1 < n - 1 - p
    · have := (val_lt g h1 _ _).2 h7; omega
    · omega
  · have h4 := h2 (n - 1 - (n - 1)) (by omega)
    rw [hq _ (by omega)] at h4
    have h5 : c = n - 1 := by
      by_cases h7 : c < n - 1
      · have := (val_lt g h1 _ _).2 h7; omega
      · omega
    rw [if_pos (by omega)]
    have h6 := h3 (n - 1 - 0) (by omega)
    rw [hq _ (by omega)] at h6
    by_cases h7 : 0 < n - 1 - p
    · have := (val_lt g h1 _ _).2 h7; omega
    · omega

/-- What holds of the last one picked, and of all seen, when j have been seen. -/
def Inv (g : Int) (n j : Nat) (last : Int) (xs : List Int) : Prop := (j = 0 ∧ xs = []) ∨ ∃ c, c < n ∧ last = val g c ∧ Seen g n c j xs
theorem inv_step (g : Int) (h1 : 1 ≤ g) (n j p : Nat) (last : Int) (xs : List Int) (hj : j < n) (hi : Inv g n j last xs) (h : TurnAt (rowL (valD g n) n) last p) :
    p < n ∧ (∀ x ∈ xs, x ≠ valD g n p) ∧ Inv g n (j + 1) (valD g n p) (xs ++ [valD g n p]) := by
  rcases hi with ⟨rfl, rfl⟩ | ⟨c, hc, rfl, hs⟩
  · have hp := h.1
    rw [rowL_length] at hp
    refine ⟨hp, by simp, .inr ⟨n - 1 - p, by omega, rfl, ?_⟩⟩
    intro x hx
    simp at hx
    exact ⟨0, by omega, by rw [hx]; unfold valD back; rw [if_pos (by omega)]; rfl⟩
  · obtain ⟨hp, he⟩ := turn_next g h1 n c p hc h
    unfold valD
    rw [he]
    exact ⟨hp, seen_not g h1 n c j xs hc hj hs, .inr ⟨_, by unfold nxt; split <;> omega, rfl, seen_next g n c j xs hc hj hs⟩⟩
end Go.Proofs.Ytjinecofooblfaa
