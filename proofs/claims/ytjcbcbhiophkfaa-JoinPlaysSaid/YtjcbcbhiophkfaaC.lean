/-
  The process table: blocked, woken.
-/
import Derived.Test.YtjcbcbhiophkfaaB
import Derived.RegionTactic
import Derived.ChangeAlike
set_option linter.unusedVariables false
namespace Go.Proofs.Ytjcbcbhiophkfaa
open Go.RowKit

theorem Ar.set {w : World} {base : Nat} {e : TypeId} {s n g cap : Nat} {ps : Nat → Nat → Int} (h : Ar w base e s (.slice (some ⟨g, 0, none⟩) n cap) n ps) {i j : Nat} (hi : i < n) (hj : j < s) (x : Int) :
    Ar (w.setCell ⟨g, i * s + j, none⟩ (.int .i64 x)) base e s (.slice (some ⟨g, 0, none⟩) n cap) n (setP ps i j x) := by
  obtain ⟨g', cap', hv, _, _, _, _, _, _, hs⟩ := h.at hi
  cases hv
  exact hs j x hj
/-- What a call leaves of the table. -/
def PtP (b : Nat) (F : List Nat) (most : Int) (n : Nat) (ps : Nat → Nat → Int) (live : List Int) (r : Value) (w : World) (e : Ending) (w' : World) : Prop :=
  ∃ F', e = .returned r ∧ Pt w' b F' most n ps live ∧ Fr F w F' w'
theorem Pv.left {w w' : World} {b : Nat} {va vl va' vl' : Value} {most most' : Int} {n n' : Nat} {ps ps' : Nat → Nat → Int} {live live' : List Int} (h : Pv w b va vl most n ps live) (h' : Pv w' b va' vl' most' n' ps' live') (ht : Touch (fp b va vl) w w')
    (ga : ∀ k, va'.ownBlock = some k → va.ownBlock = some k ∨ w.heap.size ≤ k) (gl : ∀ k, vl'.ownBlock = some k → vl.ownBlock = some k ∨ w.heap.size ≤ k) : ∃ F', Pt w' b F' most' n' ps' live' ∧ Fr (fp b va vl) w F' w' :=
  ⟨_, ⟨va', vl', h', rfl⟩, ht, fun k hk => by
    rcases mem_fp hk with rfl | e | e
    · exact .inl (by simp [fp])
    · rcases ga k e with q | q
      · exact .inl (by simp [fp, q])
      · exact .inr q
    · rcases gl k e with q | q
      · exact .inl (by simp [fp, q])
      · exact .inr q, h'.lt⟩
/-- Numbers of a process have been put. -/
theorem Pv.put {w w' : World} {b g cap : Nat} {vl : Value} {most : Int} {n : Nat} {ps ps' : Nat → Nat → Int} {live : List Int} (h : Pv w b (.slice (some ⟨g, 0, none⟩) n cap) vl most n ps live) (ha : Ar w' 0 69 5 (.slice (some ⟨g, 0, none⟩) n cap) n ps') (ht : Touch [g] w w') :
    Pv w' b (.slice (some ⟨g, 0, none⟩) n cap) vl most n ps' live :=
  ⟨h.obj.touch ht (by have := h.na g rfl; simp; omega), ha, h.live.touch ht (fun k hk => by have h1 := h.nn g rfl; simp; intro e; subst e; exact h1 hk), h.na, h.nl, h.nn⟩

section
variable (b : Nat) (F : List Nat) (most : Int) (n : Nat) (ps : Nat → Nat → Int) (live : List Int) (w : World)
set_option maxHeartbeats 2000000 in
theorem wake_no (p : Int) (h : Pt w b F most n ps live) (hn : n ≤ 9000000) (hs : fieldOf ps n p 0 ≠ 2) : Calls Try.prog 36 #[.pointer (some ⟨b, 0, none⟩), .int .i64 p] w fun e w' => e = .returned (.bool false) ∧ w = w' := by
  obtain ⟨va, vl, h, rfl⟩ := h
  have HC := Lib.hid (state_any b va vl most n ps live w p h hn)
  have e1 : (fieldOf ps n p 0 != 2) = true := bneT hs
  clear h hs
  go_enter Try.func36, Try.ntmps36
  go_wp2_with fail
  refine HC.out.mono ?_
  rintro e w1 ⟨rfl, rfl⟩
  go_wp2
  go_ret
  exact ⟨rfl, rfl⟩

/-- Who is woken. -/
def wakeP (ps : Nat → Nat → Int) (i : Nat) : Nat → Nat → Int := setP (setP (setP ps i 0 1) i 2 0) i 3 0
set_option maxHeartbeats 4000000 in
theorem wake_yes (i : Nat) (h : Pt w b F most n ps live) (hn : n ≤ 9000000) (hi : i < n) (hs : ps i 0 = 2) : Calls Try.prog 36 #[.pointer (some ⟨b, 0, none⟩), .int .i64 ((i : Int) + 1)] w (PtP b F most n (wakeP ps i) live (.bool true) w) := by
  obtain ⟨va, vl, h, rfl⟩ := h
  have HC := Lib.hid (state_any b va vl most n ps live w ((i : Int) + 1) h hn)
  rw [fieldOf_in ps hi, hs] at HC
  obtain ⟨g, cap, hva, _, hg, _, _, hc, hf, _⟩ := h.all.at hi
  have HG := Lib.hid (get_in b va vl most n ps live w i g cap h hi hva hn)
  subst hva
  have x0 : w.cell? ⟨g, i * 5, none⟩ = some (.int .i64 (ps i 0)) := hc 0 (by omega)
  have x2 := hc 2 (by omega)
  have x3 := hc 3 (by omega)
  have y0 := hf (i * 5)
  have y2 := hf (i * 5 + 2)
  have y3 := hf (i * 5 + 3)
  have HH := Lib.hid h
  clear h hc hf hs
  go_enter Try.func36, Try.ntmps36
  go_wp2_with fail
  refine HC.out.mono ?_
  rintro e w1 ⟨rfl, rfl⟩
  go_wp2_with fail
  refine HG.out.mono ?_
  rintro e w1 ⟨rfl, rfl⟩
  go_wp2
  go_ret
  have a1 := HH.out.all.set hi (j := 0) (by omega) 1
  have a2 := a1.set hi (j := 2) (by omega) 0
  have a3 := a2.set hi (j := 3) (by omega) 0
  have ht : Touch [g] w (((w.setCell ⟨g, i * 5, none⟩ (.int .i64 1)).setCell ⟨g, i * 5 + 2, none⟩ (.int .i64 0)).setCell ⟨g, i * 5 + 2 + 1, none⟩ (.int .i64 0)) := (((Touch.refl _ _).setCell (by simp) _).setCell (by simp) _).setCell (by simp) _
  obtain ⟨F', h1, h2⟩ := HH.out.left (HH.out.put a3 ht) (ht.mono (by simp [fp, Value.ownBlock])) (fun k hk => .inl hk) (fun k hk => .inl hk)
  exact ⟨F', rfl, h1, h2⟩

set_option maxHeartbeats 2000000 in
theorem block_no (p kd ix : Int) (h : Pt w b F most n ps live) (hn : n ≤ 9000000) (hs : fieldOf ps n p 0 ≠ 1 ∨ kd < 1 ∨ 5 < kd) : Calls Try.prog 31 #[.pointer (some ⟨b, 0, none⟩), .int .i64 p, .agg #[.int .i64 kd, .int .i64 ix]] w fun e w' => e = .returned (.bool false) ∧ Touch [] w w' := by
  obtain ⟨va, vl, h, rfl⟩ := h
  have HC := Lib.hid (state_any b va vl most n ps live _ p (h.still ((Touch.refl [] w).alloc (.cells #[.int .i64 kd, .int .i64 ix] 67))) hn)
  obtain ⟨s, hse⟩ : ∃ s, fieldOf ps n p 0 = s := ⟨_, rfl⟩
  rw [hse] at HC hs
  clear h hse
  by_cases h1 : s = 1
  · subst h1
    by_cases h2 : kd < 1
    · have d2 : decide (kd < 1) = true := dT h2
      clear hs
      go_enter Try.func31, Try.ntmps31
      go_wp2_with fail
      refine HC.out.mono ?_
      rintro e w1 ⟨rfl, rfl⟩
      go_wp2
      go_ret
      exact ⟨rfl, (Touch.refl _ _).alloc _⟩
    · have d2 : decide (kd < 1) = false := dF h2
      have d3 : decide (5 < kd) = true := dT (by omega)
      clear hs h2
      go_enter Try.func31, Try.ntmps31
      go_wp2_with fail
      refine HC.out.mono ?_
      rintro e w1 ⟨rfl, rfl⟩
      go_wp2
      go_ret
      exact ⟨rfl, (Touch.refl _ _).alloc _⟩
  · have e1 : (s != 1) = true := bneT h1
    clear hs h1
    go_enter Try.func31, Try.ntmps31
    go_wp2_with fail
    refine HC.out.mono ?_
    rintro e w1 ⟨rfl, rfl⟩
    go_wp2
    go_ret
    exact ⟨rfl, (Touch.refl _ _).alloc _⟩

def blockP (ps : Nat → Nat → Int) (i : Nat) (kd ix : Int) : Nat → Nat → Int := setP (setP (setP ps i 0 2) i 2 kd) i 3 ix
set_option maxHeartbeats 8000000 in
theorem block_yes (i : Nat) (kd ix : Int) (h : Pt w b F most n ps live) (hn : n ≤ 9000000) (hi : i < n) (hs : ps i 0 = 1) (hk1 : 1 ≤ kd) (hk2 : kd ≤ 5) : Calls Try.prog 31 #[.pointer (some ⟨b, 0, none⟩), .int .i64 ((i : Int) + 1), .agg #[.int .i64 kd, .int .i64 ix]] w (PtP b F most n (blockP ps i kd ix) live (.bool true) w) := by
  obtain ⟨va, vl, h, rfl⟩ := h
  have HH0 := Lib.hid h
  have HT0 : Hid (Touch [] w (w.alloc (.cells #[.int .i64 kd, .int .i64 ix] 67))) := Lib.hid ((Touch.refl [] w).alloc _)
  have h' := h.still HT0.out
  have HC := Lib.hid (state_any b va vl most n ps live _ ((i : Int) + 1) h' hn)
  rw [fieldOf_in ps hi, hs] at HC
  obtain ⟨g, cap, hva, _, hg, _, _, hc, hf, _⟩ := h'.all.at hi
  have HG := Lib.hid (get_in b va vl most n ps live _ i g cap h' hi hva hn)
  subst hva
  have hgw : g < w.heap.size := (h.all.own g rfl).2
  have x0 : (w.alloc (.cells #[.int .i64 kd, .int .i64 ix] 67)).cell? ⟨g, i * 5, none⟩ = some (.int .i64 (ps i 0)) := hc 0 (by omega)
  have x2 := hc 2 (by omega)
  have x3 : (w.alloc (.cells #[.int .i64 kd, .int .i64 ix] 67)).cell? ⟨g, i * 5 + 2 + 1, none⟩ = some (.int .i64 (ps i 3)) := hc 3 (by omega)
  have y0 := hf (i * 5)
  have y2 := hf (i * 5 + 2)
  have y3 := hf (i * 5 + 2 + 1)
  have hb : Blk (w.alloc (.cells #[.int .i64 kd, .int .i64 ix] 67)) w.heap.size #[.int .i64 kd, .int .i64 ix] 67 := Blk.new rfl
  have z0 := hb.cell (i := 0) rfl
  have z1 := hb.cell (i := 1) rfl
  have HH := Lib.hid h'
  have hne : ¬ g = w.heap.size := by omega
  have d2 : decide (kd < 1) = false := dF (by omega)
  have d3 : decide (5 < kd) = false := dF (by omega)
  obtain ⟨W, hW⟩ : ∃ W, w.alloc (.cells #[.int .i64 kd, .int .i64 ix] 67) = W := ⟨_, rfl⟩
  obtain ⟨X, hX⟩ : ∃ X, w.heap.size = X := ⟨_, rfl⟩
  rw [hW] at HT0 HC HG x0 x2 x3 y0 y2 y3 z0 z1 HH
  rw [hX] at z0 z1 hne
  clear h h' hc hf hs hb hg
  go_enter Try.func31, Try.ntmps31
  go_wp2_with fail
  refine HC.out.mono ?_
  rintro e w1 ⟨rfl, rfl⟩
  go_wp2_with fail
  refine HG.out.mono ?_
  rintro e w1 ⟨rfl, rfl⟩
  go_wp2
  go_region
  all_goals
    go_wp2
    go_ret
    have a1 := HH.out.all.set hi (j := 0) (by omega) 2
    have a2 := a1.set hi (j := 2) (by omega) kd
    have a3 := (a2.set hi (j := 3) (by omega) ix).touch (Touch.drew (Touch.refl [] _)) (fun _ _ => by simp)
    have ht : Touch [g] w (((W.setCell ⟨g, i * 5, none⟩ (.int .i64 2)).setCell ⟨g, i * 5 + 2, none⟩ (.int .i64 kd)).setCell ⟨g, i * 5 + 2 + 1, none⟩ (.int .i64 ix)).drew := ((((HT0.out.mono (by simp)).setCell (by simp) _).setCell (by simp) _).setCell (by simp) _).drew
    obtain ⟨F', h1, h2⟩ := HH0.out.left (HH0.out.put a3 ht) (ht.mono (by simp [fp, Value.ownBlock])) (fun k hk => .inl hk) (fun k hk => .inl hk)
    exact ⟨F', rfl, h1, h2⟩

set_option maxHeartbeats 4000000 in
theorem kids_any (p : Int) (h : Pt w b F most n ps live) (hn : n ≤ 9000000) (hl : live.length ≤ 100000) (hp : 1 ≤ p) : Calls Try.prog 30 #[.pointer (some ⟨b, 0, none⟩), .int .i64 p] w fun e w' => e = .returned (.int .i64 ((those ps n 1 p live).length : Nat)) ∧ w = w' := by
  obtain ⟨va, vl, h, rfl⟩ := h
  have HV := Lib.hid h
  have x3 := h.obj.cell (i := 3) rfl
  obtain ⟨ll, hll⟩ : ∃ ll, live.length = ll := ⟨_, rfl⟩
  obtain ⟨va2, vc2, hv⟩ := h.live.form
  rw [hll] at hv hl
  subst hv
  have HLL := Lib.hid hll
  have hp1 : ¬ p < 1 := by omega
  clear h hll
  go_enter Try.func30, Try.ntmps30
  go_wp2
  go_loop [5, 19] (fun v i => ∃ k : Nat, k ≤ ll ∧ i = .int .i64 k ∧ v = .int .i64 ((those ps n 1 p (live.take k)).length : Nat)) (fun _ i => ll + 1 - (intOf i).toNat)
  case atStart => exact ⟨0, by omega, rfl, rfl⟩
  case round =>
    obtain ⟨k, hk, rfl, rfl⟩ := hrel
    have hlen : (those ps n 1 p (live.take k)).length ≤ 100000 := by
      have h1 := those_len ps n 1 p (live.take k)
      have h2 : (live.take k).length ≤ k := List.length_take_le _ _
      omega
    by_cases hkl : k < ll
    · have hlt : (k : Int) < (ll : Int) := by omega
      have hsl := HV.out.live.sl
      obtain ⟨a', cap', he, hr⟩ := hsl
      rcases hr with h | ⟨g, off, rfl, hg, hrow⟩
      · exfalso; have h5 : live.length = 0 := (by rw [h]; rfl); have h6 := HLL.out; omega
      cases he
      have hc := hrow k (by have h6 := HLL.out; omega)
      have HS := Lib.hid (congrArg List.length (those_snoc ps n 1 p live k (by have h6 := HLL.out; omega)))
      obtain ⟨q, hq⟩ : ∃ q, live.getD k 0 = q := ⟨_, rfl⟩
      rw [hq] at hc HS
      clear hq hrow
      have HC := Lib.hid (parent_any b va _ most n ps live _ q HV.out hn)
      obtain ⟨f, hf⟩ : ∃ f, fieldOf ps n q 1 = f := ⟨_, rfl⟩
      rw [hf] at HC HS
      clear hf
      obtain ⟨m, hm⟩ : ∃ m, (those ps n 1 p (live.take k)).length = m := ⟨_, rfl⟩
      rw [List.length_append, hm] at HS
      rw [hm] at hlen
      have HM := Lib.hid hm
      rw [hm]
      clear hm
      by_cases hfs : f = p
      · have e1 : (f == p) = true := beqT hfs
        have HFS := Lib.hid hfs
        clear hfs
        go_wp2_with fail
        refine HC.out.mono ?_
        rintro e w1 ⟨rfl, rfl⟩
        go_wp2
        go_round
        case rel => exact ⟨k + 1, by omega, by go_num, by rw [HS.out, if_pos HFS.out]; simp⟩
        case measure => simp [intOf]; omega
      · have e1 : (f == p) = false := beqF hfs
        have HFS := Lib.hid hfs
        clear hfs
        go_wp2_with fail
        refine HC.out.mono ?_
        rintro e w1 ⟨rfl, rfl⟩
        go_wp2
        go_round
        case rel => exact ⟨k + 1, by omega, by go_num, by rw [HS.out, if_neg HFS.out]; simp⟩
        case measure => simp [intOf]; omega
    · have hlt : ¬ (k : Int) < (ll : Int) := by omega
      have HQ3 : Hid (live.take k = live) := Lib.hid (List.take_of_length_le (by have h6 := HLL.out; omega))
      go_wp2
      go_ret
      exact ⟨ret_int (by rw [HQ3.out]), rfl⟩
theorem kids_low (p : Int) (hp : p < 1) : Calls Try.prog 30 #[.pointer (some ⟨b, 0, none⟩), .int .i64 p] w fun e w' => e = .returned (.int .i64 0) ∧ w = w' := by
  go_enter Try.func30, Try.ntmps30
  go_wp2
  go_ret
  exact ⟨rfl, rfl⟩
end

set_option maxHeartbeats 2000000 in
theorem index_any (v : Value) (xs : List Int) (x : Int) (k : Nat) (w : World) (h : Sl w v xs) (hl : xs.length ≤ 1000000) (hk : k < xs.length) (hx : xs.getD k 0 = x) (hno : ∀ j, j < k → xs.getD j 0 ≠ x) :
    Calls Try.prog 48 #[v, .int .i64 x] w fun e w' => e = .returned (.int .i64 k) ∧ w = w' := by
  obtain ⟨a, cap, rfl, h⟩ := h
  obtain ⟨n, hn⟩ : ∃ n, xs.length = n := ⟨_, rfl⟩
  have HN := Lib.hid hn
  have HX := Lib.hid hx
  have HNo := Lib.hid hno
  rw [hn] at hl hk ⊢
  rcases h with h | ⟨g, off, rfl, hg, hrow⟩
  · exfalso; have h5 : xs.length = 0 := (by rw [h]; rfl); omega
  have HR := Lib.hid hrow
  clear hrow hx hno hn
  go_enter Try.func48, Try.ntmps48
  go_wp2
  go_loop [8] (fun i => ∃ j : Nat, j ≤ k ∧ i = .int .i64 j) (fun i => n + 1 - (intOf i).toNat)
  case atStart => exact ⟨0, by omega, rfl⟩
  case round =>
    obtain ⟨j, hj, rfl⟩ := hrel
    have hlt : (j : Int) < (n : Int) := by omega
    have hc := HR.out j (by rw [HN.out]; omega)
    by_cases hjk : j < k
    · have hne := HNo.out j hjk
      obtain ⟨y, hy⟩ : ∃ y, xs.getD j 0 = y := ⟨_, rfl⟩
      rw [hy] at hc hne
      have e1 : (x == y) = false := beqF (Ne.symm hne)
      clear hy hne
      go_wp2
      go_round
      case rel => exact ⟨j + 1, by omega, by go_num⟩
      case measure => simp [intOf]; omega
    · obtain rfl : j = k := by omega
      rw [HX.out] at hc
      go_wp2
      go_ret
      exact ⟨rfl, rfl⟩
end Go.Proofs.Ytjcbcbhiophkfaa
