/-
  Who descends from whom: what the rounds keep.
-/
import Derived.Test.YtjcbcbhiophkfaaJJ
import Derived.ScopeJumps
import Derived.WalkMore
set_option linter.unusedVariables false
namespace Go.Proofs.Ytjcbcbhiophkfaa
open Go.RowKit Go.BigFrame

set_option maxHeartbeats 4000000 in
theorem under_nil (w : World) : Calls Try.prog 20 #[.pointer none, .int .i64 1] w fun e w' => e = .returned (.slice none 0 0) ∧ Touch [] w w' := by
  go_enter Try.func20, Try.ntmps20
  go_wp2
  obtain ⟨W, hW⟩ : ∃ W, ((w.alloc (.cells #[.pointer none] 24)).alloc (.cells #[.int .i64 1] 3)) = W := ⟨_, rfl⟩
  have HT : Hid (Touch [] w W) := Lib.hid (by rw [← hW]; exact ((Touch.refl _ _).alloc _).alloc _)
  have x3 : ∀ qq : Later W, qq.world.cell? ⟨w.heap.size + 1, 0, none⟩ = some (.int .i64 1) := fun qq => (Blk.touch (by rw [← hW]; exact Blk.new (by simp)) qq.ok (by simp)).cell (i := 0) rfl
  have x2 : ∀ qq : Later W, qq.world.cell? ⟨w.heap.size, 0, none⟩ = some (.pointer none) := fun qq => (Blk.touch (by rw [← hW]; exact (Blk.new rfl).alloc _) qq.ok (by simp)).cell (i := 0) rfl
  rw [hW]
  clear hW
  go_step3
  go_wp2_with fail
  refine wp_region_later (by kernel_rfl) (by kernel_rfl) ?_
  repeat (first
    | (go_big_quiet_step ((first | (with_reducible rfl) | exact Later.same (count_nil _))))
    | (quiet_step (fail)))
  refine wpQuiet_nil ?_
  intro wq hw'
  obtain ⟨⟨wq', hwq⟩, hwe⟩ := hw'
  have hwe : wq = wq' := hwe
  subst hwe
  have HT := Lib.hid (HT.out.trans hwq)
  clear hwe hwq x3 x2
  go_wp2
  try rw [Exit.noGoto_ret]
  go_ret
  exact ⟨rfl, HT.out⟩
theorem maxOne (n : Nat) (h : 1 ≤ n) (ts : Array TypeId) (t : TypeId) (w : World) : (Builtin.max_ ts t #[.int .i64 (n : Int), .int .i64 1]).run Try.prog w = .ok (.int .i64 (n : Int)) w := by
  simp [Builtin.max_, Builtin.max2]
  first
    | rfl
    | (have e : ((n : Int) < 1) = False := by simp; omega
       simp [e]; done)
    | (have e : ¬ ((n : Int) < 1) := by omega
       have e2 : (n : Int) ≥ 1 := by omega
       simp [e, e2]; done)
set_option maxHeartbeats 2000000 in
theorem t0_q (b : Nat) (F : List Nat) (most : Int) (n : Nat) (ps : Nat → Nat → Int) (live : List Int) (w : World) (h : Pt w b F most n ps live) (h1 : 1 ≤ n) : Calls Try.prog 18 #[.pointer (some ⟨b, 0, none⟩)] w fun e w' => e = .returned (.int .i64 n) ∧ w = w' := by
  have HC := Lib.hid (count_q b F most n ps live w h)
  have hmax := maxOne n h1
  clear h
  go_enter Try.func18, Try.ntmps18
  go_wp2_with fail
  refine HC.out.mono ?_
  rintro e w1 ⟨rfl, rfl⟩
  go_wp2
  go_ret
  exact ⟨rfl, rfl⟩
/-- All are live, each but the first one with a parent. -/
structure Wx (n : Nat) (ps : Nat → Nat → Int) (live : List Int) : Prop where
  ok : Ok n ps live
  n1 : 1 ≤ n
  par : ParOk n ps
  up : ∀ i, 1 ≤ i → i < n → 1 ≤ ps i 1
  all : ∀ i, i < n → ps i 0 = 1
  len : live.length = n
theorem Wx.zero : Wx 1 (addP (fun _ _ => 0) 0 (newF 0)) [1] where
  ok := (Ok.empty _).spawn 0
  n1 := Nat.le_refl _
  par := (ParOk.zero (fun _ _ => 0)).add (n := 0) (p := 0) (Int.le_refl _) (Int.le_refl _)
  up := fun i (h1 : 1 ≤ i) (h2 : i < 1) => absurd h2 (Nat.not_lt.2 h1)
  all := fun i (h : i < 1) => by
    have e : i = 0 := by omega
    rw [e]; rfl
  len := rfl
theorem Wx.live {n : Nat} {ps : Nat → Nat → Int} {live : List Int} (h : Wx n ps live) {i : Nat} (hi : i < n) : isL ps n ((i : Int) + 1) = true := by
  rw [isL_at hi, h.all i hi]; rfl
theorem Wx.spawn {n : Nat} {ps : Nat → Nat → Int} {live : List Int} (h : Wx n ps live) {k : Nat} (hk : k < n) : Wx (n + 1) (addP ps n (newF ((k : Int) + 1))) (live ++ [(n : Int) + 1]) := by
  have hn := h.n1
  refine ⟨h.ok.spawn _, by omega, h.par.add (by omega) (by omega), fun i h1 h2 => ?_, fun i hi => ?_, by simp [h.len]⟩
  · by_cases e : i = n
    · subst e; rw [addP_new]; show (1 : Int) ≤ (k : Int) + 1; omega
    · rw [addP_old _ _ _ e]; exact h.up i h1 (by omega)
  · by_cases e : i = n
    · subst e; rw [addP_new]; rfl
    · rw [addP_old _ _ _ e]; exact h.all i (by omega)
theorem und_asc (ps : Nat → Nat → Int) (pid : Int) : ∀ k : Nat, (und ps pid k).Pairwise (· < ·)
  | 0 => List.Pairwise.nil
  | k + 1 => by
    unfold und
    split
    · rw [List.pairwise_append]
      refine ⟨und_asc ps pid k, by simp, fun a ha b hb => ?_⟩
      have := und_le ha
      simp at hb; omega
    · exact und_asc ps pid k
theorem undL_eq {ps : Nat → Nat → Int} {n : Nat} (hp : ParOk n ps) {p : Int} (h1 : 1 ≤ p) (h2 : p ≤ n) : undL ps n p = und ps p n := by
  unfold undL
  by_cases h : p < n
  · rw [if_pos ⟨h1, h⟩]
  · rw [if_neg (by omega), und_none hp (by omega)]
/-- What the law asks of the list of those that come from k + 1. -/
structure Uf (n : Nat) (ps : Nat → Nat → Int) (pid : Int) (xs : List Int) : Prop where
  no : pid ∉ xs
  inn : ∀ x ∈ xs, 1 ≤ x ∧ x ≤ (n : Int)
  par : ∀ x ∈ xs, fieldOf ps n x 1 = pid ∨ fieldOf ps n x 1 ∈ xs
  asc : xs.Pairwise (· < ·)
  len : xs.length ≤ n
theorem Uf.of {ps : Nat → Nat → Int} {n : Nat} (hp : ParOk n ps) {p : Int} (h1 : 1 ≤ p) (h2 : p ≤ n) : Uf n ps p (undL ps n p) := by
  rw [undL_eq hp h1 h2]
  refine ⟨fun h => ?_, fun x h => und_le h, fun x h => ?_, und_asc _ _ _, und_len _ _ _⟩
  · have := und_gt hp (Nat.le_refl _) h; omega
  · obtain ⟨a, rfl⟩ : ∃ a : Nat, x = (a : Int) + 1 := ⟨(x - 1).toNat, by have := und_le h; omega⟩
    have ha : a < n := by have := und_le h; omega
    rw [fieldOf_in _ ha]
    exact (und_next hp ha).1 h
theorem Wx.above {n : Nat} {ps : Nat → Nat → Int} {live : List Int} (h : Wx n ps live) {k : Nat} (hk : k < n) (h0 : 0 < ps k 1) : (k : Int) + 1 ∈ undL ps n (ps k 1) := by
  have := (h.par k hk).2
  rw [undL_eq h.par (by omega) (by omega)]
  exact (und_next h.par hk).2 (.inl rfl)
theorem tmod_abs (z : Int) (n : Nat) (h : 1 ≤ n) : ∃ k : Nat, k < n ∧ ((z.tmod n < 0 ∧ -(z.tmod n) = k) ∨ (¬ z.tmod n < 0 ∧ z.tmod n = k)) := by
  have h1 : (z.tmod n).natAbs < n := by
    rw [Int.natAbs_tmod]; simp; exact Nat.mod_lt _ (by omega)
  exact ⟨(z.tmod n).natAbs, h1, by omega⟩
end Go.Proofs.Ytjcbcbhiophkfaa
