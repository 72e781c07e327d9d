/-
  What CodeTorn leans on: Within; a byte put in its place; bytes put behind an empty list.
-/
import Derived.Test.YtoedkomckgidiaaCS
import Derived.Laws.BitsAllLaws
set_option linter.unusedVariables false
namespace Go.Proofs.Ytoedkomckgidiaa
open Go Go.RowKit

set_option maxHeartbeats 4000000 in
theorem within_any (n M : Int) (w : World) (hn : InI n) (h0 : 0 ≤ M) (h1 : M ≤ 2000000) : Calls Try.prog 18 #[.int .i64 n, .int .i64 0, .int .i64 M] w fun e w' => ∃ k : Nat, e = .returned (.int .i64 (k : Int)) ∧ (k : Int) ≤ M ∧ w = w' := by
  obtain ⟨r, hr⟩ : ∃ r, n.tmod (M + 1) = r := ⟨_, rfl⟩
  have hr1 : -(M + 1) < r ∧ r < M + 1 := by
    rw [← hr]
    exact ⟨by have := Int.tmod_lt_of_pos (-n) (by omega : (0 : Int) < M + 1); rw [Int.neg_tmod] at this; omega, Int.tmod_lt_of_pos n (by omega)⟩
  obtain ⟨hr1, hr2⟩ := hr1
  have hz : (M + 1 == 0) = false := beqF (by omega)
  have hz2 : ¬ M + 1 = 0 := by omega
  have hz3 : ¬ M + 1 = -1 := by omega
  have v1 : IntKind.i64.wrap M = M := IntWalk.i64_in _ (by omega)
  have v2 : IntKind.i64.wrap (M + 1) = M + 1 := IntWalk.i64_in _ (by omega)
  by_cases hneg : r < 0
  · have q3 : decide (r < 0) = true := dT hneg
    have v3 : IntKind.i64.wrap (r + M) = r + M := IntWalk.i64_in _ (by omega)
    have v4 : IntKind.i64.wrap (r + M + 1) = r + M + 1 := IntWalk.i64_in _ (by omega)
    go_enter Try.func18, Try.ntmps18
    go_wp2
    go_ret
    exact ⟨(r + M + 1).toNat, by rw [show (((r + M + 1).toNat : Nat) : Int) = r + M + 1 from by omega]; rfl, by omega, rfl⟩
  · have q3 : decide (r < 0) = false := dF hneg
    have v3 : IntKind.i64.wrap r = r := IntWalk.i64_in _ (by omega)
    go_enter Try.func18, Try.ntmps18
    go_wp2
    go_ret
    exact ⟨r.toNat, by rw [show ((r.toNat : Nat) : Int) = r from by omega]; rfl, by omega, rfl⟩
/-- A byte is written in its place. -/
theorem Qb.set {w : World} {base : Nat} {v : Value} {bs : List Nat} (h : Qb w base v bs) (k : Nat) (hk : k < bs.length) : ∃ g off c, v = .slice (some ⟨g, off, none⟩) bs.length c ∧ base ≤ g ∧ g < w.heap.size ∧ w.frozen? ⟨g, off + k, none⟩ = false ∧ w.cell? ⟨g, off + k, none⟩ = some (.int .u8 ((bs.getD k 0 : Nat) : Int)) ∧
    ∀ y : Nat, Qb (w.setCell ⟨g, off + k, none⟩ (.int .u8 (y : Int))) base v (bs.set k y) := by
  rcases h with ⟨_, h⟩ | ⟨g, off, c, cur, rfl, hb, hg, h1, h2, h3, h4⟩
  · have : bs = [] := List.map_eq_nil_iff.1 h
    subst this; simp at hk
  · simp only [List.length_map] at h1 h4
    refine ⟨g, off, c, by simp, hb, hg.lt, hg.free _, hg.cell (by rw [h4 k hk]; simp [u8v, hk]), fun y => .inr ⟨g, off, c, _, by simp, hb, hg.set _ _, by simpa using h1, h2, by simpa using h3, fun j hj => ?_⟩⟩
    have hj : j < bs.length := by simpa using hj
    rw [Array.getElem?_setIfInBounds]
    by_cases e : k = j
    · subst e
      have : off + k < cur.size := by omega
      simp [this, hk, u8v]
    · rw [if_neg (by omega), h4 j hj]
      simp [hj, List.getElem_set_ne e]
/-- Bytes as what an append takes. -/
theorem Bs.src {w : World} {v : Value} {D : List Nat} (h : Bs w v D) : Src Try.prog 1 32 v (D.map u8v).length (D.map u8v) w := by
  obtain ⟨a, c, rfl, hc, h⟩ := h
  have hl : (D.map u8v).length = D.length := by simp
  rw [hl]
  rcases h with h | ⟨g, off, rfl, hg, hx⟩
  · subst h
    cases a with
    | none => exact Src.ofNil w Try.underlying32 c
    | some ad => exact Src.ofSlice w Try.underlying32 ad 0 c [] (by simp) (fun j u hj => by simp at hj) (fun u hu => by simp at hu)
  · refine Src.ofSlice w Try.underlying32 ⟨g, off, none⟩ D.length c _ (by simp) (fun j u hj => ?_) (fun u hu => by obtain ⟨x, _, rfl⟩ := List.mem_map.1 hu; rfl)
    have hjl : j < D.length := by
      by_cases h : j < D.length
      · exact h
      · rw [List.getElem?_eq_none (by simp; omega)] at hj; cases hj
    rw [u8v_get D j hjl] at hj
    cases hj
    have := hx j hjl
    by_cases h0 : j = 0
    · subst h0; simpa [Addr.add] using this
    · simpa [Addr.add, h0] using this
/-- Bytes are put behind an empty list: the run. -/
theorem app_bytes (w : World) (v : Value) (D : List Nat) (h : Bs w v D) (hD : D.length ≤ 1000000) :
    ∃ v' w', (∀ ty, (Builtin.append_ #[32, 32] ty #[.slice (some ⟨w.heap.size, 0, none⟩) 0 0, v]).run Try.prog (w.alloc (.cells #[] 5)) = .ok v' w') ∧ Qb w' w.heap.size v' D ∧ Touch [] w w' := by
  obtain ⟨i0, hi, hz0, hz1, hz2⟩ := infoU
  have ta : Touch [] w (w.alloc (.cells #[] 5)) := (Touch.refl [] w).alloc _
  have hq : Qu (w.alloc (.cells #[] 5)) w.heap.size 5 (.slice (some ⟨w.heap.size, 0, none⟩) 0 0) [] := Qu.made (c := #[]) rfl (Nat.le_refl _) rfl (Nat.zero_le _)
  obtain ⟨v', w', hr, h2, h3, h4⟩ := Qu.appendL Try.underlying32 hi hz0 hz1 hz2 rfl hq (by simp) v _ (h.touch ta (by simp)).src (by simp; omega) (by simp; omega)
  exact ⟨v', w', hr, by simpa [Qb] using h2, (Touch.alloc (Touch.refl [w.heap.size] w) _).grown h3 (fun k hk _ => by simp [Value.ownBlock] at hk; simp [hk]) |>.fresh (fun k hk hlt => by simp at hk; omega)⟩
/-- One byte more: the run. -/
theorem app_byte (w : World) (base : Nat) (v : Value) (D : List Nat) (c : Nat) (h : Qb w base v D) (hb : base ≤ w.heap.size) (hD : D.length ≤ 1000000) :
    ∃ v' w', (∀ ty, (Builtin.append_ #[32, 32] ty #[v, .slice (some ⟨w.heap.size, 0, none⟩) 1 1]).run Try.prog (w.alloc (.cells #[.int .u8 (c : Int)] 5)) = .ok v' w') ∧ Qb w' base v' (D ++ [c]) ∧ Touch v.ownBlock.toList w w' := by
  obtain ⟨i0, hi, hz0, hz1, hz2⟩ := infoU
  have hq := Qu.alloc h (.cells #[.int .u8 (c : Int)] 5)
  obtain ⟨v', w', hr, h2, h3, h4⟩ := hq.append (t := 32) Try.underlying32 hi hz0 hz1 hz2 rfl (by simp; omega) ⟨w.heap.size, 0, none⟩ 1 (.int .u8 (c : Int)) (World.cell?_alloc_at _ _ _ _ rfl) rfl (by simp; omega) (by simp; omega)
  exact ⟨v', w', hr, by unfold Qb; rw [List.map_append]; exact h2, ((Touch.refl v.ownBlock.toList w).alloc _).grown h3 (fun k hk _ => by simp [hk])⟩
theorem enc_two (P : Pg) : 2 ≤ (encL P).length := by unfold encL; simp
theorem set_byte {D : List Nat} (hD : ∀ b ∈ D, b < 256) (k c : Nat) (hk : k < D.length) (hc : c < 256) : ∀ b ∈ D.set k (D.getD k 0 ^^^ c), b < 256 := by
  intro b hb
  rcases List.mem_or_eq_of_mem_set hb with h | rfl
  · exact hD b h
  · have h1 : D.getD k 0 < 256 := hD _ (by rw [List.getD_eq_getElem?_getD, List.getElem?_eq_getElem hk]; exact List.getElem_mem _)
    exact Nat.xor_lt_two_pow (n := 8) h1 hc
theorem set_zero {D : List Nat} (k : Nat) (hk : k < D.length) : D.set k (D.getD k 0 ^^^ 0) = D := by
  rw [Nat.xor_zero, List.getD_eq_getElem?_getD, List.getElem?_eq_getElem hk]
  exact List.set_getElem_self hk
theorem set_eq {D : List Nat} (k c : Nat) (hk : k < D.length) (h : D.set k (D.getD k 0 ^^^ c) = D) : c = 0 := by
  have h2 := congrArg (fun l => l.getD k 0) h
  simp only [List.getD_eq_getElem?_getD, List.getElem?_set_self hk, List.getElem?_eq_getElem hk, Option.getD_some] at h2
  have h3 : D[k] ^^^ (D[k] ^^^ c) = D[k] ^^^ D[k] := by rw [h2]
  rwa [← Nat.xor_assoc, Nat.xor_self, Nat.zero_xor] at h3
end Go.Proofs.Ytoedkomckgidiaa
