/-
  Words: Clear and Words.
-/
import Derived.Test.YtoobmooagjobnaaA
import Derived.WalkSpells
set_option linter.unusedVariables false
namespace Go.Proofs.Ytoobmooagjobnaa
open Go.RowKit

def clr (f : Nat → Int) (k m : Nat) : Nat → Int := fun j => if k ≤ j ∧ j < k + m then 0 else f j
theorem clr_zero (f : Nat → Int) (k : Nat) : clr f k 0 = f := by funext j; unfold clr; rw [if_neg (by omega)]
theorem clr_succ (f : Nat → Int) (k m : Nat) : clr (upd f k 0) (k + 1) m = clr f k (m + 1) := by
  funext j
  unfold clr upd
  by_cases h : j = k
  · subst h; rw [if_neg (by omega), if_pos rfl, if_pos (by omega)]
  · by_cases h2 : k + 1 ≤ j ∧ j < k + 1 + m
    · rw [if_pos h2, if_pos (by omega)]
    · rw [if_neg h2, if_neg h, if_neg (by omega)]
theorem clr_last (f : Nat → Int) (k m : Nat) : upd (clr f k m) (k + m) 0 = clr f k (m + 1) := by
  funext j
  show (if j = k + m then 0 else clr f k m j) = clr f k (m + 1) j
  unfold clr
  by_cases h : j = k + m
  · subst h; rw [if_pos rfl, if_pos (by omega)]
  · rw [if_neg h]
    by_cases h2 : k ≤ j ∧ j < k + m
    · rw [if_pos h2, if_pos (by omega)]
    · rw [if_neg h2, if_neg (by omega)]
theorem setCells_st (T : TypeId) (b g n : Nat) : ∀ (m : Nat) (f : Nat → Int) (k : Nat) (w : World), St w b g f n T → St (w.setCells g k (List.replicate m (.int .i64 0))) b g (clr f k m) n T ∧ Touch [g] w (w.setCells g k (List.replicate m (.int .i64 0)))
  | 0, f, k, w, h => by rw [clr_zero]; exact ⟨h, Touch.refl _ _⟩
  | m + 1, f, k, w, h => by
    rw [List.replicate_succ, World.setCells]
    obtain ⟨h1, h2⟩ := setCells_st T b g n m (upd f k 0) (k + 1) _ (h.put k 0)
    rw [clr_succ] at h1
    exact ⟨h1, ((Touch.refl [g] w).setCell (by simp) _).trans h2⟩

set_option maxHeartbeats 1000000 in
theorem sclear_yes (b g n : Nat) (f : Nat → Int) (w : World) (hs : St w b g f n 46) (hn : n ≤ 8192) (k m : Nat) (hk : k + m ≤ n) :
    Calls Try.prog 14 #[.pointer (some ⟨b, 0, none⟩), .int .i64 k, .int .i64 m] w fun e w' => e = .returned (.bool true) ∧ St w' b g (clr f k m) n 46 ∧ Touch [g] w w' := by
  have HS := Lib.hid hs
  have hset := setCells_st _ b g n m f k w hs
  have HT := Lib.hid hset
  clear hset
  have hz0 : ∀ w, (zeroValue 3).run Try.prog w = .ok (.int .i64 0) w := fun w => by kernel_rfl
  have hcl : 0 < m → ∀ ty, (Builtin.clear_ #[37] ty #[.slice (some ⟨g, k, none⟩) m m]).run Try.prog w = .ok (.tuple #[]) (w.setCells g k (List.replicate m (.int .i64 0))) := fun h ty =>
    Lib.run_clear_slice w _ _ ty _ Try.underlying37 hz0 rfl rfl g k _ _ h (fun j hj => by rw [hs.2.1.cell (rowA_get f n (k + j) (by omega))]; rfl) (fun j hj => hs.2.1.free _)
  clear hz0
  obtain ⟨hb, hg, hne⟩ := hs
  have hb0 := hb.cell (i := 0) rfl
  by_cases hm : m = 0
  · subst hm
    clear hcl
    have hcl0 : ∀ ty, (Builtin.clear_ #[37] ty #[.slice (some ⟨g, 0, none⟩) 0 0]).run Try.prog w = .ok (.tuple #[]) w := fun ty => by
      simp [Builtin.clear_, run_underlying Try.underlying37]
    go_enter Try.func14, Try.ntmps14
    go_wp2_with fail
    refine (slen _ _ _ _ _ HS.out hn).mono ?_
    rintro e w' ⟨rfl, rfl⟩
    go_wp2_with fail
    refine (slen _ _ _ _ _ HS.out hn).mono ?_
    rintro e w' ⟨rfl, rfl⟩
    go_wp2
    go_ret
    rw [clr_zero]
    exact ⟨rfl, HS.out, Touch.refl _ _⟩
  · have hcl2 := hcl (by omega)
    clear hcl
    have hm1 : 0 < m := by omega
    go_enter Try.func14, Try.ntmps14
    go_wp2_with fail
    refine (slen _ _ _ _ _ HS.out hn).mono ?_
    rintro e w' ⟨rfl, rfl⟩
    go_wp2_with fail
    refine (slen _ _ _ _ _ HS.out hn).mono ?_
    rintro e w' ⟨rfl, rfl⟩
    go_wp2
    go_ret
    exact ⟨rfl, HT.out⟩

set_option maxHeartbeats 1000000 in
theorem sclear_no (b g n : Nat) (f : Nat → Int) (w : World) (hs : St w b g f n 46) (hn : n ≤ 8192) (k m : Int) (hk : InI k) (hm : InI m) (h : k < 0 ∨ m < 0 ∨ (n : Int) < k ∨ (n : Int) - k < m) :
    Calls Try.prog 14 #[.pointer (some ⟨b, 0, none⟩), .int .i64 k, .int .i64 m] w fun e w' => e = .returned (.bool false) ∧ w = w' := by
  have HS := Lib.hid hs
  obtain ⟨hb, hg, hne⟩ := hs
  have hb0 := hb.cell (i := 0) rfl
  obtain ⟨k1, k2⟩ := hk
  by_cases c1 : k < 0
  · clear h
    go_enter Try.func14, Try.ntmps14
    go_wp2
    go_ret
    exact ⟨rfl, rfl⟩
  · by_cases c2 : m < 0
    · clear h
      go_enter Try.func14, Try.ntmps14
      go_wp2
      go_ret
      exact ⟨rfl, rfl⟩
    · by_cases c3 : (n : Int) < k
      · clear h
        go_enter Try.func14, Try.ntmps14
        go_wp2_with fail
        refine (slen _ _ _ _ _ HS.out hn).mono ?_
        rintro e w' ⟨rfl, rfl⟩
        go_wp2
        go_ret
        exact ⟨rfl, rfl⟩
      · have c4 : (n : Int) - k < m := by omega
        clear h
        go_enter Try.func14, Try.ntmps14
        go_wp2_with fail
        refine (slen _ _ _ _ _ HS.out hn).mono ?_
        rintro e w' ⟨rfl, rfl⟩
        go_wp2_with fail
        refine (slen _ _ _ _ _ HS.out hn).mono ?_
        rintro e w' ⟨rfl, rfl⟩
        go_wp2
        go_ret
        exact ⟨rfl, rfl⟩

/-- New memory with the numbers xs: what Words answers. -/
def WordsPost (xs : List Int) (w : World) (e : Ending) (w' : World) : Prop := ∃ v, e = .returned v ∧ Sl w' v xs ∧ (∀ k, v.ownBlock = some k → w.heap.size ≤ k) ∧ Touch [] w w'
set_option maxHeartbeats 1000000 in
theorem clone_any (g n : Nat) (f : Nat → Int) (w : World) (hg : Blk w g (rowA f n) 3) (hn : n ≤ 8192) :
    Calls Try.prog 19 #[.slice (some ⟨g, 0, none⟩) n n] w (WordsPost (rowL f n) w) := by
  obtain ⟨i0, hi, hz0, hz1, hz2⟩ := info_parts (show (Try.prog.info? 3).map (fun i => (i.zero, i.size, i.bytes)) = some (some (.int .i64 0), 1, 8) from by kernel_rfl)
  have HG := Lib.hid hg
  clear hg
  have heq := fun w => Lib.run_eql_slice_nil (P := Try.prog) w 37 3 (some ⟨g, 0, none⟩) n n 0 0 Try.underlying37
  go_enter Try.func19, Try.ntmps19
  go_wp2_with (at_builtin; refine wpList_append_own _ rfl _ _ 37 rfl w.heap.size 3 i0 (.int .i64 0) 1 8 Try.underlying37 hi hz0 hz1 hz2 rfl (by decide) _ 0 [] rfl (World.ownsRow_made _ _ 0 (Nat.le_refl _) (by unfold maxLen; omega) rfl) ⟨g, 0, none⟩ n n ((rowL f n).map (Value.int .i64)) rfl ?c1 ?c2 ?c3 ?c4 ?c5 ?c6 ?_)
  case c1 => simp [rowL_length]
  case c2 => exact (HG.out.alloc _).row.news
  case c3 => exact ints_oneCell _
  case c4 => unfold maxLen; omega
  case c5 => omega
  case c6 => simp
  intro v' w2 hown' hgrow _
  have H1 := Lib.hid hown'
  have H2 := Lib.hid hgrow
  clear hown' hgrow
  go_wp2
  go_ret
  have h1 := H1.out
  obtain ⟨_, h2, h3⟩ := own_sl h1
  refine ⟨_, rfl, h2, h3, ?_⟩
  exact ((Touch.refl [] w).alloc _).grown H2.out (fun k hk hlt => by simp [Value.ownBlock] at hk; omega)
set_option maxHeartbeats 1000000 in
theorem swords (b g n : Nat) (f : Nat → Int) (w : World) (hs : St w b g f n 46) (hn : n ≤ 8192) :
    Calls Try.prog 18 #[.pointer (some ⟨b, 0, none⟩)] w (WordsPost (rowL f n) w) := by
  obtain ⟨hb, hg, hne⟩ := hs
  have hb0 := hb.cell (i := 0) rfl
  have HG := Lib.hid hg
  clear hg
  go_enter Try.func18, Try.ntmps18
  go_wp2_with fail
  refine (clone_any g n f _ HG.out hn).mono ?_
  rintro e w' ⟨v, rfl, h⟩
  have H := Lib.hid h
  clear h
  go_wp2
  go_ret
  exact ⟨_, rfl, H.out⟩
end Go.Proofs.Ytoobmooagjobnaa
