/-
  Jobs as texts: lines with their line feeds, one by one.
-/
import Derived.Test.YtnhbnggkaomfcaaDoorSA
set_option linter.unusedVariables false
namespace Go.Proofs.YtnhbnggkaomfcaaDoor
open Go Go.RowKit Go.Lib

/-- The lines of a text, each with its line feed, but the last one, if it is not ended. -/
def pieces (s : List UInt8) : List (List UInt8) := ((lnsR s).1.map fun l => l ++ [10]) ++ if (lnsR s).2 = [] then [] else [(lnsR s).2]
theorem pieces_nil : pieces [] = [] := rfl
theorem pieces_line (a r : List UInt8) (h : (10 : UInt8) ∉ a) : pieces (a ++ 10 :: r) = (a ++ [10]) :: pieces r := by
  unfold pieces; rw [lnsR_line a r h]; simp
theorem pieces_rest (a : List UInt8) (h : (10 : UInt8) ∉ a) (hn : a ≠ []) : pieces a = [a] := by
  unfold pieces; rw [lnsR_rest a h]; simp [hn]
theorem pieces_len (s : List UInt8) : (pieces s).length = (lnsR s).1.length + if (lnsR s).2 = [] then 0 else 1 := by
  unfold pieces; rw [List.length_append, List.length_map]; congr 1; split <;> rfl
theorem pieces_get {s : List UInt8} {i : Nat} (h : i < (lnsR s).1.length) : (pieces s).getD i [] = (lnsR s).1.getD i [] ++ [10] := by
  unfold pieces
  rw [List.getD_eq_getElem?_getD, List.getElem?_append_left (by simpa using h)]
  simp [List.getElem?_eq_getElem h]
theorem pieces_last {s : List UInt8} (h : (lnsR s).2 ≠ []) : (pieces s).getD (lnsR s).1.length [] = (lnsR s).2 := by
  unfold pieces
  rw [List.getD_eq_getElem?_getD, List.getElem?_append_right (by simp), if_neg h]
  simp
theorem pieces_le (s : List UInt8) : (pieces s).length ≤ s.length := by
  rw [pieces_len]
  have := lnsR_count s
  split
  · omega
  · rename_i h
    have := List.length_pos_iff.2 h
    omega
theorem pieces_mem (s p : List UInt8) (h : p ∈ pieces s) : p.length ≤ s.length := by
  have hg := congrArg List.length (lnsR_glue s)
  rw [List.length_append] at hg
  unfold pieces at h
  rcases List.mem_append.1 h with h | h
  · obtain ⟨l, hl, rfl⟩ := List.mem_map.1 h
    have : ∀ (L : List (List UInt8)) (l : List UInt8), l ∈ L → (l ++ [10]).length ≤ (L.flatMap fun l => l ++ [10]).length := fun L l hl => by
      induction L with
      | nil => cases hl
      | cons m ms ih =>
        simp only [List.flatMap_cons, List.length_append]
        rcases List.mem_cons.1 hl with e | e
        · subst e; omega
        · have := ih e; simp only [List.length_append] at this; omega
    have := this _ _ hl
    omega
  · split at h
    · cases h
    · rw [List.mem_singleton] at h; subst h; omega
/-- Is a line, with its line feed, as line i must be? -/
def okP (i : Nat) (p : List UInt8) : Prop := ∃ l, p = l ++ [10] ∧ okL i l
theorem okP_line {i : Nat} {l : List UInt8} : okP i (l ++ [10]) ↔ okL i l :=
  ⟨fun ⟨m, h, ho⟩ => by rw [List.append_cancel_right h]; exact ho, fun h => ⟨l, rfl, h⟩⟩
theorem okP_rest {i : Nat} {s : List UInt8} : ¬ okP i (lnsR s).2 := fun ⟨l, h, _⟩ => lnsR_nolf s (by rw [h]; simp)
abbrev Ln := { x : Nat × List UInt8 // x.1 < 1000000 ∧ x.2.length ≤ 100000 }
noncomputable def jF (pre : List Ln) : Jb := pre.foldl (fun j x => putL x.1.1 x.1.2.dropLast j) zeroJ
theorem jF_snoc (pre : List Ln) (x : Ln) : jF (pre ++ [x]) = putL x.1.1 x.1.2.dropLast (jF pre) := by unfold jF; rw [List.foldl_append]; rfl
/-- What has come when k lines have come. -/
def upP (s : List UInt8) (hs : s.length ≤ 100000) (k : Nat) : List Ln := (List.range (min k 999999)).map fun i => ⟨(i % 1000000, (pieces s).getD i []), Nat.mod_lt _ (by omega), by
  rw [List.getD_eq_getElem?_getD]
  cases h : (pieces s)[i]? with
  | none => simp
  | some p => have := pieces_mem s p (List.mem_of_getElem? h); simp; omega⟩
theorem upP_zero (s : List UInt8) (hs : s.length ≤ 100000) : upP s hs 0 = [] := rfl
theorem upP_len (s : List UInt8) (hs : s.length ≤ 100000) (k : Nat) (hk : k ≤ 999999) : (upP s hs k).length = k := by unfold upP; simp; omega
theorem upP_succ (s : List UInt8) (hs : s.length ≤ 100000) (k : Nat) (hk : k < 999999) (p : List UInt8) (hp : (pieces s).getD k [] = p) (h : k < 1000000 ∧ p.length ≤ 100000) : upP s hs (k + 1) = upP s hs k ++ [⟨(k, p), h⟩] := by
  subst hp
  unfold upP
  rw [Nat.min_eq_left (by omega), Nat.min_eq_left (by omega), List.range_succ, List.map_append]
  congr 1
  simp only [List.map_cons, List.map_nil]
  congr 2
  have : k % 1000000 = k := Nat.mod_eq_of_lt (by omega)
  simp [this]
theorem upP_at (s : List UInt8) (hs : s.length ≤ 100000) (k i : Nat) (hk : k ≤ 999999) (hi : i < k) (P : Ln → Prop) (h : ∀ x ∈ upP s hs k, P x) : ∃ h2, P ⟨(i, (pieces s).getD i []), h2⟩ := by
  have hm : i % 1000000 = i := Nat.mod_eq_of_lt (by omega)
  have := h _ (List.mem_map.2 ⟨i, List.mem_range.2 (by omega), rfl⟩)
  simp only [hm] at this
  exact ⟨_, this⟩
/-- All lines that have come are as they must be, and no more than four. -/
def GoodP (pre : List Ln) : Prop := ∀ x ∈ pre, x.1.1 < 4 ∧ okP x.1.1 x.1.2
theorem good_at {s : List UInt8} {hs : s.length ≤ 100000} {k : Nat} (hk : k ≤ 999999) (h : GoodP (upP s hs k)) : ∀ i, i < k → i < 4 ∧ okP i ((pieces s).getD i []) := fun i hi => by
  obtain ⟨_, h2⟩ := upP_at s hs k i hk hi (fun x => x.1.1 < 4 ∧ okP x.1.1 x.1.2) h
  exact h2
theorem ok_of {s : List UInt8} {k : Nat} (hk : k ≤ (pieces s).length) (h : ∀ i, i < k → i < 4 ∧ okP i ((pieces s).getD i [])) : OkTo (lnsR s).1 k := by
  have hl : k ≤ (lnsR s).1.length := by
    rcases Nat.lt_or_ge (lnsR s).1.length k with hlt | hge
    · exfalso
      rw [pieces_len] at hk
      have hR : (lnsR s).2 ≠ [] := fun e => by rw [if_pos e] at hk; omega
      have := (h _ hlt).2
      rw [pieces_last hR] at this
      exact okP_rest this
    · exact hge
  refine ⟨hl, fun i hi => ?_⟩
  have := (h i hi).2
  rw [pieces_get (by omega)] at this
  exact okP_line.1 this
theorem job_of {s : List UInt8} {hs : s.length ≤ 100000} : ∀ {k : Nat}, k ≤ 999999 → OkTo (lnsR s).1 k → jF (upP s hs k) = jobAt (lnsR s).1 k
  | 0, _, _ => rfl
  | k + 1, hk, h => by
    have h1 := h.1
    have hlen : ((pieces s).getD k []).length ≤ 100000 := by
      rw [List.getD_eq_getElem?_getD]
      cases h : (pieces s)[k]? with
      | none => simp
      | some p => have := pieces_mem s p (List.mem_of_getElem? h); simp; omega
    rw [upP_succ s hs k (by omega) _ rfl ⟨by omega, hlen⟩, jF_snoc, job_of (k := k) (by omega) ⟨by omega, fun i hi => h.2 i (by omega)⟩]
    show putL k ((pieces s).getD k []).dropLast _ = putL k ((lnsR s).1.getD k []) _
    rw [pieces_get (by omega)]
    simp
/-- All has come. -/
theorem done_of {s : List UInt8} {hs : s.length ≤ 100000} {N : Nat} (hN : N = (pieces s).length) (hN9 : N ≤ 999999) (h : GoodP (upP s hs N)) :
    N ≤ 4 ∧ (N < 4 → RdS (lnsR s).1 (lnsR s).2 zeroJ (N + 1) 6) ∧ (N = 4 → RdS (lnsR s).1 (lnsR s).2 (jF (upP s hs N)) 0 0) := by
  have hg := good_at hN9 h
  have ho := ok_of (by omega) hg
  have h4 : N ≤ 4 := by
    rcases Nat.lt_or_ge 4 N with hlt | hge
    · have := (hg 4 hlt).1; omega
    · exact hge
  have hlen := pieces_len s
  have hR : (lnsR s).2 = [] := by
    by_cases e : (lnsR s).2 = []
    · exact e
    · rw [if_neg e] at hlen; have := ho.1; omega
  rw [if_pos hR] at hlen
  refine ⟨h4, fun hlt => .inl ⟨N, hlt, ho, .inl (by omega), rfl, rfl, rfl⟩, fun e => ?_⟩
  rw [job_of hN9 ho]
  subst e
  exact .inr (.inr ⟨ho, by omega, hR, rfl, rfl, rfl⟩)
/-- Line k is not as it must be, or is one too many. -/
theorem stop_of {s : List UInt8} {hs : s.length ≤ 100000} {k : Nat} (hk : k < (pieces s).length) (hk9 : k ≤ 999999) (h : GoodP (upP s hs k)) (hb : ¬ (k < 4 ∧ okP k ((pieces s).getD k []))) : RdS (lnsR s).1 (lnsR s).2 zeroJ (k + 1) 6 := by
  have hg := good_at hk9 h
  have ho := ok_of (by omega) hg
  have h4 : k ≤ 4 := by
    rcases Nat.lt_or_ge 4 k with hlt | hge
    · have := (hg 4 hlt).1; omega
    · exact hge
  have hlen := pieces_len s
  rcases Nat.lt_or_ge k 4 with hlt | hge
  · refine .inl ⟨k, hlt, ho, ?_, rfl, rfl, rfl⟩
    by_cases hkl : k < (lnsR s).1.length
    · refine .inr ⟨hkl, fun hok => hb ⟨hlt, ?_⟩⟩
      rw [pieces_get hkl]
      exact okP_line.2 hok
    · left
      split at hlen <;> have := ho.1 <;> omega
  · obtain rfl : k = 4 := by omega
    refine .inr (.inl ⟨ho, ?_, rfl, rfl, rfl⟩)
    by_cases e : (lnsR s).2 = []
    · rw [if_pos e] at hlen; exact .inl (by omega)
    · exact .inr e
end Go.Proofs.YtnhbnggkaomfcaaDoor
