/-
  Blanks and a remark laid between two tokens, plainly: the tokens are those that they were, but for places.
-/
import Derived.Test.YtdlhaadnfmpldaaDoorTKK
set_option linter.unusedVariables false
namespace Go.Proofs.YtdlhaadnfmpldaaDoor
open Go

/-- The places at which the reading stands, and what has been read by then. -/
inductive Reach (D : List UInt8) : Nat → List Tok → Prop
  | start : Reach D 0 []
  | step {p m : Nat} {acc ts : List Tok} {c : UInt8} {r : List UInt8} : Reach D p acc → D.drop p = c :: r → stepT p c r = .go m ts → Reach D (p + 1 + m) (acc ++ ts)
theorem drop_tail {D r : List UInt8} {p : Nat} {c : UInt8} (h : D.drop p = c :: r) (k : Nat) : r.drop k = D.drop (p + 1 + k) := by
  have : r = D.drop (p + 1) := by
    have e := congrArg (List.drop 1) h
    rw [List.drop_drop] at e
    simpa using e.symm
  rw [this, List.drop_drop]
theorem Reach.scan {D : List UInt8} {p : Nat} {acc : List Tok} (h : Reach D p acc) : scan (D.drop p) p acc = scan D 0 [] := by
  induction h with
  | start => rfl
  | step h1 h2 h3 ih => rw [← ih, h2, scan_go h3, drop_tail h2]
theorem step_pos {p m : Nat} {c : UInt8} {r : List UInt8} {ts : List Tok} (h : stepT p c r = .go m ts) : ∀ x ∈ ts, x.pos = (p : Int) := by
  intro x hx
  unfold stepT at h
  split at h
  · cases h; simp at hx
  split at h
  · split at h
    · cases h
    · cases h; simp at hx
  split at h
  · cases h; simp at hx; subst hx; rfl
  split at h
  · split at h
    · cases h; simp at hx; subst hx; rfl
    · split at h
      · cases h
      · cases h; simp at hx; subst hx; rfl
  split at h
  · split at h
    · cases h; simp at hx; subst hx; rfl
    · cases h
  · split at h
    · cases h
    · cases h; simp at hx; subst hx; rfl
/-- Each token begins at a place at which the reading stands. -/
theorem reach_tok {D : List UInt8} : ∀ (f : Nat) (l : List UInt8) (p : Nat) (acc T : List Tok), Reach D p acc → l = D.drop p → p ≤ D.length → l.length < f → scanF f l p acc = .ok T →
    ∃ S, T = acc ++ S ∧ ∀ k x, S[k]? = some x → ∃ q, Reach D q (acc ++ S.take k) ∧ q ≤ D.length ∧ x.pos = (q : Int)
  | 0, l, p, acc, T, _, _, _, hf, _ => absurd hf (Nat.not_lt_zero _)
  | f + 1, [], p, acc, T, hr, hl, hp, hf, h => by
    have h : TokR.ok (acc ++ [⟨5, p, 0, []⟩]) = .ok T := h
    cases h
    refine ⟨_, rfl, fun k x hx => ?_⟩
    cases k with
    | zero => simp at hx; subst hx; exact ⟨p, by simpa using hr, hp, rfl⟩
    | succ k => simp at hx
  | f + 1, c :: r, p, acc, T, hr, hl, hp, hf, h => by
    unfold scanF at h
    cases hs : stepT p c r with
    | bad x => rw [hs] at h; cases h
    | go m ts =>
      rw [hs] at h
      have hm := step_le hs
      have hlen := congrArg List.length hl
      simp at hlen
      obtain ⟨S, hS, hk⟩ := reach_tok f (r.drop m) (p + 1 + m) (acc ++ ts) T (hr.step hl.symm hs) (drop_tail hl.symm m) (by omega) (by simp at hf ⊢; omega) h
      have ht := (step_last hs).2
      have hpos := step_pos hs
      refine ⟨ts ++ S, by rw [hS, List.append_assoc], fun k x hx => ?_⟩
      cases ts with
      | nil => simpa using hk k x (by simpa using hx)
      | cons t ts' =>
        have : ts' = [] := by
          cases ts' with
          | nil => rfl
          | cons a b => simp at ht
        subst this
        cases k with
        | zero =>
          simp at hx
          subst hx
          exact ⟨p, by simpa using hr, hp, hpos _ (by simp)⟩
        | succ k =>
          obtain ⟨q, h1, h2, h3⟩ := hk k x (by simpa using hx)
          exact ⟨q, by simpa using h1, h2, h3⟩
theorem ahead_app {x : UInt8} : ∀ {s t u : List UInt8} {n : Nat}, ahead x (s ++ t) = some n → n < s.length → ahead x (s ++ u) = some n
  | [], t, u, n, _, h => by simp at h
  | c :: s, t, u, n, h, hn => by
    show ahead x (c :: (s ++ u)) = some n
    have h : ahead x (c :: (s ++ t)) = some n := h
    unfold ahead at h ⊢
    by_cases e : c = x
    · rw [if_pos e] at h ⊢; exact h
    · rw [if_neg e] at h ⊢
      cases ha : ahead x (s ++ t) with
      | none => rw [ha] at h; cases h
      | some m =>
        rw [ha] at h
        cases h
        rw [ahead_app (u := u) ha (by simpa using hn)]
        rfl
theorem tw_app (P : UInt8 → Bool) (h32 : P 32 = false) : ∀ {s t u : List UInt8}, ((s ++ t).takeWhile P).length ≤ s.length → (s ++ 32 :: u).takeWhile P = (s ++ t).takeWhile P
  | [], t, u, h => by
    have : t.takeWhile P = [] := List.length_eq_zero_iff.1 (by simpa using h)
    rw [List.nil_append, List.nil_append, this]
    simp [List.takeWhile, h32]
  | c :: s, t, u, h => by
    rw [List.cons_append, List.cons_append]
    cases hc : P c with
    | false => simp [List.takeWhile, hc]
    | true =>
      rw [List.cons_append] at h
      simp only [List.takeWhile, hc, List.length_cons] at h ⊢
      rw [tw_app P h32 (t := t) (by omega)]
/-- What a step reads does not hang on what stands behind its end, if a blank stands there. -/
theorem step_same {p m : Nat} {c : UInt8} {s t u : List UInt8} {ts : List Tok} (h : stepT p c (s ++ t) = .go m ts) (hm : m ≤ s.length) : stepT p c (s ++ 32 :: u) = .go m ts := by
  unfold stepT at h ⊢
  split at h
  · rename_i h1
    rw [if_pos h1]; exact h
  rename_i h1
  rw [if_neg h1]
  split at h
  · rename_i h2
    rw [if_pos h2]
    split at h
    · cases h
    · rename_i n e
      cases h
      rw [ahead_app (u := 32 :: u) e (by omega)]
  rename_i h2
  rw [if_neg h2]
  split at h
  · rename_i h3
    rw [if_pos h3]; exact h
  rename_i h3
  rw [if_neg h3]
  split at h
  · rename_i h4
    rw [if_pos h4]
    have hl : ((s ++ t).takeWhile letDig).length = m := by
      split at h
      · cases h; rfl
      · split at h
        · cases h
        · cases h; rfl
    rw [tw_app letDig (by decide) (t := t) (by omega)]
    exact h
  rename_i h4
  rw [if_neg h4]
  split at h
  · rename_i h5
    rw [if_pos h5]
    have hl : ((s ++ t).takeWhile isDig).length = m := by
      split at h
      · cases h; rfl
      · cases h
    rw [tw_app isDig (by decide) (t := t) (by omega)]
    exact h
  rename_i h5
  rw [if_neg h5]
  split at h
  · cases h
  · rename_i n e
    cases h
    have hn : ∀ q ∈ pairL, q.length = 2 ∧ q.getD 1 0 ≠ 32 := by decide
    cases s with
    | cons a s' =>
      have e1 : sgnL (c :: (a :: s' ++ 32 :: u)) = sgnL (c :: (a :: s' ++ t)) := rfl
      have hk : m ≤ 1 := by
        unfold sgnL at e
        split at e
        · omega
        · have e : (if c ∈ oneL then 1 else 0) = m + 1 := e
          split at e <;> omega
      rw [e1, e]
      have : m = 0 ∨ m = 1 := by omega
      rcases this with rfl | rfl <;> rfl
    | nil =>
      obtain rfl : m = 0 := by simpa using hm
      have hc : c ∈ oneL := by
        unfold sgnL at e
        split at e
        · cases e
        · have e : (if c ∈ oneL then 1 else 0) = 0 + 1 := e
          split at e
          · assumption
          · cases e
      have hp : ¬ (c :: ([] ++ 32 :: u)).take 2 ∈ pairL := fun hh => (hn _ hh).2 rfl
      have e1 : sgnL (c :: ([] ++ 32 :: u)) = 1 := by unfold sgnL; rw [if_neg hp]; exact if_pos hc
      rw [e1]
      rfl
def laid (D put : List UInt8) (p : Nat) : List UInt8 := D.take p ++ (put ++ D.drop p)
theorem laid_drop {D put : List UInt8} {p q : Nat} (hp : p ≤ D.length) (hq : q < p) {c : UInt8} {r : List UInt8} (h : D.drop q = c :: r) : (laid D put p).drop q = c :: (r.take (p - q - 1) ++ (put ++ D.drop p)) ∧ r = r.take (p - q - 1) ++ D.drop p ∧ (r.take (p - q - 1)).length = p - q - 1 := by
  have hr : r.drop (p - q - 1) = D.drop p := by rw [drop_tail h, show q + 1 + (p - q - 1) = p from by omega]
  have hl := congrArg List.length h
  simp at hl
  refine ⟨?_, by rw [← hr, List.take_append_drop], by rw [List.length_take]; omega⟩
  unfold laid
  rw [List.drop_append_of_le_length (by rw [List.length_take]; omega), List.drop_take, h]
  obtain ⟨k, hk⟩ : ∃ k, p - q = k + 1 := ⟨p - q - 1, by omega⟩
  rw [hk, List.take_succ_cons]
  rfl
theorem Reach.laid {D put : List UInt8} {p : Nat} (hp : p ≤ D.length) (hput : ∃ u, put = 32 :: u) {q : Nat} {acc : List Tok} (h : Reach D q acc) : q ≤ p → Reach (laid D put p) q acc := by
  obtain ⟨u, rfl⟩ := hput
  induction h with
  | start => intro _; exact .start
  | @step q m acc ts c r h1 h2 h3 ih =>
    intro hle
    obtain ⟨e1, e2, e3⟩ := laid_drop (put := 32 :: u) hp (by omega) h2
    rw [e2] at h3
    exact (ih (by omega)).step e1 (step_same h3 (by omega))
/-- What is laid between two tokens: two blanks, a remark, two blanks. -/
def putL (rem : List UInt8) : List UInt8 := 32 :: 9 :: 123 :: (rem ++ [125, 10, 13])
theorem putL_len (rem : List UInt8) : (putL rem).length = rem.length + 6 := by simp [putL]
theorem ahead_end : ∀ (rem t : List UInt8), (125 : UInt8) ∉ rem → ahead 125 (rem ++ 125 :: t) = some rem.length
  | [], t, _ => by simp [ahead]
  | c :: rem, t, h => by
    have h1 : ¬ c = 125 := fun e => h (by simp [e])
    show ahead 125 (c :: (rem ++ 125 :: t)) = _
    unfold ahead
    rw [if_neg h1, ahead_end rem t (fun e => h (by simp [e]))]
    rfl
theorem blk_step {p : Nat} {c : UInt8} {r : List UInt8} (h : isBlk c = true) : stepT p c r = .go 0 [] := by unfold stepT; rw [if_pos h]
theorem Reach.over {D : List UInt8} {rem : List UInt8} {p : Nat} {acc : List Tok} (hp : p ≤ D.length) (hrem : (125 : UInt8) ∉ rem) (h : Reach (Go.Proofs.YtdlhaadnfmpldaaDoor.laid D (putL rem) p) p acc) : Reach (Go.Proofs.YtdlhaadnfmpldaaDoor.laid D (putL rem) p) (p + (rem.length + 6)) acc := by
  have d0 : (Go.Proofs.YtdlhaadnfmpldaaDoor.laid D (putL rem) p).drop p = 32 :: 9 :: 123 :: (rem ++ 125 :: 10 :: 13 :: D.drop p) := by
    unfold Go.Proofs.YtdlhaadnfmpldaaDoor.laid
    rw [List.drop_append_of_le_length (by rw [List.length_take]; omega), List.drop_take, Nat.sub_self, List.take_zero]
    simp [putL]
  have s1 := h.step d0 (blk_step (by decide))
  have d1 := drop_tail d0 0
  rw [List.drop_zero] at d1
  have s2 := s1.step d1.symm (blk_step (by decide))
  have d2 := drop_tail d1.symm 0
  rw [List.drop_zero] at d2
  have hst : stepT (p + 1 + 0 + 1 + 0) 123 (rem ++ 125 :: 10 :: 13 :: D.drop p) = .go (rem.length + 1) [] := by
    unfold stepT
    rw [if_neg (by decide), if_pos rfl, ahead_end _ _ hrem]
  have s3 := s2.step d2.symm hst
  have d3 := drop_tail d2.symm (rem.length + 1)
  rw [show (rem ++ 125 :: 10 :: 13 :: D.drop p).drop (rem.length + 1) = 10 :: 13 :: D.drop p from by rw [← List.drop_drop, List.drop_left]; rfl] at d3
  have s4 := s3.step d3.symm (blk_step (by decide))
  have d4 := drop_tail d3.symm 0
  rw [List.drop_zero] at d4
  have s5 := s4.step d4.symm (blk_step (by decide))
  simp only [List.append_nil] at s5
  rw [show p + (rem.length + 6) = p + 1 + 0 + 1 + 0 + 1 + (rem.length + 1) + 1 + 0 + 1 + 0 from by omega]
  exact s5
def shT (n : Nat) (x : Tok) : Tok := ⟨x.kind, x.pos + n, x.num, x.text⟩
theorem step_shift {p m n : Nat} {c : UInt8} {r : List UInt8} {ts : List Tok} (h : stepT p c r = .go m ts) : stepT (p + n) c r = .go m (ts.map (shT n)) := by
  unfold stepT at h ⊢
  split at h
  · rename_i h1; rw [if_pos h1]; cases h; rfl
  rename_i h1; rw [if_neg h1]
  split at h
  · rename_i h2; rw [if_pos h2]
    split at h
    · cases h
    · rename_i q e; cases h; rfl
  rename_i h2; rw [if_neg h2]
  split at h
  · rename_i h3; rw [if_pos h3]; cases h; simp [shT]
  rename_i h3; rw [if_neg h3]
  split at h
  · rename_i h4; rw [if_pos h4]
    split at h
    · rename_i h5; rw [if_pos h5]; cases h; simp [shT]
    · rename_i h5; rw [if_neg h5]
      split at h
      · cases h
      · rename_i h6; rw [if_neg h6]; cases h; simp [shT]
  rename_i h4; rw [if_neg h4]
  split at h
  · rename_i h5; rw [if_pos h5]
    split at h
    · rename_i h6; rw [if_pos h6]; cases h; simp [shT]
    · cases h
  · rename_i h5; rw [if_neg h5]
    split at h
    · cases h
    · rename_i q e; cases h; simp [shT]
theorem scan_shift (n : Nat) : ∀ (f : Nat) (l : List UInt8) (p : Nat) (acc acc2 T : List Tok), scanF f l p acc = .ok T → ∃ S, T = acc ++ S ∧ scanF f l (p + n) acc2 = .ok (acc2 ++ S.map (shT n))
  | 0, l, p, acc, acc2, T, h => by
    have h : TokR.ok acc = .ok T := h
    cases h
    exact ⟨[], by simp, by show TokR.ok acc2 = _; simp⟩
  | f + 1, [], p, acc, acc2, T, h => by
    have h : TokR.ok (acc ++ [⟨5, p, 0, []⟩]) = .ok T := h
    cases h
    exact ⟨_, rfl, by show TokR.ok (acc2 ++ [⟨5, ((p + n : Nat) : Int), 0, []⟩]) = _; simp [shT]⟩
  | f + 1, c :: r, p, acc, acc2, T, h => by
    unfold scanF at h
    cases hs : stepT p c r with
    | bad x => rw [hs] at h; cases h
    | go m ts =>
      rw [hs] at h
      obtain ⟨S, hS, h2⟩ := scan_shift n f (r.drop m) (p + 1 + m) (acc ++ ts) (acc2 ++ ts.map (shT n)) T h
      refine ⟨ts ++ S, by rw [hS, List.append_assoc], ?_⟩
      unfold scanF
      rw [step_shift hs]
      show scanF f (r.drop m) (p + n + 1 + m) (acc2 ++ ts.map (shT n)) = _
      rw [show p + n + 1 + m = p + 1 + m + n from by omega, h2, List.map_append, List.append_assoc]
/-- Blanks and a remark ahead of the token k turn nothing but places. -/
theorem blanks_all {D rem : List UInt8} {L : List Tok} (hall : allT D = .ok L) (hrem : (125 : UInt8) ∉ rem) {k : Nat} {x : Tok} (hk : L[k]? = some x) :
    ∃ p : Nat, x.pos = (p : Int) ∧ p ≤ D.length ∧ (D.length + (rem.length + 6) ≤ 4096 → allT (laid D (putL rem) p) = .ok (L.take k ++ (L.drop k).map (shT (rem.length + 6)))) := by
  unfold allT at hall
  split at hall
  · cases hall
  rename_i hbig
  have hall : scanF (D.length + 1) D 0 [] = .ok L := hall
  obtain ⟨S, hS, hreach⟩ := reach_tok (D := D) (D.length + 1) D 0 [] L .start rfl (Nat.zero_le _) (by omega) hall
  rw [List.nil_append] at hS
  subst hS
  obtain ⟨p, h1, h2, h3⟩ := hreach k x hk
  rw [List.nil_append] at h1
  refine ⟨p, h3, h2, fun hlen => ?_⟩
  have hl : (laid D (putL rem) p).length = D.length + (rem.length + 6) := by
    unfold laid
    rw [List.length_append, List.length_append, List.length_take, List.length_drop, putL_len]
    omega
  unfold allT
  rw [hl, if_neg (by omega)]
  have r1 := h1.laid (put := putL rem) h2 ⟨_, rfl⟩ (Nat.le_refl _)
  have r2 := r1.over h2 hrem
  rw [← r2.scan]
  have hd : (laid D (putL rem) p).drop (p + (rem.length + 6)) = D.drop p := by
    unfold laid
    rw [← List.append_assoc, ← putL_len, List.drop_left' (by rw [List.length_append, List.length_take]; omega)]
  rw [hd]
  have h0 := h1.scan
  have h0 : scanF ((D.drop p).length + 1) (D.drop p) p (L.take k) = .ok L := by
    have e : scan (D.drop p) p (L.take k) = .ok L := by rw [h0]; exact hall
    exact e
  obtain ⟨S2, e2, h5⟩ := scan_shift (rem.length + 6) _ _ _ _ (L.take k) _ h0
  have e3 : S2 = L.drop k := by
    have := e2
    conv at this => lhs; rw [← List.take_append_drop k L]
    exact (List.append_cancel_left this).symm
  subst e3
  exact h5
end Go.Proofs.YtdlhaadnfmpldaaDoor
