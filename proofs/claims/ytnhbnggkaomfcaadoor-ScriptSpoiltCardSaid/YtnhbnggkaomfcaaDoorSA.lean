/-
  Jobs as texts: lines, numbers behind a word, what is read.
-/
import Derived.Test.YtnhbnggkaomfcaaDoorNA
set_option linter.unusedVariables false
namespace Go.Proofs.YtnhbnggkaomfcaaDoor
open Go Go.RowKit Go.Lib

/-- The complete lines of a text, and what is behind the last line feed. -/
def lnsR : List UInt8 → List (List UInt8) × List UInt8
  | [] => ([], [])
  | c :: r => if c = 10 then ([] :: (lnsR r).1, (lnsR r).2) else match (lnsR r).1 with
    | [] => ([], c :: (lnsR r).2)
    | l :: ls => ((c :: l) :: ls, (lnsR r).2)
theorem lnsR_lf (r : List UInt8) : lnsR (10 :: r) = ([] :: (lnsR r).1, (lnsR r).2) := by rw [lnsR, if_pos rfl]
theorem lnsR_other {c : UInt8} (h : c ≠ 10) (r : List UInt8) : lnsR (c :: r) = match (lnsR r).1 with | [] => ([], c :: (lnsR r).2) | l :: ls => ((c :: l) :: ls, (lnsR r).2) := by rw [lnsR, if_neg h]
theorem lnsR_line : ∀ (a r : List UInt8), (10 : UInt8) ∉ a → lnsR (a ++ 10 :: r) = (a :: (lnsR r).1, (lnsR r).2)
  | [], r, _ => lnsR_lf r
  | c :: t, r, h => by
    rw [List.cons_append, lnsR_other (fun e => h (by simp [e])), lnsR_line t r (fun hm => h (by simp [hm]))]
theorem lnsR_rest : ∀ (a : List UInt8), (10 : UInt8) ∉ a → lnsR a = ([], a)
  | [], _ => rfl
  | c :: t, h => by
    rw [lnsR_other (fun e => h (by simp [e])), lnsR_rest t (fun hm => h (by simp [hm]))]
theorem lnsR_snoc : ∀ (a : List UInt8) (c : UInt8), lnsR (a ++ [c]) = if c = 10 then ((lnsR a).1 ++ [(lnsR a).2], []) else ((lnsR a).1, (lnsR a).2 ++ [c])
  | [], c => by
    by_cases h : c = 10
    · subst h; rfl
    · rw [if_neg h, List.nil_append, lnsR_other h]; rfl
  | d :: t, c => by
    have ih := lnsR_snoc t c
    rw [List.cons_append]
    by_cases hd : d = 10
    · subst hd
      rw [lnsR_lf, lnsR_lf, ih]
      split <;> simp
    · rw [lnsR_other hd, lnsR_other hd, ih]
      by_cases hc : c = 10
      · rw [if_pos hc, if_pos hc]
        cases h1 : (lnsR t).1 with
        | nil => simp
        | cons l ls => simp
      · rw [if_neg hc, if_neg hc]
        cases h1 : (lnsR t).1 with
        | nil => simp
        | cons l ls => simp
/-- A text is its lines, each with its line feed, and the rest. -/
theorem lnsR_glue : ∀ a : List UInt8, a = ((lnsR a).1.flatMap fun l => l ++ [10]) ++ (lnsR a).2
  | [] => rfl
  | c :: t => by
    have ih := lnsR_glue t
    by_cases hc : c = 10
    · subst hc
      rw [lnsR_lf]
      simp only [List.flatMap_cons, List.nil_append, List.cons_append]
      rw [← ih]
    · rw [lnsR_other hc]
      cases h1 : (lnsR t).1 with
      | nil => rw [h1] at ih; simp only [List.flatMap_nil, List.nil_append] at ih ⊢; rw [← ih]
      | cons l ls => rw [h1] at ih; simp only [List.flatMap_cons, List.cons_append] at ih ⊢; rw [← ih]
theorem lnsR_mem : ∀ (a l : List UInt8), l ∈ (lnsR a).1 → (10 : UInt8) ∉ l
  | [], l, h => by simp [lnsR] at h
  | c :: t, l, h => by
    have ih := lnsR_mem t
    by_cases hc : c = 10
    · subst hc
      rw [lnsR_lf] at h
      rcases List.mem_cons.1 h with e | e
      · subst e; simp
      · exact ih l e
    · rw [lnsR_other hc] at h
      cases h1 : (lnsR t).1 with
      | nil => rw [h1] at h; simp at h
      | cons m ms =>
        rw [h1] at h ih
        rcases List.mem_cons.1 h with e | e
        · subst e
          have := ih m (by simp)
          simp only [List.mem_cons, not_or]
          exact ⟨fun e => hc e.symm, this⟩
        · exact ih l (by simp [e])
theorem lnsR_nolf : ∀ a : List UInt8, (10 : UInt8) ∉ (lnsR a).2
  | [] => by simp [lnsR]
  | c :: t => by
    have ih := lnsR_nolf t
    by_cases hc : c = 10
    · subst hc; rw [lnsR_lf]; exact ih
    · rw [lnsR_other hc]
      cases h1 : (lnsR t).1 with
      | nil => simp only [List.mem_cons, not_or]; exact ⟨fun e => hc e.symm, ih⟩
      | cons m ms => exact ih
/-- What has been read so far is the end of what lies there. -/
theorem lnsR_suffix (a : List UInt8) : a.drop (a.length - (lnsR a).2.length) = (lnsR a).2 ∧ (lnsR a).2.length ≤ a.length := by
  have h := lnsR_glue a
  obtain ⟨p, hp⟩ : ∃ p, ((lnsR a).1.flatMap fun l => l ++ [10]) = p := ⟨_, rfl⟩
  obtain ⟨q, hq⟩ : ∃ q, (lnsR a).2 = q := ⟨_, rfl⟩
  rw [hp, hq] at h
  rw [hq, h]
  simp
theorem lnsR_count (a : List UInt8) : (lnsR a).1.length + (lnsR a).2.length ≤ a.length := by
  have h := congrArg List.length (lnsR_glue a)
  rw [List.length_append] at h
  have : ∀ l : List (List UInt8), l.length ≤ (l.flatMap fun l => l ++ [10]).length := fun l => by
    induction l with
    | nil => simp
    | cons m ms ih => simp only [List.flatMap_cons, List.length_append, List.length_cons, List.length_nil]; omega
  have := this (lnsR a).1
  omega
/-! Numbers behind a word. -/
noncomputable def allN : List (List UInt8) → Option (List Int)
  | [] => some []
  | w :: r => match numL w, allN r with
    | some x, some l => some (x :: l)
    | _, _ => none
theorem allN_cons (w : List UInt8) (r : List (List UInt8)) (x : Int) (hx : numL w = some x) : allN (w :: r) = (allN r).map (x :: ·) := by
  rw [allN, hx]
  cases allN r <;> rfl
theorem allN_none (w : List UInt8) (r : List (List UInt8)) (hx : numL w = none) : allN (w :: r) = none := by rw [allN, hx]
theorem allN_itoa : ∀ l : List Int, (∀ x ∈ l, InI x) → allN (l.map itoa) = some l
  | [], _ => rfl
  | x :: l, h => by
    rw [List.map_cons, allN_cons _ _ x (numL_itoa (h x (by simp))), allN_itoa l (fun y hy => h y (by simp [hy]))]; rfl
theorem allN_some : ∀ (ws : List (List UInt8)) (l : List Int), allN ws = some l → ws = l.map itoa ∧ ∀ x ∈ l, InI x
  | [], l, h => by cases h; simp
  | w :: r, l, h => by
    cases hx : numL w with
    | none => rw [allN_none _ _ hx] at h; cases h
    | some x =>
      rw [allN_cons _ _ _ hx] at h
      cases hr : allN r with
      | none => rw [hr] at h; cases h
      | some m =>
        rw [hr] at h
        cases h
        obtain ⟨h1, h2⟩ := allN_some r m hr
        obtain ⟨h3, h4⟩ := numL_some hx
        exact ⟨by rw [List.map_cons, h4, h1], fun y hy => by rcases List.mem_cons.1 hy with e | e; exact e ▸ h3; exact h2 y e⟩
theorem allN_app (a b : List (List UInt8)) (l : List Int) (ha : allN a = some l) : allN (a ++ b) = (allN b).map (l ++ ·) := by
  induction a generalizing l with
  | nil => cases ha; cases h : allN b <;> simp [h]
  | cons w r ih =>
    rw [List.cons_append]
    cases hx : numL w with
    | none => rw [allN_none _ _ hx] at ha; cases ha
    | some x =>
      rw [allN_cons _ _ _ hx] at ha ⊢
      cases hr : allN r with
      | none => rw [hr] at ha; cases ha
      | some m =>
        rw [hr] at ha
        cases ha
        rw [ih m hr]
        cases allN b <;> rfl
theorem allN_app_none (a b : List (List UInt8)) (ha : allN a = none) : allN (a ++ b) = none := by
  induction a with
  | nil => cases ha
  | cons w r ih =>
    rw [List.cons_append]
    cases hx : numL w with
    | none => exact allN_none _ _ hx
    | some x =>
      rw [allN_cons _ _ _ hx] at ha ⊢
      cases hr : allN r with
      | none => rw [ih hr]; rfl
      | some m => rw [hr] at ha; cases ha
/-- The numbers of a line behind its word; none, if it is no such line. -/
noncomputable def lineN (word l : List UInt8) : Option (List Int) := match words l with
  | w :: ws => if w = word then allN ws else none
  | [] => none
/-- Numbers, one blank ahead of each. -/
def numsT (l : List Int) : List UInt8 := l.flatMap fun x => 32 :: itoa x
theorem numsT_snoc (l : List Int) (x : Int) : numsT (l ++ [x]) = numsT l ++ 32 :: itoa x := by unfold numsT; simp
theorem words_nums : ∀ (l : List Int) (w : List UInt8), (32 : UInt8) ∉ w → words (w ++ numsT l) = w :: l.map itoa
  | [], w, h => by show words (w ++ []) = _; rw [List.append_nil, words_noblank _ h]; rfl
  | x :: l, w, h => by
    have : numsT (x :: l) = 32 :: (itoa x ++ numsT l) := by unfold numsT; simp
    rw [this, words_app _ _ h, words_nums l (itoa x) (itoa_noblank x)]; rfl
theorem glue_nums : ∀ (l : List Int) (w : List UInt8), glue (w :: l.map itoa) = w ++ numsT l
  | [], w => by show w = w ++ []; simp
  | x :: l, w => by
    have : numsT (x :: l) = 32 :: (itoa x ++ numsT l) := by unfold numsT; simp
    rw [List.map_cons, glue_cons _ (by simp), glue_nums l (itoa x), this]
theorem lineN_text {w : List UInt8} {l : List Int} (hw : (32 : UInt8) ∉ w) (hl : ∀ x ∈ l, InI x) : lineN w (w ++ numsT l) = some l := by
  unfold lineN
  rw [words_nums l w hw]
  show (if w = w then allN (l.map itoa) else none) = _
  rw [if_pos rfl, allN_itoa l hl]
theorem lineN_some {w t : List UInt8} {l : List Int} (h : lineN w t = some l) : t = w ++ numsT l ∧ ∀ x ∈ l, InI x := by
  unfold lineN at h
  cases hw : words t with
  | nil => exact absurd hw (words_ne t)
  | cons a ws =>
    rw [hw] at h
    dsimp only at h
    split at h
    · rename_i e
      obtain ⟨h1, h2⟩ := allN_some _ _ h
      have hg := glue_words t
      rw [hw, e, h1, glue_nums] at hg
      exact ⟨hg.symm, h2⟩
    · cases h
theorem itoa_nolf (x : Int) : (10 : UInt8) ∉ itoa x := by
  unfold itoa
  have h : ∀ u, (10 : UInt8) ∉ decDigits u := fun u hm => by
    have := decDigits_dig u _ hm
    unfold isDig at this
    simp at this
  split
  · simp only [List.mem_cons, not_or]; exact ⟨by decide, h _⟩
  · exact h _
theorem numsT_nolf (l : List Int) : (10 : UInt8) ∉ numsT l := by
  unfold numsT
  simp only [List.mem_flatMap, List.mem_cons, not_exists, not_and, not_or]
  exact fun x _ => ⟨by decide, itoa_nolf x⟩
/-! Jobs. -/
structure Jb where
  cl : Bool
  a : Int
  b : Int
  c : Int
  inp : List Int
  pk : List Int
def zeroJ : Jb := ⟨false, 0, 0, 0, [], []⟩
def wCl : List UInt8 := [99, 108, 97, 105, 109, 101, 100]
def wUn : List UInt8 := [117, 110, 99, 108, 97, 105, 109, 101, 100]
def wLim : List UInt8 := [108, 105, 109, 105, 116, 115]
def wInp : List UInt8 := [105, 110, 112, 117, 116]
def wPk : List UInt8 := [112, 105, 99, 107, 115]
def l0T (j : Jb) : List UInt8 := if j.cl then wCl else wUn
def l1T (j : Jb) : List UInt8 := wLim ++ numsT [j.a, j.b, j.c]
def l2T (j : Jb) : List UInt8 := wInp ++ numsT j.inp
def l3T (j : Jb) : List UInt8 := wPk ++ numsT j.pk
def textJ (j : Jb) : List UInt8 := l0T j ++ 10 :: (l1T j ++ 10 :: (l2T j ++ 10 :: (l3T j ++ [10])))
/-- Is line k as it must be? -/
def okL (k : Nat) (l : List UInt8) : Prop := match k with
  | 0 => l = wCl ∨ l = wUn
  | 1 => ∃ a b c, lineN wLim l = some [a, b, c]
  | 2 => ∃ m, lineN wInp l = some m
  | _ => ∃ m, lineN wPk l = some m
noncomputable def putL (k : Nat) (l : List UInt8) (j : Jb) : Jb := match k with
  | 0 => { j with cl := decide (l = wCl) }
  | 1 => match lineN wLim l with
    | some [a, b, c] => { j with a := a, b := b, c := c }
    | _ => j
  | 2 => { j with inp := (lineN wInp l).getD [] }
  | _ => { j with pk := (lineN wPk l).getD [] }
noncomputable def jobAt (L : List (List UInt8)) : Nat → Jb
  | 0 => zeroJ
  | k + 1 => putL k (L.getD k []) (jobAt L k)
/-- The first k lines are as they must be. -/
def OkTo (L : List (List UInt8)) (k : Nat) : Prop := k ≤ L.length ∧ ∀ i, i < k → okL i (L.getD i [])
theorem OkTo.zero (L : List (List UInt8)) : OkTo L 0 := ⟨Nat.zero_le _, fun i hi => by omega⟩
theorem OkTo.succ {L : List (List UInt8)} {k : Nat} (h : OkTo L k) (hk : k < L.length) (ho : okL k (L.getD k [])) : OkTo L (k + 1) :=
  ⟨hk, fun i hi => by
    by_cases e : i = k
    · subst e; exact ho
    · exact h.2 i (by omega)⟩
/-- What is read of lines L and a rest R: the job, the line that is wrong, the code. -/
def RdS (L : List (List UInt8)) (R : List UInt8) (j : Jb) (n : Nat) (c : Int) : Prop :=
  (∃ k, k < 4 ∧ OkTo L k ∧ (L.length = k ∨ (k < L.length ∧ ¬ okL k (L.getD k []))) ∧ j = zeroJ ∧ n = k + 1 ∧ c = 6) ∨
  (OkTo L 4 ∧ (4 < L.length ∨ R ≠ []) ∧ j = zeroJ ∧ n = 5 ∧ c = 6) ∨
  (OkTo L 4 ∧ L.length = 4 ∧ R = [] ∧ j = jobAt L 4 ∧ n = 0 ∧ c = 0)
theorem RdS.uniq {L : List (List UInt8)} {R : List UInt8} {j j' : Jb} {n n' : Nat} {c c' : Int} (h : RdS L R j n c) (h' : RdS L R j' n' c') : j = j' ∧ n = n' ∧ c = c' := by
  have bad : ∀ {k k' : Nat}, OkTo L k → (L.length = k ∨ (k < L.length ∧ ¬ okL k (L.getD k []))) → OkTo L k' → k' ≤ k := fun {k k'} h1 h2 h3 => by
    rcases Nat.lt_or_ge k k' with hlt | hge
    · rcases h2 with e | ⟨_, e⟩
      · have := h3.1; omega
      · exact absurd (h3.2 k hlt) e
    · exact hge
  rcases h with ⟨k, hk, ho, hb, rfl, rfl, rfl⟩ | ⟨ho, hb, rfl, rfl, rfl⟩ | ⟨ho, hb, hR, rfl, rfl, rfl⟩ <;>
  rcases h' with ⟨k', hk', ho', hb', rfl, rfl, rfl⟩ | ⟨ho', hb', rfl, rfl, rfl⟩ | ⟨ho', hb', hR', rfl, rfl, rfl⟩
  · have h1 := bad ho hb ho'
    have h2 := bad ho' hb' ho
    exact ⟨rfl, by omega, rfl⟩
  · have := bad ho hb ho'; omega
  · have := bad ho hb ho'; omega
  · have := bad ho' hb' ho; omega
  · exact ⟨rfl, rfl, rfl⟩
  · rcases hb with e | e
    · omega
    · exact absurd hR' e
  · have := bad ho' hb' ho; omega
  · rcases hb' with e | e
    · omega
    · exact absurd hR e
  · exact ⟨rfl, rfl, rfl⟩
theorem l0T_no (j : Jb) : (10 : UInt8) ∉ l0T j := by unfold l0T; split <;> decide
theorem l1T_no (j : Jb) : (10 : UInt8) ∉ l1T j := by
  unfold l1T; rw [List.mem_append]; exact fun h => h.elim (by decide) (numsT_nolf _)
theorem l2T_no (j : Jb) : (10 : UInt8) ∉ l2T j := by
  unfold l2T; rw [List.mem_append]; exact fun h => h.elim (by decide) (numsT_nolf _)
theorem l3T_no (j : Jb) : (10 : UInt8) ∉ l3T j := by
  unfold l3T; rw [List.mem_append]; exact fun h => h.elim (by decide) (numsT_nolf _)
theorem lns_text (j : Jb) : lnsR (textJ j) = ([l0T j, l1T j, l2T j, l3T j], []) := by
  unfold textJ
  rw [lnsR_line _ _ (l0T_no j), lnsR_line _ _ (l1T_no j), lnsR_line _ _ (l2T_no j), lnsR_line _ _ (l3T_no j)]
  rfl
structure InJ (j : Jb) : Prop where
  a : InI j.a
  b : InI j.b
  c : InI j.c
  inp : ∀ x ∈ j.inp, InI x
  pk : ∀ x ∈ j.pk, InI x
theorem rowJ1 {j : Jb} (h : InJ j) : lineN wLim (l1T j) = some [j.a, j.b, j.c] := lineN_text (by decide) (fun x hx => by
  simp only [List.mem_cons, List.not_mem_nil, or_false] at hx
  rcases hx with rfl | rfl | rfl
  · exact h.a
  · exact h.b
  · exact h.c)
theorem rowJ2 {j : Jb} (h : InJ j) : lineN wInp (l2T j) = some j.inp := lineN_text (by decide) h.inp
theorem rowJ3 {j : Jb} (h : InJ j) : lineN wPk (l3T j) = some j.pk := lineN_text (by decide) h.pk
/-- What was written is read as it was. -/
theorem read_text {j : Jb} (h : InJ j) : RdS (lnsR (textJ j)).1 (lnsR (textJ j)).2 j 0 0 := by
  rw [lns_text]
  refine .inr (.inr ⟨⟨by simp, fun i hi => ?_⟩, rfl, rfl, ?_, rfl, rfl⟩)
  · rcases (by omega : i = 0 ∨ i = 1 ∨ i = 2 ∨ i = 3) with rfl | rfl | rfl | rfl
    · show l0T j = wCl ∨ l0T j = wUn
      unfold l0T; split <;> simp
    · exact ⟨_, _, _, rowJ1 h⟩
    · exact ⟨_, rowJ2 h⟩
    · exact ⟨_, rowJ3 h⟩
  · show j = putL 3 (l3T j) (putL 2 (l2T j) (putL 1 (l1T j) (putL 0 (l0T j) zeroJ)))
    unfold putL
    (try dsimp only)
    rw [rowJ1 h, rowJ2 h, rowJ3 h]
    obtain ⟨cl, a, b, c, inp, pk⟩ := j
    unfold l0T
    cases cl <;> simp [wCl, wUn]
/-- What is read was written so. -/
theorem text_read {s : List UInt8} {j : Jb} {n : Nat} (h : RdS (lnsR s).1 (lnsR s).2 j n 0) : textJ j = s ∧ InJ j := by
  rcases h with ⟨_, _, _, _, _, _, e⟩ | ⟨_, _, _, _, e⟩ | ⟨ho, hl, hR, rfl, _, _⟩
  · omega
  · omega
  have hs := lnsR_glue s
  rw [hR, List.append_nil] at hs
  obtain ⟨L, hL⟩ : ∃ L, (lnsR s).1 = L := ⟨_, rfl⟩
  rw [hL] at hs ho hl ⊢
  obtain ⟨x0, x1, x2, x3, rfl⟩ : ∃ x0 x1 x2 x3, L = [x0, x1, x2, x3] := by
    match L, hl with
    | [x0, x1, x2, x3], _ => exact ⟨x0, x1, x2, x3, rfl⟩
  have o0 : x0 = wCl ∨ x0 = wUn := ho.2 0 (by omega)
  obtain ⟨a, b, c, o1⟩ : ∃ a b c, lineN wLim x1 = some [a, b, c] := ho.2 1 (by omega)
  obtain ⟨m2, o2⟩ : ∃ m, lineN wInp x2 = some m := ho.2 2 (by omega)
  obtain ⟨m3, o3⟩ : ∃ m, lineN wPk x3 = some m := ho.2 3 (by omega)
  have e1 := lineN_some o1
  have e2 := lineN_some o2
  have e3 := lineN_some o3
  have hj : jobAt [x0, x1, x2, x3] 4 = ⟨decide (x0 = wCl), a, b, c, m2, m3⟩ := by
    show putL 3 x3 (putL 2 x2 (putL 1 x1 (putL 0 x0 zeroJ))) = _
    unfold putL
    (try dsimp only)
    rw [o1, o2, o3]
    rfl
  rw [hj]
  refine ⟨?_, e1.2 a (by simp), e1.2 b (by simp), e1.2 c (by simp), e2.2, e3.2⟩
  rw [hs]
  unfold textJ l0T l1T l2T l3T
  dsimp only
  rw [← e1.1, ← e2.1, ← e3.1]
  have e0 : (if decide (x0 = wCl) = true then wCl else wUn) = x0 := by
    rcases o0 with e | e
    · subst e; rfl
    · subst e; rfl
  rw [e0]
  simp
end Go.Proofs.YtnhbnggkaomfcaaDoor
