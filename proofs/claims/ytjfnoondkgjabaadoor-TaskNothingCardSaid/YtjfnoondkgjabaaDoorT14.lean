/-
  The stack as a list of frames, the innermost first, the last one standing for what is outside of all frames; how it lies in the words.
-/
import Derived.Test.YtjfnoondkgjabaaDoorT13
import Derived.Test.YtjfnoondkgjabaaDoorT8
set_option linter.unusedVariables false
namespace Go.Proofs.YtjfnoondkgjabaaDoor

structure Frm where
  back : Int
  loc : List Int
  ops : List Int
def topS : List Frm → Nat
  | [] => 0
  | [F] => F.ops.length
  | F :: G :: r => topS (G :: r) + F.loc.length + 2 + F.ops.length
def baseS : List Frm → Nat
  | F :: G :: r => topS (G :: r)
  | _ => 0
def locS : List Frm → Nat
  | F :: G :: r => F.loc.length
  | _ => 0
def Lay (f : Nat → Int) (a : Nat) : List Frm → Prop
  | [] => False
  | [F] => F.loc = [] ∧ ∀ j, j < F.ops.length → f (a + j) = F.ops.getD j 0
  | F :: G :: r => Lay f a (G :: r) ∧ (∀ j, j < F.loc.length → f (a + topS (G :: r) + j) = F.loc.getD j 0) ∧ f (a + topS (G :: r) + F.loc.length) = F.back ∧
      f (a + topS (G :: r) + F.loc.length + 1) = ((baseS (G :: r) * 8193 + locS (G :: r) : Nat) : Int) ∧ ∀ j, j < F.ops.length → f (a + topS (G :: r) + F.loc.length + 2 + j) = F.ops.getD j 0
theorem Lay.congr {f f' : Nat → Int} {a : Nat} : ∀ {S : List Frm}, Lay f a S → (∀ j, j < topS S → f' (a + j) = f (a + j)) → Lay f' a S
  | [], h, _ => h
  | [F], h, e => ⟨h.1, fun j hj => by rw [e j hj]; exact h.2 j hj⟩
  | F :: G :: r, h, e => by
    have ht : topS (F :: G :: r) = topS (G :: r) + F.loc.length + 2 + F.ops.length := rfl
    rw [ht] at e
    have e' : ∀ j, j < F.loc.length + 2 + F.ops.length → f' (a + topS (G :: r) + j) = f (a + topS (G :: r) + j) := fun j hj => by
      have := e (topS (G :: r) + j) (by omega)
      rwa [← Nat.add_assoc] at this
    refine ⟨h.1.congr fun j hj => e j (by omega), fun j hj => by rw [e' j (by omega)]; exact h.2.1 j hj, ?_, ?_, fun j hj => ?_⟩
    · rw [e' _ (by omega)]; exact h.2.2.1
    · have := e' (F.loc.length + 1) (by omega)
      rw [← Nat.add_assoc] at this
      rw [this]; exact h.2.2.2.1
    · have := e' (F.loc.length + (2 + j)) (by omega)
      rw [← Nat.add_assoc, ← Nat.add_assoc] at this
      rw [this]; exact h.2.2.2.2 j hj
theorem Lay.ne {f : Nat → Int} {a : Nat} {S : List Frm} (h : Lay f a S) : ∃ F r, S = F :: r := by
  cases S with
  | nil => exact h.elim
  | cons F r => exact ⟨F, r, rfl⟩
/-- Where the operands begin. -/
def opsAt : List Frm → Nat
  | F :: G :: r => topS (G :: r) + F.loc.length + 2
  | _ => 0
theorem topS_ops (F : Frm) (r : List Frm) : topS (F :: r) = opsAt (F :: r) + F.ops.length := by
  cases r with
  | nil => simp [topS, opsAt]
  | cons G r => rfl
theorem flo_ops (F : Frm) (r : List Frm) : flo r.length (baseS (F :: r)) (locS (F :: r)) = opsAt (F :: r) := by
  cases r with
  | nil => rfl
  | cons G r => unfold flo; rw [if_neg (by simp)]; rfl
theorem Lay.ops {f : Nat → Int} {a : Nat} {F : Frm} {r : List Frm} (h : Lay f a (F :: r)) (j : Nat) (hj : j < F.ops.length) : f (a + opsAt (F :: r) + j) = F.ops.getD j 0 := by
  cases r with
  | nil => exact h.2 j hj
  | cons G r => have h0 : opsAt (F :: G :: r) = topS (G :: r) + F.loc.length + 2 := rfl
                rw [show a + opsAt (F :: G :: r) + j = a + topS (G :: r) + F.loc.length + 2 + j from by omega]; exact h.2.2.2.2 j hj
/-- The same frame with other operands. -/
theorem Lay.withOps {f f' : Nat → Int} {a : Nat} {F : Frm} {r : List Frm} (h : Lay f a (F :: r)) (xs : List Int) (e : ∀ j, j < opsAt (F :: r) → f' (a + j) = f (a + j)) (hx : ∀ j, j < xs.length → f' (a + opsAt (F :: r) + j) = xs.getD j 0) : Lay f' a ({F with ops := xs} :: r) := by
  cases r with
  | nil => exact ⟨h.1, hx⟩
  | cons G r =>
    have h0 : opsAt (F :: G :: r) = topS (G :: r) + F.loc.length + 2 := rfl
    rw [h0] at e hx
    have h' : Lay f a ({F with ops := []} :: G :: r) := ⟨h.1, h.2.1, h.2.2.1, h.2.2.2.1, fun j hj => by simp at hj⟩
    obtain ⟨q1, q2, q3, q4, _⟩ := h'.congr (f' := f') (fun j hj => e j (by simpa [topS] using hj))
    refine ⟨q1, q2, q3, q4, fun j hj => ?_⟩
    have := hx j hj
    rwa [show a + (topS (G :: r) + F.loc.length + 2) + j = a + topS (G :: r) + F.loc.length + 2 + j from by omega] at this
theorem topS_with (F : Frm) (r : List Frm) (xs : List Int) : topS ({F with ops := xs} :: r) = opsAt (F :: r) + xs.length ∧ baseS ({F with ops := xs} :: r) = baseS (F :: r) ∧ locS ({F with ops := xs} :: r) = locS (F :: r) := by
  cases r with
  | nil => exact ⟨by simp [topS, opsAt], rfl, rfl⟩
  | cons G r => exact ⟨rfl, rfl, rfl⟩
theorem getD_last (xs : List Int) (x : Int) : (xs ++ [x]).getD xs.length 0 = x := by simp
theorem getD_pre (xs ys : List Int) (j : Nat) (h : j < xs.length) : (xs ++ ys).getD j 0 = xs.getD j 0 := by simp [List.getD, List.getElem?_append_left h]
theorem Lay.push {f : Nat → Int} {a : Nat} {F : Frm} {r : List Frm} (h : Lay f a (F :: r)) (x : Int) : Lay (upd f (a + topS (F :: r)) x) a ({F with ops := F.ops ++ [x]} :: r) := by
  have ht := topS_ops F r
  refine h.withOps _ (fun j hj => upd_ne _ _ _ _ (by omega)) (fun j hj => ?_)
  by_cases hl : j = F.ops.length
  · subst hl; rw [getD_last, upd_eq _ _ _ _ (by omega)]
  · rw [List.length_append] at hj
    have hj : j < F.ops.length := by simp at hj; omega
    rw [getD_pre _ _ _ hj, upd_ne _ _ _ _ (by omega)]
    exact h.ops j hj
theorem Lay.take {f : Nat → Int} {a : Nat} {F : Frm} {r : List Frm} (h : Lay f a (F :: r)) (n : Nat) : Lay f a ({F with ops := F.ops.take n} :: r) := by
  refine h.withOps _ (fun _ _ => rfl) (fun j hj => ?_)
  rw [List.length_take, Nat.lt_min] at hj
  rw [h.ops j hj.2]
  simp [List.getD, List.getElem?_take_of_lt hj.1]
theorem Lay.loc {f : Nat → Int} {a : Nat} {F : Frm} {r : List Frm} (h : Lay f a (F :: r)) (j : Nat) (hj : j < F.loc.length) : r ≠ [] ∧ f (a + baseS (F :: r) + j) = F.loc.getD j 0 := by
  cases r with
  | nil => rw [h.1] at hj; simp at hj
  | cons G r => exact ⟨by simp, h.2.1 j hj⟩
theorem Lay.locLen {f : Nat → Int} {a : Nat} {F : Frm} {r : List Frm} (h : Lay f a (F :: r)) : locS (F :: r) = F.loc.length := by
  cases r with
  | nil => rw [h.1]; rfl
  | cons G r => rfl
theorem Lay.setL {f : Nat → Int} {a : Nat} {F : Frm} {r : List Frm} (h : Lay f a (F :: r)) (i : Nat) (hi : i < F.loc.length) (x : Int) : Lay (upd f (a + baseS (F :: r) + i) x) a ({F with loc := F.loc.set i x} :: r) := by
  cases r with
  | nil => rw [h.1] at hi; simp at hi
  | cons G r =>
    have hb : baseS (F :: G :: r) = topS (G :: r) := rfl
    rw [hb]
    obtain ⟨q1, q2, q3, q4, q5⟩ := h
    refine ⟨q1.congr fun j hj => upd_ne _ _ _ _ (by omega), fun j hj => ?_, ?_, ?_, fun j hj => ?_⟩
    · simp at hj
      by_cases hji : j = i
      · subst hji; rw [upd_eq _ _ _ _ rfl]; simp [hj]
      · rw [upd_ne _ _ _ _ (by omega), q2 j hj]; simp [List.getD, List.getElem?_set_ne (Ne.symm hji)]
    · simp only [List.length_set]; rw [upd_ne _ _ _ _ (by omega)]; exact q3
    · simp only [List.length_set]; rw [upd_ne _ _ _ _ (by omega)]; exact q4
    · simp only [List.length_set]; rw [upd_ne _ _ _ _ (by omega)]; exact q5 j hj
theorem Lay.ret {f : Nat → Int} {a : Nat} {F G : Frm} {r : List Frm} (h : Lay f a (F :: G :: r)) : Lay f a (G :: r) := h.1
theorem Lay.call {f : Nat → Int} {a : Nat} {F : Frm} {r : List Frm} (h : Lay f a (F :: r)) (back : Int) (pa lc : Nat) (h1 : pa ≤ lc) (h2 : pa ≤ F.ops.length) :
    Lay (callG f a (topS (F :: r)) pa lc back ((baseS (F :: r) * 8193 + locS (F :: r) : Nat) : Int)) a (⟨back, F.ops.drop (F.ops.length - pa) ++ List.replicate (lc - pa) 0, []⟩ :: {F with ops := F.ops.take (F.ops.length - pa)} :: r) := by
  have ht := topS_ops F r
  obtain ⟨e1, e2, e3⟩ := topS_with F r (F.ops.take (F.ops.length - pa))
  have hl : (F.ops.take (F.ops.length - pa)).length = F.ops.length - pa := by simp
  have hd : (F.ops.drop (F.ops.length - pa)).length = pa := by simp; omega
  have hlen : (F.ops.drop (F.ops.length - pa) ++ List.replicate (lc - pa) (0 : Int)).length = lc := by rw [List.length_append, hd, List.length_replicate]; omega
  obtain ⟨T, hT⟩ : ∃ T, topS (F :: r) = T := ⟨_, rfl⟩
  have hbT : topS ({F with ops := F.ops.take (F.ops.length - pa)} :: r) = T - pa := by rw [e1, hl]; omega
  refine ⟨(h.take _).congr fun j hj => ?_, ?_, ?_, ?_, fun j hj => by simp at hj⟩
  · rw [hbT] at hj
    unfold callG
    rw [upd_ne _ _ _ _ (by omega), upd_ne _ _ _ _ (by omega)]; unfold clr; rw [if_neg (by omega)]
  · intro j hj
    rw [hbT]
    rw [show ({ back := back, loc := F.ops.drop (F.ops.length - pa) ++ List.replicate (lc - pa) 0, ops := [] } : Frm).loc = F.ops.drop (F.ops.length - pa) ++ List.replicate (lc - pa) 0 from rfl] at hj ⊢
    rw [hlen] at hj
    unfold callG
    rw [hT, upd_ne _ _ _ _ (by omega), upd_ne _ _ _ _ (by omega)]; unfold clr
    by_cases hp : j < pa
    · rw [if_neg (by omega), getD_pre _ _ _ (by omega)]
      have := h.ops (F.ops.length - pa + j) (by omega)
      rw [show a + (T - pa) + j = a + opsAt (F :: r) + (F.ops.length - pa + j) from by omega, this]
      simp [List.getD]
    · rw [if_pos (by omega)]
      simp only [List.getD]
      rw [List.getElem?_append_right (by omega), hd, List.getElem?_replicate]
      split <;> rfl
  · show callG _ _ _ _ _ _ _ (a + _ + (F.ops.drop (F.ops.length - pa) ++ List.replicate (lc - pa) (0 : Int)).length) = back
    rw [hlen, hbT, hT]; unfold callG; rw [upd_ne _ _ _ _ (by omega), upd_eq _ _ _ _ (by omega)]
  · show callG _ _ _ _ _ _ _ (a + _ + (F.ops.drop (F.ops.length - pa) ++ List.replicate (lc - pa) (0 : Int)).length + 1) = _
    rw [hlen, hbT, hT, e2, e3]; unfold callG; rw [upd_eq _ _ _ _ (by omega)]
end Go.Proofs.YtjfnoondkgjabaaDoor
