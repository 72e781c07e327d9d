/-
  The stack as a list of frames, the innermost first, the last one standing for what is outside of all frames; how it lies in the words.
  The program's stack, by the list of its frames.
  A slice of the call's own whose elements are structs of s cells: appended to at its end, written in its midst.
  A slice of structs of numbers: many appended at once.
  The reference's stack in memory; what is read of it.
  The reference's stack: what is asked of it.
  The reference's stack: a local; how many words are in use.
  The reference's stack: a local.
  The reference's stack: a return.
  The reference's stack: the innermost frame's operands turned.
  The reference's stack: Push.
  The reference's stack: Pop.
  The reference's stack: SetLocal.
  The reference's stack: a frame more.
-/
import Derived.Test.YtjfnoondkgjabaaGreatDoorYAA
set_option linter.unusedVariables false
set_option linter.unusedSimpArgs false
set_option maxRecDepth 100000
namespace Go.Proofs.YtjfnoondkgjabaaGreatDoor

structure Frm where
  back : Int
  loc : List Int
  ops : List Int
def topS : List Frm → Nat
  | [] => 0
  | [F] => F.ops.length
  | F :: G :: r => topS (G :: r) + F.loc.length + 2 + F.ops.length
def baseS : List Frm → Nat
  | F :: G :: r => topS (G :: r)
  | _ => 0
def locS : List Frm → Nat
  | F :: G :: r => F.loc.length
  | _ => 0
def Lay (f : Nat → Int) (a : Nat) : List Frm → Prop
  | [] => False
  | [F] => F.loc = [] ∧ ∀ j, j < F.ops.length → f (a + j) = F.ops.getD j 0
  | F :: G :: r => Lay f a (G :: r) ∧ (∀ j, j < F.loc.length → f (a + topS (G :: r) + j) = F.loc.getD j 0) ∧ f (a + topS (G :: r) + F.loc.length) = F.back ∧
      f (a + topS (G :: r) + F.loc.length + 1) = ((baseS (G :: r) * 8193 + locS (G :: r) : Nat) : Int) ∧ ∀ j, j < F.ops.length → f (a + topS (G :: r) + F.loc.length + 2 + j) = F.ops.getD j 0
theorem Lay.congr {f f' : Nat → Int} {a : Nat} : ∀ {S : List Frm}, Lay f a S → (∀ j, j < topS S → f' (a + j) = f (a + j)) → Lay f' a S
  | [], h, _ => h
  | [F], h, e => ⟨h.1, fun j hj => by rw [e j hj]; exact h.2 j hj⟩
  | F :: G :: r, h, e => by
    have ht : topS (F :: G :: r) = topS (G :: r) + F.loc.length + 2 + F.ops.length := rfl
    rw [ht] at e
    have e' : ∀ j, j < F.loc.length + 2 + F.ops.length → f' (a + topS (G :: r) + j) = f (a + topS (G :: r) + j) := fun j hj => by
      have := e (topS (G :: r) + j) (by omega)
      rwa [← Nat.add_assoc] at this
    refine ⟨h.1.congr fun j hj => e j (by omega), fun j hj => by rw [e' j (by omega)]; exact h.2.1 j hj, ?_, ?_, fun j hj => ?_⟩
    · rw [e' _ (by omega)]; exact h.2.2.1
    · have := e' (F.loc.length + 1) (by omega)
      rw [← Nat.add_assoc] at this
      rw [this]; exact h.2.2.2.1
    · have := e' (F.loc.length + (2 + j)) (by omega)
      rw [← Nat.add_assoc, ← Nat.add_assoc] at this
      rw [this]; exact h.2.2.2.2 j hj
theorem Lay.ne {f : Nat → Int} {a : Nat} {S : List Frm} (h : Lay f a S) : ∃ F r, S = F :: r := by
  cases S with
  | nil => exact h.elim
  | cons F r => exact ⟨F, r, rfl⟩
/-- Where the operands begin. -/
def opsAt : List Frm → Nat
  | F :: G :: r => topS (G :: r) + F.loc.length + 2
  | _ => 0
theorem topS_ops (F : Frm) (r : List Frm) : topS (F :: r) = opsAt (F :: r) + F.ops.length := by
  cases r with
  | nil => simp [topS, opsAt]
  | cons G r => rfl
theorem flo_ops (F : Frm) (r : List Frm) : flo r.length (baseS (F :: r)) (locS (F :: r)) = opsAt (F :: r) := by
  cases r with
  | nil => rfl
  | cons G r => unfold flo; rw [if_neg (by simp)]; rfl
theorem Lay.ops {f : Nat → Int} {a : Nat} {F : Frm} {r : List Frm} (h : Lay f a (F :: r)) (j : Nat) (hj : j < F.ops.length) : f (a + opsAt (F :: r) + j) = F.ops.getD j 0 := by
  cases r with
  | nil => exact h.2 j hj
  | cons G r => have h0 : opsAt (F :: G :: r) = topS (G :: r) + F.loc.length + 2 := rfl
                rw [show a + opsAt (F :: G :: r) + j = a + topS (G :: r) + F.loc.length + 2 + j from by omega]; exact h.2.2.2.2 j hj
/-- The same frame with other operands. -/
theorem Lay.withOps {f f' : Nat → Int} {a : Nat} {F : Frm} {r : List Frm} (h : Lay f a (F :: r)) (xs : List Int) (e : ∀ j, j < opsAt (F :: r) → f' (a + j) = f (a + j)) (hx : ∀ j, j < xs.length → f' (a + opsAt (F :: r) + j) = xs.getD j 0) : Lay f' a ({F with ops := xs} :: r) := by
  cases r with
  | nil => exact ⟨h.1, hx⟩
  | cons G r =>
    have h0 : opsAt (F :: G :: r) = topS (G :: r) + F.loc.length + 2 := rfl
    rw [h0] at e hx
    have h' : Lay f a ({F with ops := []} :: G :: r) := ⟨h.1, h.2.1, h.2.2.1, h.2.2.2.1, fun j hj => by simp at hj⟩
    obtain ⟨q1, q2, q3, q4, _⟩ := h'.congr (f' := f') (fun j hj => e j (by simpa [topS] using hj))
    refine ⟨q1, q2, q3, q4, fun j hj => ?_⟩
    have := hx j hj
    rwa [show a + (topS (G :: r) + F.loc.length + 2) + j = a + topS (G :: r) + F.loc.length + 2 + j from by omega] at this
theorem topS_with (F : Frm) (r : List Frm) (xs : List Int) : topS ({F with ops := xs} :: r) = opsAt (F :: r) + xs.length ∧ baseS ({F with ops := xs} :: r) = baseS (F :: r) ∧ locS ({F with ops := xs} :: r) = locS (F :: r) := by
  cases r with
  | nil => exact ⟨by simp [topS, opsAt], rfl, rfl⟩
  | cons G r => exact ⟨rfl, rfl, rfl⟩
theorem getD_last (xs : List Int) (x : Int) : (xs ++ [x]).getD xs.length 0 = x := by simp
theorem getD_pre (xs ys : List Int) (j : Nat) (h : j < xs.length) : (xs ++ ys).getD j 0 = xs.getD j 0 := by simp [List.getD, List.getElem?_append_left h]
theorem Lay.push {f : Nat → Int} {a : Nat} {F : Frm} {r : List Frm} (h : Lay f a (F :: r)) (x : Int) : Lay (upd f (a + topS (F :: r)) x) a ({F with ops := F.ops ++ [x]} :: r) := by
  have ht := topS_ops F r
  refine h.withOps _ (fun j hj => upd_ne _ _ _ _ (by omega)) (fun j hj => ?_)
  by_cases hl : j = F.ops.length
  · subst hl; rw [getD_last, upd_eq _ _ _ _ (by omega)]
  · rw [List.length_append] at hj
    have hj : j < F.ops.length := by simp at hj; omega
    rw [getD_pre _ _ _ hj, upd_ne _ _ _ _ (by omega)]
    exact h.ops j hj
theorem Lay.take {f : Nat → Int} {a : Nat} {F : Frm} {r : List Frm} (h : Lay f a (F :: r)) (n : Nat) : Lay f a ({F with ops := F.ops.take n} :: r) := by
  refine h.withOps _ (fun _ _ => rfl) (fun j hj => ?_)
  rw [List.length_take, Nat.lt_min] at hj
  rw [h.ops j hj.2]
  simp [List.getD, List.getElem?_take_of_lt hj.1]
theorem Lay.loc {f : Nat → Int} {a : Nat} {F : Frm} {r : List Frm} (h : Lay f a (F :: r)) (j : Nat) (hj : j < F.loc.length) : r ≠ [] ∧ f (a + baseS (F :: r) + j) = F.loc.getD j 0 := by
  cases r with
  | nil => rw [h.1] at hj; simp at hj
  | cons G r => exact ⟨by simp, h.2.1 j hj⟩
theorem Lay.locLen {f : Nat → Int} {a : Nat} {F : Frm} {r : List Frm} (h : Lay f a (F :: r)) : locS (F :: r) = F.loc.length := by
  cases r with
  | nil => rw [h.1]; rfl
  | cons G r => rfl
theorem Lay.setL {f : Nat → Int} {a : Nat} {F : Frm} {r : List Frm} (h : Lay f a (F :: r)) (i : Nat) (hi : i < F.loc.length) (x : Int) : Lay (upd f (a + baseS (F :: r) + i) x) a ({F with loc := F.loc.set i x} :: r) := by
  cases r with
  | nil => rw [h.1] at hi; simp at hi
  | cons G r =>
    have hb : baseS (F :: G :: r) = topS (G :: r) := rfl
    rw [hb]
    obtain ⟨q1, q2, q3, q4, q5⟩ := h
    refine ⟨q1.congr fun j hj => upd_ne _ _ _ _ (by omega), fun j hj => ?_, ?_, ?_, fun j hj => ?_⟩
    · simp at hj
      by_cases hji : j = i
      · subst hji; rw [upd_eq _ _ _ _ rfl]; simp [hj]
      · rw [upd_ne _ _ _ _ (by omega), q2 j hj]; simp [List.getD, List.getElem?_set_ne (Ne.symm hji)]
    · simp only [List.length_set]; rw [upd_ne _ _ _ _ (by omega)]; exact q3
    · simp only [List.length_set]; rw [upd_ne _ _ _ _ (by omega)]; exact q4
    · simp only [List.length_set]; rw [upd_ne _ _ _ _ (by omega)]; exact q5 j hj
theorem Lay.ret {f : Nat → Int} {a : Nat} {F G : Frm} {r : List Frm} (h : Lay f a (F :: G :: r)) : Lay f a (G :: r) := h.1
theorem Lay.call {f : Nat → Int} {a : Nat} {F : Frm} {r : List Frm} (h : Lay f a (F :: r)) (back : Int) (pa lc : Nat) (h1 : pa ≤ lc) (h2 : pa ≤ F.ops.length) :
    Lay (callG f a (topS (F :: r)) pa lc back ((baseS (F :: r) * 8193 + locS (F :: r) : Nat) : Int)) a (⟨back, F.ops.drop (F.ops.length - pa) ++ List.replicate (lc - pa) 0, []⟩ :: {F with ops := F.ops.take (F.ops.length - pa)} :: r) := by
  have ht := topS_ops F r
  obtain ⟨e1, e2, e3⟩ := topS_with F r (F.ops.take (F.ops.length - pa))
  have hl : (F.ops.take (F.ops.length - pa)).length = F.ops.length - pa := by simp
  have hd : (F.ops.drop (F.ops.length - pa)).length = pa := by simp; omega
  have hlen : (F.ops.drop (F.ops.length - pa) ++ List.replicate (lc - pa) (0 : Int)).length = lc := by rw [List.length_append, hd, List.length_replicate]; omega
  obtain ⟨T, hT⟩ : ∃ T, topS (F :: r) = T := ⟨_, rfl⟩
  have hbT : topS ({F with ops := F.ops.take (F.ops.length - pa)} :: r) = T - pa := by rw [e1, hl]; omega
  refine ⟨(h.take _).congr fun j hj => ?_, ?_, ?_, ?_, fun j hj => by simp at hj⟩
  · rw [hbT] at hj
    unfold callG
    rw [upd_ne _ _ _ _ (by omega), upd_ne _ _ _ _ (by omega)]; unfold clr; rw [if_neg (by omega)]
  · intro j hj
    rw [hbT]
    rw [show ({ back := back, loc := F.ops.drop (F.ops.length - pa) ++ List.replicate (lc - pa) 0, ops := [] } : Frm).loc = F.ops.drop (F.ops.length - pa) ++ List.replicate (lc - pa) 0 from rfl] at hj ⊢
    rw [hlen] at hj
    unfold callG
    rw [hT, upd_ne _ _ _ _ (by omega), upd_ne _ _ _ _ (by omega)]; unfold clr
    by_cases hp : j < pa
    · rw [if_neg (by omega), getD_pre _ _ _ (by omega)]
      have := h.ops (F.ops.length - pa + j) (by omega)
      rw [show a + (T - pa) + j = a + opsAt (F :: r) + (F.ops.length - pa + j) from by omega, this]
      simp [List.getD]
    · rw [if_pos (by omega)]
      simp only [List.getD]
      rw [List.getElem?_append_right (by omega), hd, List.getElem?_replicate]
      split <;> rfl
  · show callG _ _ _ _ _ _ _ (a + _ + (F.ops.drop (F.ops.length - pa) ++ List.replicate (lc - pa) (0 : Int)).length) = back
    rw [hlen, hbT, hT]; unfold callG; rw [upd_ne _ _ _ _ (by omega), upd_eq _ _ _ _ (by omega)]
  · show callG _ _ _ _ _ _ _ (a + _ + (F.ops.drop (F.ops.length - pa) ++ List.replicate (lc - pa) (0 : Int)).length + 1) = _
    rw [hlen, hbT, hT, e2, e3]; unfold callG; rw [upd_eq _ _ _ _ (by omega)]
end Go.Proofs.YtjfnoondkgjabaaGreatDoor

set_option linter.unusedVariables false
set_option maxRecDepth 100000
namespace Go.Proofs.YtjfnoondkgjabaaGreatDoor
open Go.RowKit Go.BigFrame

/-- What each call answers, and what it leaves. -/
def pushM (sz : Nat) (x : Int) : List Frm → Int × List Frm
  | [] => (0, [])
  | F :: r => if topS (F :: r) < sz then (0, {F with ops := F.ops ++ [x]} :: r) else (41, F :: r)
def popM : List Frm → Int × Int × List Frm
  | [] => (0, 0, [])
  | F :: r => if F.ops.length = 0 then (0, 4, F :: r) else (F.ops.getD (F.ops.length - 1) 0, 0, {F with ops := F.ops.take (F.ops.length - 1)} :: r)
def callM (sz : Nat) (back pa lc : Int) : List Frm → Int × List Frm
  | [] => (0, [])
  | F :: r => if pa < 0 ∨ lc < pa then (1, F :: r) else if (F.ops.length : Int) < pa then (4, F :: r) else if (sz : Int) < topS (F :: r) + (lc - pa) + 2 then (41, F :: r)
      else (0, ⟨back, F.ops.drop (F.ops.length - pa.toNat) ++ List.replicate (lc.toNat - pa.toNat) 0, []⟩ :: {F with ops := F.ops.take (F.ops.length - pa.toNat)} :: r)
def retM : List Frm → Int × Bool × List Frm
  | F :: G :: r => (F.back, true, G :: r)
  | S => (0, false, S)
def setM (i x : Int) : List Frm → Bool × List Frm
  | [] => (false, [])
  | F :: r => if i < 0 ∨ (F.loc.length : Int) ≤ i then (false, F :: r) else (true, {F with loc := F.loc.set i.toNat x} :: r)
def topM (i : Int) : List Frm → Int × Bool
  | [] => (0, false)
  | F :: r => if i < 0 ∨ (F.ops.length : Int) ≤ i then (0, false) else (F.ops.getD (F.ops.length - 1 - i.toNat) 0, true)
def locM (i : Int) : List Frm → Int × Bool
  | [] => (0, false)
  | F :: r => if i < 0 ∨ (F.loc.length : Int) ≤ i then (0, false) else (F.loc.getD i.toNat 0, true)
/-- Outside of its own place nothing is turned. -/
def Agr (at' sz : Nat) (f f' : Nat → Int) : Prop := ∀ j, (j < at' ∨ at' + sz ≤ j) → f' j = f j
theorem Agr.refl (at' sz : Nat) (f : Nat → Int) : Agr at' sz f f := fun _ _ => rfl
theorem Agr.upd (at' sz : Nat) (f : Nat → Int) (j : Nat) (x : Int) (h : at' ≤ j ∧ j < at' + sz) : Agr at' sz f (upd f j x) := fun i hi => upd_ne _ _ _ _ (by omega)
theorem Agr.call (at' sz : Nat) (f : Nat → Int) (T p l : Nat) (b c : Int) (h1 : p ≤ l) (h2 : p ≤ T) (h3 : T - p + l + 2 ≤ sz) : Agr at' sz f (callG f at' T p l b c) := fun i hi => by
  unfold callG
  rw [upd_ne _ _ _ _ (by omega), upd_ne _ _ _ _ (by omega)]; unfold clr; rw [if_neg (by omega)]
/-- The same, told of the words. -/
def KsF (w : World) (k sb g : Nat) (f : Nat → Int) (N at' sz : Nat) (S : List Frm) : Prop := Kv w k sb g f N (S.length - 1) (baseS S) (locS S) (topS S) at' sz ∧ Lay f at' S
def KsP (k sb g N at' sz : Nat) (f : Nat → Int) (S : List Frm) (r : Value) (w : World) (e : Ending) (w' : World) : Prop := e = .returned r ∧ (∃ f', KsF w' k sb g f' N at' sz S ∧ Agr at' sz f f') ∧ Touch [k, g] w w'
theorem KsF.still {w w' : World} {k sb g N at' sz : Nat} {f : Nat → Int} {S : List Frm} (h : KsF w k sb g f N at' sz S) (ht : Touch [] w w') : KsF w' k sb g f N at' sz S := ⟨h.1.still ht, h.2⟩
theorem two_top : ∀ (F : Frm) (r : List Frm), 2 * r.length ≤ topS (F :: r)
  | F, [] => by simp
  | F, G :: r => by have := two_top G r; show 2 * (r.length + 1) ≤ topS (G :: r) + F.loc.length + 2 + F.ops.length; omega
theorem base_loc (F : Frm) (r : List Frm) : baseS (F :: r) + locS (F :: r) ≤ topS (F :: r) := by
  cases r with
  | nil => exact Nat.zero_le _
  | cons G r => show topS (G :: r) + F.loc.length ≤ topS (G :: r) + F.loc.length + 2 + F.ops.length; omega
section
variable (k sb g : Nat) (f : Nat → Int) (N at' sz : Nat) (F : Frm) (r : List Frm) (w : World)
theorem push_m (x : Int) (h : KsF w k sb g f N at' sz (F :: r)) : Calls Tryz.prog 33 #[.pointer (some ⟨k, 0, none⟩), .int .i64 x] w (KsP k sb g N at' sz f (pushM sz x (F :: r)).2 (.int .i64 (pushM sz x (F :: r)).1) w) := by
  obtain ⟨h, hl⟩ := h
  have hs := h.tps
  simp only [pushM]
  by_cases hr : topS (F :: r) < sz
  · rw [if_pos hr]
    refine (push_yes k sb g f N _ _ _ _ at' sz w x h hr).mono ?_
    rintro e w' ⟨rfl, hk, ht⟩
    obtain ⟨e1, e2, e3⟩ := topS_with F r (F.ops ++ [x])
    refine ⟨rfl, ⟨_, ⟨?_, hl.push x⟩, Agr.upd _ _ _ _ _ (by omega)⟩, ht⟩
    rw [e1, e2, e3, List.length_append, show opsAt (F :: r) + (F.ops.length + [x].length) = topS (F :: r) + 1 from by rw [topS_ops]; rfl]
    exact hk
  · rw [if_neg hr]
    refine (push_no k sb g f N _ _ _ _ at' sz w x h (by omega)).mono ?_
    rintro e w' ⟨rfl, ht⟩
    exact ⟨rfl, ⟨f, ⟨h.still ht, hl⟩, Agr.refl _ _ _⟩, ht.mono (by simp)⟩
theorem pop_m (h : KsF w k sb g f N at' sz (F :: r)) : Calls Tryz.prog 92 #[.pointer (some ⟨k, 0, none⟩)] w (KsP k sb g N at' sz f (popM (F :: r)).2.2 (.tuple #[.int .i64 (popM (F :: r)).1, .int .i64 (popM (F :: r)).2.1]) w) := by
  obtain ⟨h, hl⟩ := h
  have ho := topS_ops F r
  have hfl := flo_ops F r
  simp only [popM]
  by_cases hr : F.ops.length = 0
  · rw [if_pos hr]
    refine (pop_no k sb g f N _ _ _ _ at' sz w h (by rw [List.length_cons, Nat.add_sub_cancel, hfl]; omega)).mono ?_
    rintro e w' ⟨rfl, ht⟩
    exact ⟨rfl, ⟨f, ⟨h.still ht, hl⟩, Agr.refl _ _ _⟩, ht.mono (by simp)⟩
  · rw [if_neg hr]
    refine (pop_yes k sb g f N _ _ _ _ at' sz w h (by rw [List.length_cons, Nat.add_sub_cancel, hfl]; omega)).mono ?_
    rintro e w' ⟨rfl, hk, ht⟩
    have hv := hl.ops (F.ops.length - 1) (by omega)
    rw [show at' + opsAt (F :: r) + (F.ops.length - 1) = at' + topS (F :: r) - 1 from by omega] at hv
    obtain ⟨e1, e2, e3⟩ := topS_with F r (F.ops.take (F.ops.length - 1))
    refine ⟨by rw [hv], ⟨f, ⟨?_, hl.take _⟩, Agr.refl _ _ _⟩, ht⟩
    rw [e1, e2, e3, List.length_take, show opsAt (F :: r) + min (F.ops.length - 1) F.ops.length = topS (F :: r) - 1 from by omega]
    exact hk
theorem call_m (back pa lc : Int) (hlc : lc ≤ 9223372036854775807) (h : KsF w k sb g f N at' sz (F :: r)) : Calls Tryz.prog 14 #[.pointer (some ⟨k, 0, none⟩), .int .i64 back, .int .i64 pa, .int .i64 lc] w (KsP k sb g N at' sz f (callM sz back pa lc (F :: r)).2 (.int .i64 (callM sz back pa lc (F :: r)).1) w) := by
  have h0 := h
  obtain ⟨h, hl⟩ := h
  have ho := topS_ops F r
  have hfl := flo_ops F r
  have hs := h.tps
  have hb := h.big
  have hi := h.fit
  have h2 := two_top F r
  have hbl := base_loc F r
  have hlen : (F :: r).length - 1 = r.length := by rw [List.length_cons, Nat.add_sub_cancel]
  simp only [callM]
  by_cases c1 : pa < 0 ∨ lc < pa
  · rw [if_pos c1]
    by_cases c0 : pa < 0
    · refine (call_arg0 k w back pa lc c0).mono ?_
      rintro e w' ⟨rfl, rfl⟩
      exact ⟨rfl, ⟨f, h0, Agr.refl _ _ _⟩, Touch.refl _ _⟩
    · refine (call_arg1 k w back pa lc c0 (by omega)).mono ?_
      rintro e w' ⟨rfl, rfl⟩
      exact ⟨rfl, ⟨f, h0, Agr.refl _ _ _⟩, Touch.refl _ _⟩
  · rw [if_neg c1]
    obtain ⟨p, rfl⟩ : ∃ p : Nat, pa = p := ⟨pa.toNat, by omega⟩
    obtain ⟨l, rfl⟩ : ∃ l : Nat, lc = l := ⟨lc.toNat, by omega⟩
    by_cases c2 : (F.ops.length : Int) < p
    · rw [if_pos c2]
      refine (call_few k sb g f N _ _ _ _ at' sz w h (by rw [hlen, hfl]; omega) back p l (by omega) (by rw [hlen, hfl]; omega)).mono ?_
      rintro e w' ⟨rfl, ht⟩
      exact ⟨rfl, ⟨f, ⟨h.still ht, hl⟩, Agr.refl _ _ _⟩, ht.mono (by simp)⟩
    · rw [if_neg c2]
      by_cases c3 : (sz : Int) < topS (F :: r) + ((l : Int) - p) + 2
      · rw [if_pos c3]
        refine (call_full k sb g f N _ _ _ _ at' sz w back p l h (by rw [hlen, hfl]; omega) (by omega) (by rw [hlen, hfl]; omega) (by omega) (by omega)).mono ?_
        rintro e w' ⟨rfl, ht⟩
        exact ⟨rfl, ⟨f, ⟨h.still ht, hl⟩, Agr.refl _ _ _⟩, ht.mono (by simp)⟩
      · rw [if_neg c3]
        refine (callG_yes k sb g f N _ _ _ _ at' sz w back p l h (by omega) (by rw [hlen, hfl]; omega) (by omega) (by omega) (by omega) (by omega)).mono ?_
        rintro e w' ⟨rfl, hk, ht⟩
        refine ⟨rfl, ⟨_, ⟨?_, hl.call back p l (by omega) (by omega)⟩, Agr.call _ _ _ _ _ _ _ _ (by omega) (by omega) (by omega)⟩, ht⟩
        obtain ⟨e1, e2, e3⟩ := topS_with F r (F.ops.take (F.ops.length - p))
        have hd : (F.ops.drop (F.ops.length - p) ++ List.replicate (l - p) (0 : Int)).length = l := by rw [List.length_append, List.length_drop, List.length_replicate]; omega
        rw [hlen] at hk
        have q1 : baseS (⟨back, F.ops.drop (F.ops.length - p) ++ List.replicate (l - p) 0, []⟩ :: {F with ops := F.ops.take (F.ops.length - p)} :: r) = topS (F :: r) - p := by
          show topS ({F with ops := F.ops.take (F.ops.length - p)} :: r) = _
          rw [e1, List.length_take]; omega
        have q2 : locS (⟨back, F.ops.drop (F.ops.length - p) ++ List.replicate (l - p) 0, []⟩ :: {F with ops := F.ops.take (F.ops.length - p)} :: r) = l := hd
        have q3 : topS (⟨back, F.ops.drop (F.ops.length - p) ++ List.replicate (l - p) 0, []⟩ :: {F with ops := F.ops.take (F.ops.length - p)} :: r) = topS (F :: r) - p + l + 2 := by
          show topS ({F with ops := F.ops.take (F.ops.length - p)} :: r) + (F.ops.drop (F.ops.length - p) ++ List.replicate (l - p) (0 : Int)).length + 2 + 0 = _
          rw [hd, e1, List.length_take]; omega
        rw [Int.toNat_natCast, Int.toNat_natCast, q1, q2, q3]
        exact hk
theorem ret_m (h : KsF w k sb g f N at' sz (F :: r)) : Calls Tryz.prog 95 #[.pointer (some ⟨k, 0, none⟩)] w (KsP k sb g N at' sz f (retM (F :: r)).2.2 (.tuple #[.int .i64 (retM (F :: r)).1, .bool (retM (F :: r)).2.1]) w) := by
  have h0 := h
  obtain ⟨h, hl⟩ := h
  have hs := h.tps
  have hb := h.big
  have hi := h.fit
  cases r with
  | nil =>
    refine (ret_no k sb g f N _ _ _ at' sz w h).mono ?_
    rintro e w' ⟨rfl, rfl⟩
    exact ⟨rfl, ⟨f, h0, Agr.refl _ _ _⟩, Touch.refl _ _⟩
  | cons G r =>
    have h2 := two_top G r
    have hbl := base_loc G r
    have hle : topS (G :: r) + F.loc.length + 2 ≤ topS (F :: G :: r) := Nat.le_add_right _ _
    refine (retG_yes k sb g f N r.length (topS (G :: r)) F.loc.length (baseS (G :: r)) (locS (G :: r)) _ at' sz w h hl.2.2.2.1 hle (by omega) (by omega) (by omega)).mono ?_
    rintro e w' ⟨rfl, hk, ht⟩
    exact ⟨by rw [hl.2.2.1]; rfl, ⟨f, ⟨hk, hl.ret⟩, Agr.refl _ _ _⟩, ht⟩
theorem set_m (i x : Int) (h : KsF w k sb g f N at' sz (F :: r)) : Calls Tryz.prog 94 #[.pointer (some ⟨k, 0, none⟩), .int .i64 i, .int .i64 x] w (KsP k sb g N at' sz f (setM i x (F :: r)).2 (.bool (setM i x (F :: r)).1) w) := by
  obtain ⟨h, hl⟩ := h
  have hs := h.tps
  have hb := h.big
  have hi := h.fit
  have hbl := base_loc F r
  have hlo := hl.locLen
  simp only [setM]
  by_cases c : i < 0 ∨ (F.loc.length : Int) ≤ i
  · rw [if_pos c]
    refine (set_no k sb g f N _ _ _ _ at' sz w i x h (.inr (by rw [hlo]; exact c))).mono ?_
    rintro e w' ⟨rfl, ht⟩
    exact ⟨rfl, ⟨f, ⟨h.still ht, hl⟩, Agr.refl _ _ _⟩, ht.mono (by simp)⟩
  · rw [if_neg c]
    obtain ⟨p, rfl⟩ : ∃ p : Nat, i = p := ⟨i.toNat, by omega⟩
    obtain ⟨hr, _⟩ := hl.loc p (by omega)
    obtain ⟨G, r', rfl⟩ : ∃ G r', r = G :: r' := by
      cases r with
      | nil => exact absurd rfl hr
      | cons G r' => exact ⟨G, r', rfl⟩
    refine (set_yes k sb g f N _ _ _ _ at' sz w p x h (by simp) (by omega) (by omega)).mono ?_
    rintro e w' ⟨rfl, hk, ht⟩
    refine ⟨rfl, ⟨_, ⟨?_, hl.setL p (by omega) x⟩, Agr.upd _ _ _ _ _ (by omega)⟩, ht⟩
    rw [Int.toNat_natCast]
    have q : topS ({F with loc := F.loc.set p x} :: G :: r') = topS (F :: G :: r') := by show topS (G :: r') + (F.loc.set p x).length + 2 + F.ops.length = _; rw [List.length_set]; rfl
    have q2 : locS ({F with loc := F.loc.set p x} :: G :: r') = locS (F :: G :: r') := by show (F.loc.set p x).length = _; rw [List.length_set]; rfl
    show Kv _ _ _ _ _ _ ((F :: G :: r').length - 1) (baseS (F :: G :: r')) (locS ({F with loc := F.loc.set p x} :: G :: r')) (topS ({F with loc := F.loc.set p x} :: G :: r')) _ _
    rw [q, q2]
    exact hk
theorem top_m (i : Int) (h : KsF w k sb g f N at' sz (F :: r)) : Calls Tryz.prog 16 #[.pointer (some ⟨k, 0, none⟩), .int .i64 i] w fun e w' => e = .returned (.tuple #[.int .i64 (topM i (F :: r)).1, .bool (topM i (F :: r)).2]) ∧ Touch [] w w' := by
  obtain ⟨h, hl⟩ := h
  have ho := topS_ops F r
  have hfl := flo_ops F r
  have hlen : (F :: r).length - 1 = r.length := by rw [List.length_cons, Nat.add_sub_cancel]
  simp only [topM]
  by_cases c : i < 0 ∨ (F.ops.length : Int) ≤ i
  · rw [if_pos c]
    refine topG_no k sb g f N _ _ _ _ at' sz w i h (by rw [hlen, hfl]; omega) ?_
    rw [hlen, hfl]; omega
  · rw [if_neg c]
    obtain ⟨p, rfl⟩ : ∃ p : Nat, i = p := ⟨i.toNat, by omega⟩
    have hv := hl.ops (F.ops.length - 1 - p) (by omega)
    rw [show at' + opsAt (F :: r) + (F.ops.length - 1 - p) = at' + topS (F :: r) - 1 - p from by omega] at hv
    rw [Int.toNat_natCast, ← hv]
    exact top_yes k sb g f N _ _ _ _ at' sz w p h (by rw [hlen, hfl]; omega) (by rw [hlen, hfl]; omega)
theorem loc_m (i : Int) (h : KsF w k sb g f N at' sz (F :: r)) : Calls Tryz.prog 65 #[.pointer (some ⟨k, 0, none⟩), .int .i64 i] w fun e w' => e = .returned (.tuple #[.int .i64 (locM i (F :: r)).1, .bool (locM i (F :: r)).2]) ∧ Touch [] w w' := by
  obtain ⟨h, hl⟩ := h
  have hs := h.tps
  have hb := h.big
  have hi := h.fit
  have hbl := base_loc F r
  have hlo := hl.locLen
  simp only [locM]
  by_cases c : i < 0 ∨ (F.loc.length : Int) ≤ i
  · rw [if_pos c]
    refine (local_no k sb g f N _ _ _ _ at' sz w i h (.inr (by rw [hlo]; exact c))).mono ?_
    rintro e w' ⟨rfl, rfl⟩
    exact ⟨rfl, Touch.refl _ _⟩
  · rw [if_neg c]
    obtain ⟨p, rfl⟩ : ∃ p : Nat, i = p := ⟨i.toNat, by omega⟩
    obtain ⟨hr, hv⟩ := hl.loc p (by omega)
    obtain ⟨G, r', rfl⟩ : ∃ G r', r = G :: r' := by
      cases r with
      | nil => exact absurd rfl hr
      | cons G r' => exact ⟨G, r', rfl⟩
    rw [Int.toNat_natCast, ← hv]
    exact local_yes k sb g f N _ _ _ at' sz w _ p h (by simp) (by omega) (by omega)
theorem len_m (h : KsF w k sb g f N at' sz (F :: r)) : Calls Tryz.prog 63 #[.pointer (some ⟨k, 0, none⟩)] w fun e w' => e = .returned (.int .i64 (topS (F :: r) : Nat)) ∧ w = w' := by
  obtain ⟨h, hl⟩ := h
  exact len_q k sb g f N _ _ _ _ at' sz w h
theorem frames_m (h : KsF w k sb g f N at' sz (F :: r)) : Calls Tryz.prog 47 #[.pointer (some ⟨k, 0, none⟩)] w fun e w' => e = .returned (.int .i64 (r.length : Nat)) ∧ w = w' := by
  obtain ⟨h, hl⟩ := h
  exact frames_q k sb g f N _ _ _ _ at' sz w h
theorem operands_m (h : KsF w k sb g f N at' sz (F :: r)) : Calls Tryz.prog 40 #[.pointer (some ⟨k, 0, none⟩)] w fun e w' => e = .returned (.int .i64 (F.ops.length : Nat)) ∧ Touch [] w w' := by
  obtain ⟨h, hl⟩ := h
  have ho := topS_ops F r
  have hfl := flo_ops F r
  have hlen : (F :: r).length - 1 = r.length := by rw [List.length_cons, Nat.add_sub_cancel]
  have := operands_q k sb g f N _ _ _ _ at' sz w h (by rw [hlen, hfl]; omega)
  rw [hlen, hfl, show topS (F :: r) - opsAt (F :: r) = F.ops.length from by omega] at this
  exact this
end
end Go.Proofs.YtjfnoondkgjabaaGreatDoor

set_option linter.unusedVariables false
namespace Go.Proofs.YtjfnoondkgjabaaGreatDoor
open Go.RowKit

def setV (ps : Nat → Nat → Value) (i j : Nat) (x : Value) : Nat → Nat → Value := fun a c => if a = i ∧ c = j then x else ps a c
theorem setV_same (ps : Nat → Nat → Value) (i j : Nat) (x : Value) : setV ps i j x i j = x := if_pos ⟨rfl, rfl⟩
theorem setV_ne (ps : Nat → Nat → Value) {i j a c : Nat} (x : Value) (h : ¬ (a = i ∧ c = j)) : setV ps i j x a c = ps a c := if_neg h
def addV (ps : Nat → Nat → Value) (n : Nat) (f : Nat → Value) : Nat → Nat → Value := fun a j => if a = n then f j else ps a j
theorem addV_new (ps : Nat → Nat → Value) (n : Nat) (f : Nat → Value) (j : Nat) : addV ps n f n j = f j := if_pos rfl
theorem addV_old (ps : Nat → Nat → Value) {n a : Nat} (f : Nat → Value) (j : Nat) (h : a ≠ n) : addV ps n f a j = ps a j := if_neg h
/-- v is a slice of the call's own (its block from base on) of n elements of s cells: cell j of element i is ps i j. -/
def Av (w : World) (base : Nat) (e : TypeId) (s : Nat) (v : Value) (n : Nat) (ps : Nat → Nat → Value) : Prop :=
  (v = .slice none 0 0 ∧ n = 0) ∨ ∃ g cap cur, v = .slice (some ⟨g, 0, none⟩) n cap ∧ base ≤ g ∧ Blk w g cur e ∧ n ≤ cap ∧ cap ≤ maxLen ∧ cap * s ≤ cur.size ∧ ∀ i, i < n → ∀ j, j < s → cur[i * s + j]? = some (ps i j)
theorem Av.nil (w : World) (base : Nat) (e : TypeId) (s : Nat) (ps : Nat → Nat → Value) : Av w base e s (.slice none 0 0) 0 ps := .inl ⟨rfl, rfl⟩
theorem Av.touch {w w' : World} {base : Nat} {e : TypeId} {s n : Nat} {v : Value} {ps : Nat → Nat → Value} {S : List Nat} (h : Av w base e s v n ps) (ht : Touch S w w') (hs : ∀ k, v.ownBlock = some k → k ∉ S) : Av w' base e s v n ps := by
  rcases h with h | ⟨g, cap, cur, rfl, hb, hg, r⟩
  · exact .inl h
  · exact .inr ⟨g, cap, cur, rfl, hb, hg.touch ht (hs g rfl), r⟩
theorem Av.own {w : World} {base : Nat} {e : TypeId} {s n : Nat} {v : Value} {ps : Nat → Nat → Value} (h : Av w base e s v n ps) : ∀ k, v.ownBlock = some k → base ≤ k ∧ k < w.heap.size := by
  intro k hk
  rcases h with ⟨rfl, _⟩ | ⟨g, cap, cur, rfl, hb, hg, _⟩
  · simp [Value.ownBlock] at hk
  · simp [Value.ownBlock] at hk; subst hk; exact ⟨hb, hg.lt⟩
theorem Av.mono {w : World} {base base' : Nat} {e : TypeId} {s n : Nat} {v : Value} {ps : Nat → Nat → Value} (h : Av w base e s v n ps) (hb : base' ≤ base) : Av w base' e s v n ps := by
  rcases h with h | ⟨g, cap, cur, rfl, hb2, r⟩
  · exact .inl h
  · exact .inr ⟨g, cap, cur, rfl, by omega, r⟩
theorem Av.form {w : World} {base : Nat} {e : TypeId} {s n : Nat} {v : Value} {ps : Nat → Nat → Value} (h : Av w base e s v n ps) : ∃ a c, v = .slice a n c ∧ n ≤ maxLen := by
  rcases h with ⟨rfl, rfl⟩ | ⟨g, cap, cur, rfl, hb, hg, h1, h2, _⟩
  · exact ⟨none, 0, rfl, Nat.zero_le _⟩
  · exact ⟨_, cap, rfl, by omega⟩
/-- An element's place, and what lies there. -/
theorem Av.at {w : World} {base : Nat} {e : TypeId} {s n : Nat} {v : Value} {ps : Nat → Nat → Value} (h : Av w base e s v n ps) {i : Nat} (hi : i < n) :
    ∃ g cap, v = .slice (some ⟨g, 0, none⟩) n cap ∧ base ≤ g ∧ g < w.heap.size ∧ n ≤ cap ∧ cap ≤ maxLen ∧ (∀ j, j < s → w.cell? ⟨g, i * s + j, none⟩ = some (ps i j)) ∧ (∀ k, w.frozen? ⟨g, k, none⟩ = false) ∧
      ∀ j x, j < s → Av (w.setCell ⟨g, i * s + j, none⟩ x) base e s v n (setV ps i j x) := by
  rcases h with ⟨rfl, rfl⟩ | ⟨g, cap, cur, rfl, hb, hg, h1, h2, h3, h4⟩
  · omega
  · refine ⟨g, cap, rfl, hb, hg.lt, h1, h2, fun j hj => hg.cell (h4 i hi j hj), fun k => hg.free k, fun j x hj => .inr ⟨g, cap, _, rfl, hb, hg.set _ _, h1, h2, by simpa using h3, fun a ha c hc => ?_⟩⟩
    rw [Array.getElem?_setIfInBounds]
    by_cases e1 : a = i ∧ c = j
    · obtain ⟨rfl, rfl⟩ := e1
      have hin : a * s + c < cur.size := by
        have : (a + 1) * s ≤ cap * s := Nat.mul_le_mul_right _ (by omega)
        rw [Nat.add_mul, Nat.one_mul] at this
        omega
      rw [setV_same]; simp [hin]
    · have hne : i * s + j ≠ a * s + c := by
        intro he
        apply e1
        rcases Nat.lt_trichotomy a i with hl | hl | hl
        · have : (a + 1) * s ≤ i * s := Nat.mul_le_mul_right _ (by omega)
          rw [Nat.add_mul, Nat.one_mul] at this
          omega
        · subst hl; exact ⟨rfl, by omega⟩
        · have : (i + 1) * s ≤ a * s := Nat.mul_le_mul_right _ (by omega)
          rw [Nat.add_mul, Nat.one_mul] at this
          omega
      rw [if_neg hne, setV_ne _ _ e1]
      exact h4 a ha c hc

/-- ONE ELEMENT MORE. -/
theorem Av.append {P : Program} {t e : TypeId} {i : TypeInfo} {z : Value} {s bytes : Nat} (ht : P.underlying t = some (.slice e)) (hi : P.info? e = some i) (hz : i.zero = some z) (h1 : i.size = s) (h8 : i.bytes = bytes) (hzs : z.cells.size = s)
    {w : World} {base n : Nat} {v : Value} {ps : Nat → Nat → Value} (h : Av w base e s v n ps) (hbase : base ≤ w.heap.size) (ad : Addr) (c : Nat) (f : Nat → Value) (hx : ∀ j, j < s → w.cell? (ad.add j) = some (f j)) (h1c : ∀ j, j < s → (f j).oneCell' = true) (hlen : (n + 1) * bytes ≤ 140737488355328) (hlen2 : n + 1 ≤ 140737488355328) :
    ∃ v' w', (∀ ty, (Builtin.append_ #[t, t] ty #[v, .slice (some ad) 1 c]).run P w = .ok v' w') ∧ Av w' base e s v' (n + 1) (addV ps n f) ∧ w.grownBy w' v.ownBlock ∧ ∀ k, v'.ownBlock = some k → v.ownBlock = some k ∨ w.heap.size ≤ k := by
  have hnl : ((List.range s).map fun j => f j).length = 1 * s := by simp
  have hng : ∀ j, j < s → ((List.range s).map fun j => f j)[j]? = some (f j) := fun j hj => by simp [hj]
  obtain ⟨us, hus⟩ : ∃ us, us = (List.range s).map fun j => f j := ⟨_, rfl⟩
  have hone : ∀ u ∈ us, u.oneCell' = true := fun u hu => by rw [hus] at hu; simp at hu; obtain ⟨j, hj, rfl⟩ := hu; exact h1c j hj
  rw [← hus] at hnl hng
  have hul : us.length = s := by omega
  have hsrc : Src P i.size t (.slice (some ad) 1 c) 1 us w := by
    rw [h1]
    refine Src.ofSlice w ht ad 1 c us hnl (fun j u hj => ?_) hone
    have hjs : j < s := by
      by_cases h : j < us.length
      · omega
      · rw [List.getElem?_eq_none (by omega)] at hj; cases hj
    rw [hng j hjs] at hj
    cases hj
    exact hx j hjs
  have grow : ∀ (a : Option Addr) (cap : Nat) (olds : List Value), v = .slice a n cap → olds.length = n * s → (∀ i, i < n → ∀ j, j < s → olds[i * s + j]? = some (ps i j)) → (Builtin.firstCells i.size n (.slice a n cap)).run P w.drew = .ok olds.toArray w.drew → cap < n + 1 →
      ∃ v' w', (∀ ty, (Builtin.append_ #[t, t] ty #[v, .slice (some ad) 1 c]).run P w = .ok v' w') ∧ Av w' base e s v' (n + 1) (addV ps n f) ∧ w.grownBy w' v.ownBlock ∧ ∀ k, v'.ownBlock = some k → v.ownBlock = some k ∨ w.heap.size ≤ k := by
    rintro a cap olds rfl hol hog hold hg
    have hfit : Builtin.nextslicecap (n + 1) cap * i.bytes ≤ 281474976710656 := growslice_fits (by omega) (by rw [h8]; exact hlen)
    have hr := fun ty => run_append_grow_src (w := w) t t ty e i z ht hi hz a n cap olds hold (.slice (some ad) 1 c) 1 us hsrc hg (by omega) hfit
    have hge := grownCap_ge w (n + 1) cap e
    have hmx := grownCap_le_maxLen w (n + 1) cap e (by unfold maxLen; omega)
    refine ⟨_, _, hr, ?_, ?_⟩
    · refine .inr ⟨w.heap.size, grownCap w (n + 1) cap e, _, rfl, hbase, Blk.new rfl, hge, hmx, ?_, ?_⟩
      · have e1 : (grownCap w (n + 1) cap e - (n + 1)) * s + (n * s + s) = grownCap w (n + 1) cap e * s := by
          rw [show n * s + s = (n + 1) * s from by rw [Nat.add_mul, Nat.one_mul], ← Nat.add_mul]; congr 1; omega
        simp [size_zeroCells, hzs, hol, hul]; omega
      · intro a' ha c' hc
        have e2 : a' * s + c' < (olds ++ us).length := by
          have : (a' + 1) * s ≤ (n + 1) * s := Nat.mul_le_mul_right _ (by omega)
          rw [Nat.add_mul, Nat.add_mul, Nat.one_mul] at this
          simp; omega
        rw [Array.getElem?_append_left (by simpa using e2), List.getElem?_toArray]
        by_cases hl : a' = n
        · subst hl
          rw [List.getElem?_append_right (by omega), addV_new, show a' * s + c' - olds.length = c' from by omega]
          exact hng c' hc
        · have e3 : (a' + 1) * s ≤ n * s := Nat.mul_le_mul_right _ (by omega)
          rw [Nat.add_mul, Nat.one_mul] at e3
          rw [List.getElem?_append_left (by omega), addV_old _ _ _ hl]
          exact hog a' (by omega) c' hc
    · refine ⟨⟨rfl, rfl, rfl, ?_, fun k hk _ => ?_⟩, fun k hk => .inr (by simp [Value.ownBlock] at hk; omega)⟩
      · show w.heap.size ≤ (w.drew.alloc _).heap.size
        rw [show (w.drew.alloc (.cells ((olds ++ us).toArray ++ Builtin.zeroCells z.cells (grownCap w (n + 1) cap e - (n + 1))) e)).heap.size = w.drew.heap.size + 1 from by simp]
        exact Nat.le_succ _
      · show (w.drew.alloc _).heap[k]? = _
        exact Below.heap_alloc w.drew _ _ hk
  rcases h with ⟨rfl, rfl⟩ | ⟨g, cap, cur, rfl, hb, hg, hle, hmax, hsz, hcells⟩
  · exact grow none 0 [] rfl (by simp) (fun i hi => by omega) (by rw [run_firstCells_none]) (by omega)
  · by_cases hroom : n + 1 ≤ cap
    · have hcap : (n + 1) * s ≤ cap * s := Nat.mul_le_mul_right _ hroom
      rw [Nat.add_mul, Nat.one_mul] at hcap
      have hr := fun ty => run_append_room_src (w := w) t t ty e i ht hi g 0 n cap (.slice (some ad) 1 c) 1 us hsrc hroom
        (fun j hj => by rw [h1, hg.cell (Array.getElem?_eq_getElem (show 0 + n * s + j < cur.size by omega))]; rfl)
        (fun j hj => hg.free _)
      rw [h1, Nat.zero_add] at hr
      obtain ⟨cur', hb', hs', hin, hout⟩ := hg.setCells us _ (n * s) _ (by omega)
      obtain ⟨q1, q2, q3, q4, q5⟩ := setCells_blocks g us w (n * s)
      refine ⟨_, _, hr, ?_, ?_⟩
      · refine .inr ⟨g, cap, cur', rfl, hb, hb', hroom, hmax, by omega, fun a' ha c' hc => ?_⟩
        by_cases hl : a' = n
        · subst hl
          rw [hin c' (by omega), addV_new]
          exact hng c' hc
        · have e3 : (a' + 1) * s ≤ n * s := Nat.mul_le_mul_right _ (by omega)
          rw [Nat.add_mul, Nat.one_mul] at e3
          rw [hout _ (.inl (by omega)), addV_old _ _ _ hl]
          exact hcells a' (by omega) c' hc
      · exact ⟨⟨q1, q2, q3, by omega, fun k hk hn => q5 k (fun e => hn (by simp [Value.ownBlock, e]))⟩, fun k hk => .inl hk⟩
    · have hns : n * s ≤ cur.size := Nat.le_trans (Nat.mul_le_mul_right _ hle) hsz
      have htk : ∀ k, k < n * s → (cur.toList.take (n * s))[k]? = cur[k]? := fun k hk => by rw [List.getElem?_take_of_lt hk, Array.getElem?_toList]
      refine grow _ cap (cur.toList.take (n * s)) rfl (by simp; omega) (fun i hi j hj => ?_) ?_ (by omega)
      · have e3 : (i + 1) * s ≤ n * s := Nat.mul_le_mul_right _ (by omega)
        rw [Nat.add_mul, Nat.one_mul] at e3
        rw [htk _ (by omega)]
        exact hcells i hi j hj
      · rw [h1]
        refine run_firstCells_some (w := w.drew) s n ⟨g, 0, none⟩ n cap _ (by simp; omega) (fun j u hu => ?_)
        have hj : j < n * s := by
          by_cases h : j < n * s
          · exact h
          · rw [List.getElem?_eq_none (by simp; omega)] at hu; cases hu
        rw [htk j hj] at hu
        have hc : w.cell? ⟨g, j, none⟩ = some u := hg.cell hu
        show w.cell? _ = _
        by_cases h0 : j = 0
        · subst h0; simpa [Addr.add] using hc
        · simpa [Addr.add, h0] using hc
end Go.Proofs.YtjfnoondkgjabaaGreatDoor

set_option linter.unusedVariables false
namespace Go.Proofs.YtjfnoondkgjabaaGreatDoor
open Go.RowKit

theorem Av.congr {w : World} {base : Nat} {e : TypeId} {s n : Nat} {v : Value} {ps qs : Nat → Nat → Value} (h : Av w base e s v n ps) (hq : ∀ i, i < n → ∀ j, j < s → ps i j = qs i j) : Av w base e s v n qs := by
  rcases h with h | ⟨g, cap, cur, rfl, h1, h2, h3, h4, h5, h6⟩
  · exact .inl h
  · exact .inr ⟨g, cap, cur, rfl, h1, h2, h3, h4, h5, fun i hi j hj => by rw [h6 i hi j hj, hq i hi j hj]⟩
/-- The numbers of n elements in a row. -/
def flatV (s n : Nat) (f : Nat → Nat → Value) : List Value := (List.range (n * s)).map fun k => f (k / s) (k % s)
theorem flatV_len (s n : Nat) (f : Nat → Nat → Value) : (flatV s n f).length = n * s := by simp [flatV]
theorem flatV_at (s n : Nat) (f : Nat → Nat → Value) {i j : Nat} (hi : i < n) (hj : j < s) : (flatV s n f)[i * s + j]? = some (f i j) := by
  have h1 : i * s + j < n * s := by
    have : (i + 1) * s ≤ n * s := Nat.mul_le_mul_right _ (by omega)
    rw [Nat.add_mul, Nat.one_mul] at this; omega
  have h2 : (i * s + j) / s = i := by rw [Nat.add_comm, Nat.add_mul_div_right _ _ (by omega), Nat.div_eq_of_lt hj, Nat.zero_add]
  have h3 : (i * s + j) % s = j := by rw [Nat.add_comm, Nat.add_mul_mod_self_right, Nat.mod_eq_of_lt hj]
  simp [flatV, h1, h2, h3]
theorem flatV_one (s n : Nat) (hs : 0 < s) (f : Nat → Nat → Value) (h1 : ∀ i, i < n → ∀ j, j < s → (f i j).oneCell' = true) : ∀ u ∈ flatV s n f, u.oneCell' = true := fun u hu => by
  unfold flatV at hu; rw [List.mem_map] at hu; obtain ⟨k, hk, rfl⟩ := hu; rw [List.mem_range] at hk; exact h1 _ (Nat.div_lt_of_lt_mul (by rw [Nat.mul_comm]; exact hk)) _ (Nat.mod_lt _ hs)
theorem flatV_get (s n : Nat) (hs : 0 < s) (f : Nat → Nat → Value) {k : Nat} {u : Value} (h : (flatV s n f)[k]? = some u) : k / s < n ∧ k % s < s ∧ u = f (k / s) (k % s) := by
  have hk : k < n * s := by
    by_cases h0 : k < (flatV s n f).length
    · rwa [flatV_len] at h0
    · rw [List.getElem?_eq_none (by omega)] at h; cases h
  refine ⟨Nat.div_lt_of_lt_mul (by rw [Nat.mul_comm]; exact hk), Nat.mod_lt _ hs, ?_⟩
  simp [flatV, hk] at h
  exact h.symm
theorem Av.src {P : Program} {t e : TypeId} (ht : P.underlying t = some (.slice e)) {w : World} {base s n : Nat} {v : Value} {ps : Nat → Nat → Value} (hs : 0 < s) (h : Av w base e s v n ps) (h1c : ∀ i, i < n → ∀ j, j < s → (ps i j).oneCell' = true) : Src P s t v n (flatV s n ps) w := by
  rcases h with ⟨rfl, rfl⟩ | ⟨g, cap, cur, rfl, hb, hg, h1, h2, h3, h4⟩
  · have : flatV s 0 ps = [] := by simp [flatV]
    rw [this]
    exact Src.ofNil w ht 0
  · refine Src.ofSlice w ht ⟨g, 0, none⟩ n cap _ (flatV_len _ _ _) (fun j u hu => ?_) (flatV_one _ _ hs _ h1c)
    obtain ⟨q1, q2, rfl⟩ := flatV_get s n hs ps hu
    have := hg.cell (h4 _ q1 _ q2)
    rw [show j / s * s + j % s = j from Nat.div_add_mod' j s] at this
    by_cases h0 : j = 0
    · subst h0; simpa [Addr.add] using this
    · simpa [Addr.add, h0] using this

def catV (ps : Nat → Nat → Value) (n : Nat) (f : Nat → Nat → Value) : Nat → Nat → Value := fun a j => if a < n then ps a j else f (a - n) j
theorem catV_old (ps : Nat → Nat → Value) {n a : Nat} (f : Nat → Nat → Value) (j : Nat) (h : a < n) : catV ps n f a j = ps a j := if_pos h
theorem catV_new (ps : Nat → Nat → Value) {n a : Nat} (f : Nat → Nat → Value) (j : Nat) (h : ¬ a < n) : catV ps n f a j = f (a - n) j := if_neg h
/-- MANY ELEMENTS MORE. -/
theorem Av.appendN {P : Program} {t e : TypeId} {i : TypeInfo} {z : Value} {s bytes : Nat} (ht : P.underlying t = some (.slice e)) (hi : P.info? e = some i) (hz : i.zero = some z) (h1 : i.size = s) (h8 : i.bytes = bytes) (hzs : z.cells.size = s) (hs0 : 0 < s)
    {w : World} {base n m : Nat} {v x : Value} {ps f : Nat → Nat → Value} (h : Av w base e s v n ps) (hbase : base ≤ w.heap.size) (hsrc0 : Src P s t x m (flatV s m f) w) (hlen : (n + m) * bytes ≤ 140737488355328) (hlen2 : n + m ≤ 140737488355328) :
    ∃ v' w', (∀ ty, (Builtin.append_ #[t, t] ty #[v, x]).run P w = .ok v' w') ∧ Av w' base e s v' (n + m) (catV ps n f) ∧ w.grownBy w' v.ownBlock ∧ ∀ k, v'.ownBlock = some k → v.ownBlock = some k ∨ w.heap.size ≤ k := by
  obtain ⟨us, hus⟩ : ∃ us, us = flatV s m f := ⟨_, rfl⟩
  rw [← hus] at hsrc0
  have hul : us.length = m * s := by rw [hus, flatV_len]
  have hng : ∀ a, a < m → ∀ j, j < s → us[a * s + j]? = some (f a j) := fun a ha j hj => by rw [hus]; exact flatV_at s m f ha hj
  have hsrc : Src P i.size t x m us w := by rw [h1]; exact hsrc0
  have grow : ∀ (a : Option Addr) (cap : Nat) (olds : List Value), v = .slice a n cap → olds.length = n * s → (∀ i, i < n → ∀ j, j < s → olds[i * s + j]? = some (ps i j)) → (Builtin.firstCells i.size n (.slice a n cap)).run P w.drew = .ok olds.toArray w.drew → cap < n + m →
      ∃ v' w', (∀ ty, (Builtin.append_ #[t, t] ty #[v, x]).run P w = .ok v' w') ∧ Av w' base e s v' (n + m) (catV ps n f) ∧ w.grownBy w' v.ownBlock ∧ ∀ k, v'.ownBlock = some k → v.ownBlock = some k ∨ w.heap.size ≤ k := by
    rintro a cap olds rfl hol hog hold hg
    have hfit : Builtin.nextslicecap (n + m) cap * i.bytes ≤ 281474976710656 := growslice_fits (by omega) (by rw [h8]; exact hlen)
    have hr := fun ty => run_append_grow_src (w := w) t t ty e i z ht hi hz a n cap olds hold x m us hsrc hg (by omega) hfit
    have hge := grownCap_ge w (n + m) cap e
    have hmx := grownCap_le_maxLen w (n + m) cap e (by unfold maxLen; omega)
    refine ⟨_, _, hr, ?_, ?_⟩
    · refine .inr ⟨w.heap.size, grownCap w (n + m) cap e, _, rfl, hbase, Blk.new rfl, hge, hmx, ?_, ?_⟩
      · have e1 : (grownCap w (n + m) cap e - (n + m)) * s + (n * s + m * s) = grownCap w (n + m) cap e * s := by
          rw [← Nat.add_mul, ← Nat.add_mul]; congr 1; omega
        simp [size_zeroCells, hzs, hol, hul]; omega
      · intro a' ha c' hc
        have e2 : a' * s + c' < (olds ++ us).length := by
          have : (a' + 1) * s ≤ (n + m) * s := Nat.mul_le_mul_right _ (by omega)
          rw [Nat.add_mul, Nat.add_mul, Nat.one_mul] at this
          simp; omega
        rw [Array.getElem?_append_left (by simpa using e2), List.getElem?_toArray]
        by_cases hl : a' < n
        · have e3 : (a' + 1) * s ≤ n * s := Nat.mul_le_mul_right _ (by omega)
          rw [Nat.add_mul, Nat.one_mul] at e3
          rw [List.getElem?_append_left (by omega), catV_old _ _ _ hl]
          exact hog a' hl c' hc
        · have e3 : n * s ≤ a' * s := Nat.mul_le_mul_right _ (by omega)
          have e4 : a' * s + c' - olds.length = (a' - n) * s + c' := by rw [hol, Nat.sub_mul]; omega
          rw [List.getElem?_append_right (by omega), catV_new _ _ _ hl, e4]
          exact hng (a' - n) (by omega) c' hc
    · refine ⟨⟨rfl, rfl, rfl, ?_, fun k hk _ => ?_⟩, fun k hk => .inr (by simp [Value.ownBlock] at hk; omega)⟩
      · show w.heap.size ≤ (w.drew.alloc _).heap.size
        rw [show (w.drew.alloc (.cells ((olds ++ us).toArray ++ Builtin.zeroCells z.cells (grownCap w (n + m) cap e - (n + m))) e)).heap.size = w.drew.heap.size + 1 from by simp]
        exact Nat.le_succ _
      · show (w.drew.alloc _).heap[k]? = _
        exact Below.heap_alloc w.drew _ _ hk
  rcases h with ⟨rfl, rfl⟩ | ⟨g, cap, cur, rfl, hb, hg, hle, hmax, hsz, hcells⟩
  · by_cases hm0 : m = 0
    · subst hm0
      have hu0 : us = [] := by apply List.eq_nil_of_length_eq_zero; omega
      subst hu0
      refine ⟨_, w, fun ty => append_none ht hi hsrc ty, .inl ⟨rfl, rfl⟩, ⟨rfl, rfl, rfl, Nat.le_refl _, fun _ _ _ => rfl⟩, fun k hk => .inl hk⟩
    · exact grow none 0 [] rfl (by simp) (fun i hi => by omega) (by rw [run_firstCells_none]) (by omega)
  · by_cases hroom : n + m ≤ cap
    · have hcap : (n + m) * s ≤ cap * s := Nat.mul_le_mul_right _ hroom
      rw [Nat.add_mul] at hcap
      have hr := fun ty => run_append_room_src (w := w) t t ty e i ht hi g 0 n cap x m us hsrc hroom
        (fun j hj => by rw [h1, hg.cell (Array.getElem?_eq_getElem (show 0 + n * s + j < cur.size by omega))]; rfl)
        (fun j hj => hg.free _)
      rw [h1, Nat.zero_add] at hr
      obtain ⟨cur', hb', hs', hin, hout⟩ := hg.setCells us _ (n * s) _ (by omega)
      obtain ⟨q1, q2, q3, q4, q5⟩ := setCells_blocks g us w (n * s)
      refine ⟨_, _, hr, ?_, ?_⟩
      · refine .inr ⟨g, cap, cur', rfl, hb, hb', hroom, hmax, by omega, fun a' ha c' hc => ?_⟩
        by_cases hl : a' < n
        · have e3 : (a' + 1) * s ≤ n * s := Nat.mul_le_mul_right _ (by omega)
          rw [Nat.add_mul, Nat.one_mul] at e3
          rw [hout _ (.inl (by omega)), catV_old _ _ _ hl]
          exact hcells a' hl c' hc
        · have e3 : n * s ≤ a' * s := Nat.mul_le_mul_right _ (by omega)
          have e5 : (a' - n + 1) * s ≤ m * s := Nat.mul_le_mul_right _ (by omega)
          rw [Nat.add_mul, Nat.one_mul, Nat.sub_mul] at e5
          have e4 : a' * s + c' = n * s + ((a' - n) * s + c') := by rw [Nat.sub_mul]; omega
          rw [e4, hin ((a' - n) * s + c') (by rw [Nat.sub_mul]; omega), catV_new _ _ _ hl]
          exact hng (a' - n) (by omega) c' hc
      · exact ⟨⟨q1, q2, q3, by omega, fun k hk hn => q5 k (fun e => hn (by simp [Value.ownBlock, e]))⟩, fun k hk => .inl hk⟩
    · have hns : n * s ≤ cur.size := Nat.le_trans (Nat.mul_le_mul_right _ hle) hsz
      have htk : ∀ k, k < n * s → (cur.toList.take (n * s))[k]? = cur[k]? := fun k hk => by rw [List.getElem?_take_of_lt hk, Array.getElem?_toList]
      refine grow _ cap (cur.toList.take (n * s)) rfl (by simp; omega) (fun i hi j hj => ?_) ?_ (by omega)
      · have e3 : (i + 1) * s ≤ n * s := Nat.mul_le_mul_right _ (by omega)
        rw [Nat.add_mul, Nat.one_mul] at e3
        rw [htk _ (by omega)]
        exact hcells i hi j hj
      · rw [h1]
        refine run_firstCells_some (w := w.drew) s n ⟨g, 0, none⟩ n cap _ (by simp; omega) (fun j u hu => ?_)
        have hj : j < n * s := by
          by_cases h : j < n * s
          · exact h
          · rw [List.getElem?_eq_none (by simp; omega)] at hu; cases hu
        rw [htk j hj] at hu
        have hc : w.cell? ⟨g, j, none⟩ = some u := hg.cell hu
        show w.cell? _ = _
        by_cases h0 : j = 0
        · subst h0; simpa [Addr.add] using hc
        · simpa [Addr.add, h0] using hc
end Go.Proofs.YtjfnoondkgjabaaGreatDoor

set_option linter.unusedVariables false
set_option maxRecDepth 100000
namespace Go.Proofs.YtjfnoondkgjabaaGreatDoor
open Go.RowKit Go.BigFrame

set_option maxHeartbeats 1000000 in
theorem rcopy_any (v : Value) (xs : List Int) (w : World) (h : Sl w v xs) (hl : xs.length ≤ 1000000) :
    Calls Tryz.prog 24 #[v] w (Own xs w) := by
  have HS := Lib.hid h
  have HQ := Lib.hid (Qu.made (w := w) (base := w.heap.size) (e := 3) (b := w.heap.size) (n := 0) (c := #[]) rfl (Nat.le_refl _) rfl (Nat.zero_le _))
  obtain ⟨v', w', hr, hq', hg, hn⟩ := Qu.appendI (xs := []) HQ.out (by simp) (HS.out.alloc (.cells #[] 3)) (by simp; omega)
  have HQ' := Lib.hid hq'
  have HG : Hid (Touch [] w w') := Lib.hid (((Touch.refl _ w).alloc _).grown hg (fun k hk hlt => by simp [Value.ownBlock] at hk; omega))
  obtain ⟨va, vc, rfl⟩ := Qu.form hq'
  clear hq' hg hn HQ h
  go_enter Tryz.func24, Tryz.ntmps24
  go_wp2_with (at_builtin; refine Lib.wpList_append_run _ rfl _ _ _ _ rfl _ _ rfl rfl _ _ (hr _) ?_)
  go_ret
  exact ⟨_, rfl, HQ'.out, HG.out⟩
/-- A list of numbers of the call's own. -/
abbrev QI (w : World) (base : Nat) (v : Value) (xs : List Int) : Prop := Qu w base 3 v (xs.map (Value.int .i64))
/-- The frames' cells: frame i from the outside on has its cells at i. -/
def Rf (w : World) (base : Nat) (ps : Nat → Nat → Value) : List Frm → Prop
  | [] => True
  | F :: r => Rf w base ps r ∧ ps r.length 0 = .int .i64 F.back ∧ QI w base (ps r.length 1) F.loc ∧ QI w base (ps r.length 2) F.ops
structure Rz (w : World) (B : List Nat) (base t size : Nat) (v : Value) (ps : Nat → Nat → Value) (S : List Frm) : Prop where
  obj : Blk w t #[.int .i64 size, v] 115
  bt : base ≤ t
  nt : t ∉ B
  fs : Av w base 112 3 v S.length ps
  fr : Rf w base ps S
  vo : ∀ b, v.ownBlock = some b → b ≠ t ∧ b ∉ B
  ll : ∀ i b, i < S.length → (ps i 1).ownBlock = some b → b ≠ t ∧ b ∉ B ∧ v.ownBlock ≠ some b ∧ ∀ j, j < S.length → (ps j 2).ownBlock ≠ some b ∧ (j ≠ i → (ps j 1).ownBlock ≠ some b)
  oo : ∀ i b, i < S.length → (ps i 2).ownBlock = some b → b ≠ t ∧ b ∉ B ∧ v.ownBlock ≠ some b
theorem Rf.touch {w w' : World} {base : Nat} {ps : Nat → Nat → Value} {L : List Nat} (ht : Touch L w w') : ∀ {S : List Frm}, Rf w base ps S → (∀ i b, i < S.length → ((ps i 1).ownBlock = some b ∨ (ps i 2).ownBlock = some b) → b ∉ L) → Rf w' base ps S
  | [], _, _ => trivial
  | F :: r, h, hn => ⟨h.1.touch ht (fun i b hi => hn i b (by simp; omega)), h.2.1, h.2.2.1.touch ht (fun b hb => hn r.length b (by simp) (.inl hb)), h.2.2.2.touch ht (fun b hb => hn r.length b (by simp) (.inr hb))⟩
theorem Rz.still {w w' : World} {B : List Nat} {base t size : Nat} {v : Value} {ps : Nat → Nat → Value} {S : List Frm} (h : Rz w B base t size v ps S) (ht : Touch [] w w') : Rz w' B base t size v ps S :=
  ⟨h.obj.touch ht (by simp), h.bt, h.nt, h.fs.touch ht (fun _ _ => by simp), h.fr.touch ht (fun _ _ _ _ => by simp), h.vo, h.ll, h.oo⟩
/-- The innermost frame's place and cells. -/
theorem Rz.top {w : World} {B : List Nat} {base t size : Nat} {v : Value} {ps : Nat → Nat → Value} {F : Frm} {r : List Frm} (h : Rz w B base t size v ps (F :: r)) :
    ∃ g cap, v = .slice (some ⟨g, 0, none⟩) (r.length + 1) cap ∧ g ≠ t ∧ r.length + 1 ≤ cap ∧ cap ≤ maxLen ∧ (∀ j, j < 3 → w.cell? ⟨g, r.length * 3 + j, none⟩ = some (ps r.length j)) ∧ (∀ k, w.frozen? ⟨g, k, none⟩ = false) := by
  obtain ⟨g, cap, hv, hb, hlt, h1, h2, h3, h4, _⟩ := h.fs.at (i := r.length) (by simp)
  exact ⟨g, cap, hv, (h.vo g (by rw [hv]; rfl)).1, h1, h2, h3, h4⟩
section
variable (B : List Nat) (base t size : Nat) (F : Frm) (r : List Frm) (ps : Nat → Nat → Value) (w : World)
set_option maxHeartbeats 4000000 in
theorem rtop_q (g cap : Nat) (hn : r.length ≤ 1000000) (h : Rz w B base t size (.slice (some ⟨g, 0, none⟩) (r.length + 1) cap) ps (F :: r)) :
    Calls Tryz.prog 56 #[.pointer (some ⟨t, 0, none⟩)] w fun e w' => e = .returned (.pointer (some ⟨g, r.length * 3, none⟩)) ∧ Touch [] w w' := by
  have x1 := fun q : Later w => (h.still q.ok).obj.cell (i := 1) rfl
  obtain ⟨n, hn'⟩ : ∃ n, r.length = n := ⟨_, rfl⟩
  rw [hn'] at hn x1 ⊢
  have v1 : IntKind.i64.wrap ((n + 1 : Nat) - 1 : Int) = (n : Int) := by rw [show ((n + 1 : Nat) - 1 : Int) = (n : Int) from by omega]; exact IntWalk.i64_in _ (by omega)
  clear h hn'
  go_enter Tryz.func56, Tryz.ntmps56
  go_wp2_with fail
  refine wp_region_later (by kernel_rfl) (by kernel_rfl) ?_
  repeat (first
    | (go_big_quiet_step ((with_reducible rfl)))
    | (quiet_step (fail)))
  refine wpQuiet_nil ?_
  intro wq hw'
  obtain ⟨⟨wq', hwq⟩, hwe⟩ := hw'
  have hwe : wq = wq' := hwe
  subst hwe
  have HT := Lib.hid hwq
  clear hwe hwq x1
  go_wp2
  go_ret
  exact ⟨rfl, HT.out⟩
end
end Go.Proofs.YtjfnoondkgjabaaGreatDoor

set_option linter.unusedVariables false
set_option maxRecDepth 100000
namespace Go.Proofs.YtjfnoondkgjabaaGreatDoor
open Go.RowKit Go.BigFrame

section
variable (B : List Nat) (base t size : Nat) (F : Frm) (r : List Frm) (v : Value) (ps : Nat → Nat → Value) (w : World)
set_option maxHeartbeats 4000000 in
theorem roperands_q (hn : r.length ≤ 1000000) (h : Rz w B base t size v ps (F :: r)) :
    Calls Tryz.prog 54 #[.pointer (some ⟨t, 0, none⟩)] w fun e w' => e = .returned (.int .i64 (F.ops.length : Nat)) ∧ Touch [] w w' := by
  obtain ⟨g, cap, rfl, hg, hc1, hc2, hc, hz⟩ := h.top
  have HC := Lib.hid (rtop_q B base t size F r ps w g cap hn h)
  have HK := Lib.hid h
  obtain ⟨a, c, ho⟩ := Qu.form h.fr.2.2.2
  have HO := Lib.hid (fun w' (ht : Touch [] w w') => by
    obtain ⟨g', cap', he, _, _, _, hc', _⟩ := (h.still ht).top
    cases he
    have := hc' 2 (by omega)
    rw [ho] at this
    exact this)
  obtain ⟨n, hn'⟩ : ∃ n, r.length = n := ⟨_, rfl⟩
  obtain ⟨m, hm'⟩ : ∃ m, F.ops.length = m := ⟨_, rfl⟩
  rw [hn'] at HC HO
  rw [hm'] at HO ⊢
  clear h hc hz ho hn' hm'
  go_enter Tryz.func54, Tryz.ntmps54
  go_wp2_with fail
  refine HC.out.mono ?_
  rintro e w1 ⟨rfl, ht⟩
  have HT := Lib.hid ht
  have y2 := HO.out w1 ht
  clear ht
  go_wp2
  go_ret
  exact ⟨rfl, HT.out⟩
set_option maxHeartbeats 4000000 in
theorem rframes_q (hn : r.length ≤ 1000000) (h : Rz w B base t size v ps (F :: r)) :
    Calls Tryz.prog 57 #[.pointer (some ⟨t, 0, none⟩)] w fun e w' => e = .returned (.int .i64 (r.length : Nat)) ∧ Touch [] w w' := by
  obtain ⟨g, cap, rfl, hg, hc1, hc2, hc, hz⟩ := h.top
  have x1 := h.obj.cell (i := 1) rfl
  obtain ⟨n, hn'⟩ : ∃ n, r.length = n := ⟨_, rfl⟩
  rw [hn'] at hn x1 ⊢
  have v1 : IntKind.i64.wrap ((n + 1 : Nat) - 1 : Int) = (n : Int) := by rw [show ((n + 1 : Nat) - 1 : Int) = (n : Int) from by omega]; exact IntWalk.i64_in _ (by omega)
  clear h hc hz hn'
  go_enter Tryz.func57, Tryz.ntmps57
  go_wp2
  go_ret
  exact ⟨ret_int (by omega), Touch.refl _ _⟩
theorem Qu.get {w : World} {base : Nat} {v : Value} {xs : List Int} (h : QI w base v xs) (j : Nat) (hj : j < xs.length) : ∃ g off c, v = .slice (some ⟨g, off, none⟩) xs.length c ∧ w.cell? ⟨g, off + j, none⟩ = some (.int .i64 (xs.getD j 0)) := by
  obtain ⟨a, c, rfl, hr⟩ := h.sl
  rcases hr with hr | ⟨g, off, rfl, hg, hr⟩
  · subst hr; simp at hj
  · exact ⟨g, off, c, rfl, hr j hj⟩
set_option maxHeartbeats 4000000 in
theorem rtopv_q (i : Int) (hn : r.length ≤ 1000000) (hm : F.ops.length ≤ 1000000) (h : Rz w B base t size v ps (F :: r)) :
    Calls Tryz.prog 64 #[.pointer (some ⟨t, 0, none⟩), .int .i64 i] w fun e w' => e = .returned (.tuple #[.int .i64 (topM i (F :: r)).1, .bool (topM i (F :: r)).2]) ∧ Touch [] w w' := by
  have HP := Lib.hid (roperands_q B base t size F r v ps w hn h)
  have HK := Lib.hid h
  simp only [topM]
  by_cases c : i < 0 ∨ (F.ops.length : Int) ≤ i
  · rw [if_pos c]
    obtain ⟨m, hm'⟩ : ∃ m, F.ops.length = m := ⟨_, rfl⟩
    rw [hm'] at HP c
    clear h hm hm' hn
    by_cases c0 : i < 0
    · have q : decide (i < 0) = true := dT c0
      clear c
      go_enter Tryz.func64, Tryz.ntmps64
      go_wp2_with fail
      refine HP.out.mono ?_
      rintro e w1 ⟨rfl, ht⟩
      have HT := Lib.hid ht
      clear ht
      go_wp2
      go_ret2
      exact ⟨rfl, HT.out⟩
    · have q : decide (i < 0) = false := dF c0
      have q2 : decide ((m : Int) ≤ i) = true := dT (by omega)
      have q3 : (m : Int) ≤ i := by omega
      clear c
      go_enter Tryz.func64, Tryz.ntmps64
      go_wp2_with fail
      refine HP.out.mono ?_
      rintro e w1 ⟨rfl, ht⟩
      have HT := Lib.hid ht
      clear ht
      go_wp2
      go_ret2
      exact ⟨rfl, HT.out⟩
  · rw [if_neg c]
    obtain ⟨p, rfl⟩ : ∃ p : Nat, i = p := ⟨i.toNat, by omega⟩
    rw [Int.toNat_natCast]
    obtain ⟨g, cap, rfl, hg, hc1, hc2, hc, hz⟩ := h.top
    have HC := Lib.hid (fun w' (ht : Touch [] w w') => rtop_q B base t size F r ps w' g cap hn (h.still ht))
    obtain ⟨a, ca, ho⟩ := Qu.form h.fr.2.2.2
    have HO := Lib.hid (fun w' (ht : Touch [] w w') => by
      obtain ⟨g', cap', he, _, _, _, hc', _⟩ := (h.still ht).top
      cases he
      have := hc' 2 (by omega)
      rw [ho] at this
      exact this)
    have hp : F.ops.length - 1 - p < F.ops.length := by omega
    have HV := Lib.hid (fun w' (ht : Touch [] w w') => Qu.get (h.still ht).fr.2.2.2 (F.ops.length - 1 - p) hp)
    rw [ho] at HV
    obtain ⟨g2, off, c2, he, _⟩ := HV.out w (Touch.refl _ _)
    cases he
    have v1 : IntKind.i64.wrap ((F.ops.length : Int) - 1) = (F.ops.length : Int) - 1 := IntWalk.i64_in _ (by omega)
    have v2 : IntKind.i64.wrap ((F.ops.length : Int) - 1 - (p : Int)) = ((F.ops.length - 1 - p : Nat) : Int) := by rw [show (F.ops.length : Int) - 1 - (p : Int) = ((F.ops.length - 1 - p : Nat) : Int) from by omega]; exact IntWalk.i64_in _ (by omega)
    have q : decide ((p : Int) < 0) = false := dF (by omega)
    have q2 : decide ((F.ops.length : Int) ≤ (p : Int)) = false := dF (by omega)
    obtain ⟨x, hx⟩ : ∃ x, F.ops.length - 1 - p = x := ⟨_, rfl⟩
    obtain ⟨z, hz'⟩ : ∃ z, F.ops.getD x 0 = z := ⟨_, rfl⟩
    rw [hx] at HV v2 hp ⊢
    rw [hz'] at HV ⊢
    obtain ⟨n, hn'⟩ : ∃ n, r.length = n := ⟨_, rfl⟩
    obtain ⟨m, hm'⟩ : ∃ m, F.ops.length = m := ⟨_, rfl⟩
    rw [hn'] at HC HO
    rw [hm'] at HO HP HV v1 v2 q2 hp hm
    have k2 : ¬ m ≤ p := by omega
    have k3 : decide (m ≤ p) = false := dF k2
    clear h hc hz ho hn' hm' hx hz' c
    go_enter Tryz.func64, Tryz.ntmps64
    go_wp2_with fail
    refine HP.out.mono ?_
    rintro e w1 ⟨rfl, ht⟩
    have HT := Lib.hid ht
    clear ht
    go_wp2_with fail
    refine (HC.out _ HT.out).mono ?_
    rintro e w2 ⟨rfl, ht⟩
    have HT := Lib.hid (HT.out.trans ht)
    have y2 := HO.out _ HT.out
    obtain ⟨_, _, _, he, hv⟩ := HV.out _ HT.out
    cases he
    clear ht
    go_wp2
    go_ret2
    exact ⟨rfl, HT.out⟩
end
end Go.Proofs.YtjfnoondkgjabaaGreatDoor

set_option linter.unusedVariables false
set_option maxRecDepth 100000
namespace Go.Proofs.YtjfnoondkgjabaaGreatDoor
open Go.RowKit Go.BigFrame

theorem Rf.drop {w : World} {base : Nat} {ps : Nat → Nat → Value} : ∀ {S : List Frm}, Rf w base ps S → ∀ k, Rf w base ps (S.drop k)
  | S, h, 0 => by simpa using h
  | [], _, k + 1 => trivial
  | F :: r, h, k + 1 => by simpa using Rf.drop h.1 k
theorem drop_next (S : List Frm) (j : Nat) (hj : j < S.length) : ∃ G, S.drop (S.length - (j + 1)) = G :: S.drop (S.length - j) := by
  have h : S.length - (j + 1) < S.length := by omega
  refine ⟨S[S.length - (j + 1)], ?_⟩
  rw [List.drop_eq_getElem_cons h, show S.length - (j + 1) + 1 = S.length - j from by omega]
theorem topS_next (G : Frm) (r : List Frm) : topS (G :: r) = if r.length = 0 then G.ops.length else topS r + G.loc.length + 2 + G.ops.length := by
  cases r with
  | nil => rfl
  | cons H r => rw [if_neg (by simp)]; rfl
theorem topS_drop : ∀ (S : List Frm) (k : Nat), topS (S.drop k) ≤ topS S
  | S, 0 => by simp
  | [], k + 1 => by simp
  | [F], k + 1 => by simp [topS]
  | F :: G :: r, k + 1 => by
    have := topS_drop (G :: r) k
    simp only [List.drop_succ_cons]
    have h : topS (F :: G :: r) = topS (G :: r) + F.loc.length + 2 + F.ops.length := rfl
    omega
section
variable (B : List Nat) (base t size : Nat) (S : List Frm) (v : Value) (ps : Nat → Nat → Value) (w : World)
set_option maxHeartbeats 4000000 in
theorem rlen_q (hn : S.length ≤ 1000000) (hm : topS S ≤ 1000000) (hne : S ≠ []) (h : Rz w B base t size v ps S) :
    Calls Tryz.prog 55 #[.pointer (some ⟨t, 0, none⟩)] w fun e w' => e = .returned (.int .i64 (topS S : Nat)) ∧ w = w' := by
  obtain ⟨F, r, hS⟩ : ∃ F r, S = F :: r := by
    cases S with
    | nil => exact absurd rfl hne
    | cons F r => exact ⟨F, r, rfl⟩
  obtain ⟨g, cap, hv, hg, hc1, hc2, _, _⟩ := (hS ▸ h : Rz w B base t size v ps (F :: r)).top
  have hlen : S.length = r.length + 1 := by rw [hS]; simp
  rw [← hlen] at hv hc1
  subst hv
  have HK := Lib.hid h
  have x1 := h.obj.cell (i := 1) rfl
  obtain ⟨n, hn'⟩ : ∃ n, S.length = n := ⟨_, rfl⟩
  have HN := Lib.hid hn'
  rw [hn'] at hn x1 hc1
  have HM := Lib.hid hm
  clear h hm hne hS hlen hn'
  go_enter Tryz.func55, Tryz.ntmps55
  go_wp2_with fail
  go_loopw [3, 4] (fun a i wr => ∃ j : Nat, j ≤ n ∧ i = .int .i64 j ∧ a = .int .i64 (topS (S.drop (n - j)) : Nat) ∧ w = wr) (fun _ i _ => n + 1 - (intOf i).toNat)
  case atStart => exact ⟨0, by omega, rfl, by rw [Nat.sub_zero, ← HN.out, List.drop_length]; rfl, rfl⟩
  case round =>
    obtain ⟨j, hj, rfl, rfl, rfl⟩ := hrel
    by_cases hjn : j < n
    · obtain ⟨G, hG⟩ := drop_next S j (by rw [HN.out]; exact hjn)
      rw [HN.out] at hG
      have hr := HK.out.fr.drop (n - (j + 1))
      rw [hG] at hr
      have hlj : (S.drop (n - j)).length = j := by rw [List.length_drop, HN.out]; omega
      obtain ⟨_, _, q1, q2⟩ := hr
      rw [hlj] at q1 q2
      have htn := topS_next G (S.drop (n - j))
      rw [hlj] at htn
      have hbd := topS_drop S (n - (j + 1))
      rw [hG] at hbd
      have hbm := HM.out
      obtain ⟨a1, c1, e1⟩ := Qu.form q1
      obtain ⟨a2, c2, e2⟩ := Qu.form q2
      obtain ⟨g', cap', he, _, _, _, _, hc, _⟩ := HK.out.fs.at (i := j) (by rw [HN.out]; exact hjn)
      have hgg : g' = g := by cases he; rfl
      subst hgg
      have y1 := hc 1 (by omega)
      have y2 := hc 2 (by omega)
      rw [e1] at y1
      rw [e2] at y2
      obtain ⟨T, hT⟩ : ∃ T, topS (S.drop (n - j)) = T := ⟨_, rfl⟩
      obtain ⟨l, hl⟩ : ∃ l, G.loc.length = l := ⟨_, rfl⟩
      obtain ⟨o, ho⟩ : ∃ o, G.ops.length = o := ⟨_, rfl⟩
      rw [hT, hl, ho] at htn
      rw [hl] at y1
      rw [ho] at y2
      rw [hT]
      have HX : Hid (topS (S.drop (n - (j + 1))) = if j = 0 then o else T + l + 2 + o) := Lib.hid (by rw [hG]; exact htn)
      rw [htn] at hbd
      have hTb := topS_drop S (n - j)
      rw [hT] at hTb
      have hT0 : j = 0 → T = 0 := fun h0 => by rw [← hT, h0, Nat.sub_zero, ← HN.out, List.drop_length]; rfl
      clear hc he q1 q2 e1 e2 hT hl ho htn hG hlj
      by_cases hj0 : j = 0
      · rw [if_pos hj0] at HX hbd
        have hTz : T = 0 := hT0 hj0
        clear hT0 hTb
        subst hTz
        subst hj0
        have v1 : IntKind.i64.wrap (o : Int) = (o : Int) := IntWalk.i64_in _ (by omega)
        go_wp2
        go_roundw
        case rel => exact ⟨1, by omega, by go_num, by first | (rw [HX.out]; done) | (rw [HX.out]; rfl), trivial⟩
        case measure => first | (simp [intOf]; done) | (simp [intOf]; omega)
      · rw [if_neg hj0] at HX hbd
        clear hT0
        have v1 : IntKind.i64.wrap ((T : Int) + (o : Int)) = (T : Int) + (o : Int) := IntWalk.i64_in _ (by omega)
        have v2 : IntKind.i64.wrap ((T : Int) + (o : Int) + 2) = (T : Int) + (o : Int) + 2 := IntWalk.i64_in _ (by omega)
        have v3 : IntKind.i64.wrap ((T : Int) + (o : Int) + 2 + (l : Int)) = (T : Int) + (o : Int) + 2 + (l : Int) := IntWalk.i64_in _ (by omega)
        have k1 : 0 < j := by omega
        go_wp2
        go_roundw
        case rel => exact ⟨j + 1, by omega, by go_num, by rw [HX.out]; exact congrArg (Value.int .i64) (by push_cast; omega), trivial⟩
        case measure => simp [intOf]; omega
    · have hj' : j = n := by omega
      subst hj'
      rw [Nat.sub_self, List.drop_zero]
      clear hjn hj
      go_wp2
      go_ret
      exact ⟨rfl, rfl⟩
end
end Go.Proofs.YtjfnoondkgjabaaGreatDoor

set_option linter.unusedVariables false
set_option maxRecDepth 100000
namespace Go.Proofs.YtjfnoondkgjabaaGreatDoor
open Go.RowKit Go.BigFrame

section
variable (B : List Nat) (base t size : Nat) (F : Frm) (r : List Frm) (v : Value) (ps : Nat → Nat → Value) (w : World)
set_option maxHeartbeats 4000000 in
theorem rloc_q (i : Int) (hn : r.length ≤ 1000000) (hm : F.loc.length ≤ 1000000) (h : Rz w B base t size v ps (F :: r)) :
    Calls Tryz.prog 66 #[.pointer (some ⟨t, 0, none⟩), .int .i64 i] w fun e w' => e = .returned (.tuple #[.int .i64 (locM i (F :: r)).1, .bool (locM i (F :: r)).2]) ∧ Touch [] w w' := by
  simp only [locM]
  obtain ⟨g, cap, rfl, hg, hc1, hc2, _, _⟩ := h.top
  have HC := Lib.hid (fun w' (ht : Touch [] w w') => rtop_q B base t size F r ps w' g cap hn (h.still ht))
  obtain ⟨a, ca, ho⟩ := Qu.form h.fr.2.2.1
  have HO := Lib.hid (fun w' (ht : Touch [] w w') => by
    obtain ⟨g', cap', he, _, _, _, hc', _⟩ := (h.still ht).top
    cases he
    have := hc' 1 (by omega)
    rw [ho] at this
    exact this)
  by_cases c : i < 0 ∨ (F.loc.length : Int) ≤ i
  · rw [if_pos c]
    obtain ⟨n, hn'⟩ : ∃ n, r.length = n := ⟨_, rfl⟩
    obtain ⟨m, hm'⟩ : ∃ m, F.loc.length = m := ⟨_, rfl⟩
    rw [hn'] at HC HO
    rw [hm'] at HO c
    clear h hm hm' hn hn' ho
    by_cases c0 : i < 0
    · have q : decide (i < 0) = true := dT c0
      clear c HC HO
      go_enter Tryz.func66, Tryz.ntmps66
      go_wp2
      go_ret2
      exact ⟨rfl, Touch.refl _ _⟩
    · have q : decide (i < 0) = false := dF c0
      have q2 : decide ((m : Int) ≤ i) = true := dT (by omega)
      have q3 : (m : Int) ≤ i := by omega
      clear c
      go_enter Tryz.func66, Tryz.ntmps66
      go_wp2_with fail
      refine (HC.out _ (Touch.refl _ _)).mono ?_
      rintro e w1 ⟨rfl, ht⟩
      have HT := Lib.hid ht
      have y1 := HO.out _ ht
      clear ht
      go_wp2
      go_ret2
      exact ⟨rfl, HT.out⟩
  · rw [if_neg c]
    obtain ⟨p, rfl⟩ : ∃ p : Nat, i = p := ⟨i.toNat, by omega⟩
    rw [Int.toNat_natCast]
    have hp : p < F.loc.length := by omega
    have HV := Lib.hid (fun w' (ht : Touch [] w w') => Qu.get (h.still ht).fr.2.2.1 p hp)
    rw [ho] at HV
    obtain ⟨g2, off, c2, he, _⟩ := HV.out w (Touch.refl _ _)
    cases he
    obtain ⟨z, hz'⟩ : ∃ z, F.loc.getD p 0 = z := ⟨_, rfl⟩
    rw [hz'] at HV ⊢
    obtain ⟨n, hn'⟩ : ∃ n, r.length = n := ⟨_, rfl⟩
    obtain ⟨m, hm'⟩ : ∃ m, F.loc.length = m := ⟨_, rfl⟩
    rw [hn'] at HC HO
    rw [hm'] at HO HV hp hm
    have q : decide ((p : Int) < 0) = false := dF (by omega)
    have k2 : ¬ m ≤ p := by omega
    have k3 : decide (m ≤ p) = false := dF k2
    have k4 : decide ((m : Int) ≤ (p : Int)) = false := dF (by omega)
    clear h ho hn' hm' hz' c
    go_enter Tryz.func66, Tryz.ntmps66
    go_wp2_with fail
    refine (HC.out _ (Touch.refl _ _)).mono ?_
    rintro e w1 ⟨rfl, ht⟩
    have HT := Lib.hid ht
    have y1 := HO.out _ ht
    clear ht
    go_wp2_with fail
    refine (HC.out _ HT.out).mono ?_
    rintro e w2 ⟨rfl, ht⟩
    have HT := Lib.hid (HT.out.trans ht)
    have y2 := HO.out _ HT.out
    obtain ⟨_, _, _, he, hv⟩ := HV.out _ HT.out
    cases he
    clear ht y1
    go_wp2
    go_ret2
    exact ⟨rfl, HT.out⟩
end
end Go.Proofs.YtjfnoondkgjabaaGreatDoor

set_option linter.unusedVariables false
set_option maxRecDepth 100000
namespace Go.Proofs.YtjfnoondkgjabaaGreatDoor
open Go.RowKit Go.BigFrame

/-- The reference's stack in memory, whose frames are S. -/
def Rs (w : World) (B : List Nat) (base t size : Nat) (S : List Frm) : Prop := ∃ v ps, Rz w B base t size v ps S
/-- What a call may touch: blocks of the stack's own. -/
def Mv (B : List Nat) (base : Nat) (w w' : World) : Prop := ∃ L, Touch L w w' ∧ ∀ b ∈ L, base ≤ b ∧ b ∉ B
def RsP (B : List Nat) (base t size : Nat) (S : List Frm) (r : Value) (w : World) (e : Ending) (w' : World) : Prop := e = .returned r ∧ Rs w' B base t size S ∧ Mv B base w w'
theorem Mv.of {B : List Nat} {base : Nat} {w w' : World} (h : Touch [] w w') : Mv B base w w' := ⟨[], h, by simp⟩
theorem Av.less {w : World} {base : Nat} {e : TypeId} {s n m g cap : Nat} {ps : Nat → Nat → Value} (h : Av w base e s (.slice (some ⟨g, 0, none⟩) n cap) n ps) (hm : m ≤ n) : Av w base e s (.slice (some ⟨g, 0, none⟩) m cap) m ps := by
  rcases h with ⟨h, _⟩ | ⟨g', cap', cur, he, hb, hg, h1, h2, h3, h4⟩
  · cases h
  · cases he
    exact .inr ⟨g, cap, cur, rfl, hb, hg, by omega, h2, h3, fun i hi => h4 i (by omega)⟩
/-- The stack's object turned to another list of frames. -/
theorem Rz.turn {w w' : World} {B : List Nat} {base t size : Nat} {v v' : Value} {ps : Nat → Nat → Value} {F : Frm} {r : List Frm} (h : Rz w B base t size v ps (F :: r)) (ht : Touch [t] w w') (ho : Blk w' t #[.int .i64 size, v'] 115) (hv : v'.ownBlock = v.ownBlock) (hf : Av w base 112 3 v' r.length ps) : Rz w' B base t size v' ps r := by
  refine ⟨ho, h.bt, h.nt, hf.touch ht (fun b hb => by rw [hv] at hb; have := (h.vo b hb).1; simp; exact this), h.fr.1.touch ht (fun i b hi hb => ?_), fun b hb => by rw [hv] at hb; exact h.vo b hb, fun i b hi hb => ?_, fun i b hi hb => ?_⟩
  · rcases hb with hb | hb
    · have := (h.ll i b (by simp; omega) hb).1; simp; exact this
    · have := (h.oo i b (by simp; omega) hb).1; simp; exact this
  · obtain ⟨q1, q2, q3, q4⟩ := h.ll i b (by simp; omega) hb
    exact ⟨q1, q2, by rw [hv]; exact q3, fun j hj => q4 j (by simp; omega)⟩
  · obtain ⟨q1, q2, q3⟩ := h.oo i b (by simp; omega) hb
    exact ⟨q1, q2, by rw [hv]; exact q3⟩
section
variable (B : List Nat) (base t size : Nat) (F : Frm) (r : List Frm) (v : Value) (ps : Nat → Nat → Value) (w : World)
set_option maxHeartbeats 4000000 in
theorem rret_m (hn : r.length ≤ 1000000) (h : Rs w B base t size (F :: r)) :
    Calls Tryz.prog 58 #[.pointer (some ⟨t, 0, none⟩)] w (RsP B base t size (retM (F :: r)).2.2 (.tuple #[.int .i64 (retM (F :: r)).1, .bool (retM (F :: r)).2.1]) w) := by
  obtain ⟨v, ps, h⟩ := h
  have HK := Lib.hid h
  obtain ⟨g, cap, rfl, hg, hc1, hc2, hc, hz⟩ := h.top
  have x1 := h.obj.cell (i := 1) rfl
  cases r with
  | nil =>
    clear h hc hz
    go_enter Tryz.func58, Tryz.ntmps58
    go_wp2
    go_ret2
    exact ⟨rfl, ⟨_, _, HK.out⟩, Mv.of (Touch.refl _ _)⟩
  | cons G r =>
    have z1 := h.obj.free 1
    have y0 := hc 0 (by omega)
    rw [h.fr.2.1] at y0
    have hbk : (retM (F :: G :: r)).1 = F.back := rfl
    rw [hbk]
    obtain ⟨bk, hb⟩ : ∃ bk, F.back = bk := ⟨_, rfl⟩
    rw [hb] at y0 ⊢
    obtain ⟨n, hn'⟩ : ∃ n, (G :: r).length = n := ⟨_, rfl⟩
    have HN := Lib.hid hn'
    have hn0 : n ≠ 0 := by rw [← hn']; simp
    rw [hn'] at hn hc1 x1 y0
    rw [Nat.add_zero] at y0
    have e1 : ((n : Int) + 1 == 1) = false := beqF (by omega)
    have v1 : IntKind.i64.wrap ((n : Int) + 1 - 1) = (n : Int) := by rw [show (n : Int) + 1 - 1 = (n : Int) from by omega]; exact IntWalk.i64_in _ (by omega)
    have v2 : IntKind.i64.wrap (((n + 1 : Nat) : Int) - 1) = (n : Int) := by rw [show ((n + 1 : Nat) : Int) - 1 = (n : Int) from by omega]; exact IntWalk.i64_in _ (by omega)
    have k1 : (n : Int) ≤ (cap : Int) := by omega
    have hgt : t ≠ g := Ne.symm hg
    clear h hc hz hbk hb hn'
    go_enter Tryz.func58, Tryz.ntmps58
    go_wp2_with fail
    go_ret2
    have o2 := HK.out.obj.set 1 (.slice (some ⟨g, 0, none⟩) n cap)
    have t2 : Touch [t] w (w.setCell ⟨t, 1, none⟩ (.slice (some ⟨g, 0, none⟩) n cap)) := (Touch.refl _ _).setCell (by simp) _
    refine ⟨rfl, ⟨.slice (some ⟨g, 0, none⟩) n cap, ps, ?_⟩, ⟨[t], t2, ?_⟩⟩
    · refine HK.out.turn t2 o2 rfl ?_
      have := HK.out.fs
      rw [← HN.out]
      exact this.less (m := (G :: r).length) (by simp)
    · intro b hb
      simp at hb
      subst hb
      exact ⟨HK.out.bt, HK.out.nt⟩
end
end Go.Proofs.YtjfnoondkgjabaaGreatDoor

set_option linter.unusedVariables false
set_option maxRecDepth 100000
namespace Go.Proofs.YtjfnoondkgjabaaGreatDoor
open Go.RowKit Go.BigFrame

theorem Rf.congr {w : World} {base : Nat} {ps qs : Nat → Nat → Value} : ∀ {S : List Frm}, Rf w base ps S → (∀ i, i < S.length → ∀ j, qs i j = ps i j) → Rf w base qs S
  | [], _, _ => trivial
  | F :: r, h, e => by
    refine ⟨h.1.congr fun i hi => e i (by simp; omega), ?_, ?_, ?_⟩
    · rw [e r.length (by simp)]; exact h.2.1
    · rw [e r.length (by simp)]; exact h.2.2.1
    · rw [e r.length (by simp)]; exact h.2.2.2
/-- Each frame's blocks are there. -/
theorem Rf.lt {w : World} {base : Nat} {ps : Nat → Nat → Value} : ∀ {S : List Frm}, Rf w base ps S → ∀ i b, i < S.length → ((ps i 1).ownBlock = some b ∨ (ps i 2).ownBlock = some b) → base ≤ b ∧ b < w.heap.size
  | [], _, i, b, hi, _ => by simp at hi
  | F :: r, h, i, b, hi, hb => by
    by_cases e : i = r.length
    · subst e
      rcases hb with hb | hb
      · exact h.2.2.1.own b hb
      · exact h.2.2.2.own b hb
    · exact Rf.lt h.1 i b (by simp at hi; omega) hb
theorem Rz.setOps {w w1 : World} {B : List Nat} {base t size g cap n : Nat} {ps : Nat → Nat → Value} {F : Frm} {r : List Frm} {x : Value} {xs : List Int} (h : Rz w B base t size (.slice (some ⟨g, 0, none⟩) n cap) ps (F :: r)) (hB : ∀ b ∈ B, b < w.heap.size) (ht : Touch [] w w1) (hq : QI w1 base x xs) (hx : ∀ b, x.ownBlock = some b → w.heap.size ≤ b) :
    Rz (w1.setCell ⟨g, r.length * 3 + 2, none⟩ x) B base t size (.slice (some ⟨g, 0, none⟩) n cap) (setV ps r.length 2 x) ({F with ops := xs} :: r) ∧ Touch [g] w1 (w1.setCell ⟨g, r.length * 3 + 2, none⟩ x) ∧ base ≤ g ∧ g ∉ B := by
  have h1 := h.still ht
  obtain ⟨g', cap', he, hb, hlt, _, _, _, _, hset⟩ := h1.fs.at (i := r.length) (by simp)
  have hg : g' = g := by cases he; rfl
  subst hg
  have hvo : (Value.slice (some ⟨g', 0, none⟩) n cap).ownBlock = some g' := rfl
  obtain ⟨q1, q2⟩ := h.vo g' hvo
  have t2 : Touch [g'] w1 (w1.setCell ⟨g', r.length * 3 + 2, none⟩ x) := (Touch.refl _ _).setCell (by simp) _
  have hgl : g' < w.heap.size := by
    obtain ⟨_, _, e2, _, l2, _⟩ := h.fs.at (i := r.length) (by simp)
    cases e2; exact l2
  have htl := h.obj.lt
  have hnew : ∀ i j, ¬ (i = r.length ∧ j = 2) → setV ps r.length 2 x i j = ps i j := fun i j hn => setV_ne _ _ hn
  have hat : setV ps r.length 2 x r.length 2 = x := setV_same _ _ _ _
  refine ⟨⟨h1.obj.touch t2 (by simp; exact Ne.symm q1), h.bt, h.nt, hset 2 x (by omega), ⟨?_, ?_, ?_, ?_⟩, h.vo, fun i b hi hb => ?_, fun i b hi hb => ?_⟩, t2, hb, q2⟩
  · refine Rf.touch t2 (h1.fr.1.congr fun i hi j => hnew i j (by omega)) (fun i b hi hb => ?_)
    rw [hnew i 1 (by omega), hnew i 2 (by omega)] at hb
    rcases hb with hb | hb
    · have := (h.ll i b (by simp; omega) hb).2.2.1
      simp; intro e; exact this (by rw [hvo, e])
    · have := (h.oo i b (by simp; omega) hb).2.2
      simp; intro e; exact this (by rw [hvo, e])
  · rw [hnew _ _ (by omega)]; exact h1.fr.2.1
  · rw [hnew _ _ (by omega)]
    refine h1.fr.2.2.1.touch t2 (fun b hb => ?_)
    have := (h.ll r.length b (by simp) hb).2.2.1
    simp; intro e; exact this (by rw [hvo, e])
  · rw [hat]
    refine hq.touch t2 (fun b hb => ?_)
    have := hx b hb
    simp; omega
  · have hi' : i < (F :: r).length := by simpa using hi
    rw [hnew i 1 (by omega)] at hb
    obtain ⟨p1, p2, p3, p4⟩ := h.ll i b hi' hb
    have hbl := (h.fr.lt i b hi' (.inl hb)).2
    refine ⟨p1, p2, p3, fun j hj => ⟨?_, fun hne => ?_⟩⟩
    · by_cases e : j = r.length
      · subst e; rw [hat]; intro e2; have := hx b e2; omega
      · rw [hnew j 2 (by omega)]; exact (p4 j (by simpa using hj)).1
    · rw [hnew j 1 (by omega)]; exact (p4 j (by simpa using hj)).2 hne
  · have hi' : i < (F :: r).length := by simpa using hi
    by_cases e : i = r.length
    · subst e
      rw [hat] at hb
      have := hx b hb
      refine ⟨by omega, fun hbB => by have := hB b hbB; omega, fun e2 => ?_⟩
      rw [hvo] at e2; cases e2; omega
    · rw [hnew i 2 (by omega)] at hb
      exact h.oo i b hi' hb
end Go.Proofs.YtjfnoondkgjabaaGreatDoor

set_option linter.unusedVariables false
set_option maxRecDepth 100000
namespace Go.Proofs.YtjfnoondkgjabaaGreatDoor
open Go.RowKit Go.BigFrame

section
variable (B : List Nat) (base t size : Nat) (F : Frm) (r : List Frm) (w : World)
set_option maxHeartbeats 8000000 in
theorem rpush_no (x : Int) (hn : r.length ≤ 900000) (hm : topS (F :: r) ≤ 1000000) (hr : ¬ topS (F :: r) < size) (hs : size ≤ 1000000) (h : Rs w B base t size (F :: r)) :
    Calls Tryz.prog 34 #[.pointer (some ⟨t, 0, none⟩), .int .i64 x] w fun e w' => e = .returned (.int .i64 41) ∧ Touch [] w w' := by
  obtain ⟨v, ps, h⟩ := h
  have HK := Lib.hid h
  have HL := Lib.hid (fun w' h' => rlen_q B base t size (F :: r) v ps w' (by simp; omega) hm (by simp) h')
  have x0 := fun q : Later w => (HK.out.still q.ok).obj.cell (i := 0) rfl
  obtain ⟨T, hT⟩ : ∃ T, topS (F :: r) = T := ⟨_, rfl⟩
  rw [hT] at HL hr
  have q1 : decide ((size : Int) ≤ (T : Int)) = true := dT (by omega)
  have q2 : size ≤ T := by omega
  clear h hm hn hT hr
  go_enter Tryz.func34, Tryz.ntmps34
  go_wp2_with fail
  refine wp_region_later (by kernel_rfl) (by kernel_rfl) ?_
  repeat (first
    | (go_big_quiet_step ((first | (with_reducible rfl) | exact Later.same (HL.out _ (HK.out.still (Later.ok _))))))
    | (quiet_step (fail)))
  refine wpQuiet_nil ?_
  intro wq hw'
  obtain ⟨⟨wq', hwq⟩, hwe⟩ := hw'
  have hwe : wq = wq' := hwe
  subst hwe
  have HT := Lib.hid hwq
  clear hwe hwq x0
  go_wp2
  go_ret
  exact ⟨rfl, HT.out⟩
set_option maxHeartbeats 16000000 in
theorem rpush_yes (x : Int) (hn : r.length ≤ 900000) (hm : topS (F :: r) ≤ 1000000) (hr : topS (F :: r) < size) (hs : size ≤ 1000000) (hB : ∀ b ∈ B, b < w.heap.size) (h : Rs w B base t size (F :: r)) :
    Calls Tryz.prog 34 #[.pointer (some ⟨t, 0, none⟩), .int .i64 x] w (RsP B base t size ({F with ops := F.ops ++ [x]} :: r) (.int .i64 0) w) := by
  obtain ⟨i0, hi, hz0, hz1, hz2⟩ := infoI
  obtain ⟨v, ps, h⟩ := h
  have HK := Lib.hid h
  have HBB := Lib.hid hB
  have HL := Lib.hid (fun w' h' => rlen_q B base t size (F :: r) v ps w' (by simp; omega) hm (by simp) h')
  have x0 := fun q : Later w => (HK.out.still q.ok).obj.cell (i := 0) rfl
  have hom := topS_ops F r
  obtain ⟨T, hT⟩ : ∃ T, topS (F :: r) = T := ⟨_, rfl⟩
  rw [hT] at HL hr hom hm
  have q1 : decide ((size : Int) ≤ (T : Int)) = false := dF (by omega)
  have q2 : ¬ size ≤ T := by omega
  obtain ⟨g, cap, rfl, hg, hc1, hc2, hc, hz⟩ := h.top
  have HC := Lib.hid (fun w' (ht : Touch [] w w') => rtop_q B base t size F r ps w' g cap (by omega) (h.still ht))
  obtain ⟨a, ca, ho⟩ := Qu.form h.fr.2.2.2
  have HO := Lib.hid (fun w' (ht : Touch [] w w') => by
    obtain ⟨g', cap', he, _, _, _, hc', hz'⟩ := (h.still ht).top
    cases he
    have := hc' 2 (by omega)
    rw [ho] at this
    exact (⟨this, hz' (r.length * 3 + 2)⟩ : _ ∧ _))
  have HV := Lib.hid (fun w' (ht : Touch [] w w') => (h.still ht).fr.2.2.2.sl)
  rw [ho] at HV
  have hlm : F.ops.length ≤ 1000000 := by omega
  obtain ⟨n, hn'⟩ : ∃ n, r.length = n := ⟨_, rfl⟩
  have HN := Lib.hid hn'
  rw [hn'] at HC HO
  have HBS : Hid (base ≤ w.heap.size) := Lib.hid (by have := h.bt; have := h.obj.lt; omega)
  clear h hm hn hT hr hc hz ho hn' hom hB hc1 hc2
  go_enter Tryz.func34, Tryz.ntmps34
  go_wp2_with fail
  refine wp_region_later (by kernel_rfl) (by kernel_rfl) ?_
  repeat (first
    | (go_big_quiet_step ((first | (with_reducible rfl) | exact Later.same (HL.out _ (HK.out.still (Later.ok _))))))
    | (quiet_step (fail)))
  refine wpQuiet_nil ?_
  intro wq hw'
  obtain ⟨⟨wq', hwq⟩, hwe⟩ := hw'
  have hwe : wq = wq' := hwe
  subst hwe
  have HT := Lib.hid hwq
  clear hwe hwq x0
  go_wp2_with fail
  refine (HC.out _ HT.out).mono ?_
  rintro e w1 ⟨rfl, ht⟩
  have HT := Lib.hid (HT.out.trans ht)
  clear ht
  go_wp2_with fail
  refine (HC.out _ HT.out).mono ?_
  rintro e w2 ⟨rfl, ht⟩
  have HT := Lib.hid (HT.out.trans ht)
  obtain ⟨y2, _⟩ := HO.out _ HT.out
  clear ht
  go_wp2_with fail
  refine (rcopy_any _ F.ops w2 (HV.out _ HT.out) hlm).mono ?_
  rintro e w3 ⟨v3, rfl, hq, ht⟩
  have hs2 := HT.out.size
  have HQ := Lib.hid ((hq.mono hs2).alloc (.cells #[.int .i64 x] 3))
  have HQ0 := Lib.hid (hq.mono hs2)
  have HT := Lib.hid (HT.out.trans ht)
  have hs3 := HT.out.size
  clear ht y2 hq
  go_wp2_with (at_builtin; refine wpList_append_q Tryz.underlying25 hi hz0 hz1 hz2 rfl rfl _ _ rfl w.heap.size _ _ rfl HQ.out (by simp; omega) ⟨w3.heap.size, 0, none⟩ 1 (.int .i64 x) rfl ?c1 rfl ?c2 ?c3 ?_)
  case c1 => exact World.cell?_alloc_at _ _ _ _ rfl
  case c2 => simp; omega
  case c3 => simp; omega
  intro v' w4 hq2 hgr hnew
  have ht4 : Touch [] w w4 := ((HT.out).alloc _).grown hgr (fun k hk hlt => absurd (HQ0.out.own k hk).1 (by omega))
  have HT4 := Lib.hid ht4
  have hq3 : QI w4 w.heap.size v' (F.ops ++ [x]) := by unfold QI; rw [List.map_append]; exact hq2
  have HQ3 := Lib.hid hq3
  obtain ⟨y2, z2⟩ := HO.out _ ht4
  clear ht4 hq2 hgr hnew hq3 HQ HQ0
  obtain ⟨a4, c4, rfl⟩ := Qu.form HQ3.out
  go_wp2
  go_ret
  obtain ⟨hR, ht5, hbg, hgB⟩ := HK.out.setOps HBB.out HT4.out (HQ3.out.mono HBS.out) (fun b hb => (HQ3.out.own b hb).1)
  rw [HN.out] at hR ht5
  simp only [List.length_append, List.length_cons, List.length_nil, Nat.zero_add] at hR ht5
  exact ⟨rfl, ⟨_, _, hR⟩, ⟨[g], (HT4.out.mono (by simp)).trans ht5, fun b hb => by simp at hb; subst hb; exact ⟨hbg, hgB⟩⟩⟩
end
end Go.Proofs.YtjfnoondkgjabaaGreatDoor

set_option linter.unusedVariables false
set_option maxRecDepth 100000
namespace Go.Proofs.YtjfnoondkgjabaaGreatDoor
open Go.RowKit Go.BigFrame

theorem Qu.cut {w : World} {base : Nat} {v : Value} {xs : List Int} (h : QI w base v xs) (hx : xs.length ≠ 0) : ∃ g off c, v = .slice (some ⟨g, off, none⟩) xs.length c ∧ xs.length ≤ c ∧ w.cell? ⟨g, off + (xs.length - 1), none⟩ = some (.int .i64 (xs.getD (xs.length - 1) 0)) ∧ Sl w (.slice (some ⟨g, off, none⟩) (xs.length - 1) c) (xs.take (xs.length - 1)) := by
  have hsl := h.sl
  rcases h with ⟨_, h⟩ | ⟨g, off, c, cur, rfl, hb, hg, h1, h2, h3, h4⟩
  · simp at h; subst h; simp at hx
  · simp only [List.length_map] at h1 hsl
    obtain ⟨a', c', he, hr⟩ := hsl
    cases he
    rcases hr with hr | ⟨g', off', he, hlt, hr⟩
    · subst hr; simp at hx
    · cases he
      refine ⟨g, off, c, by simp, h1, hr _ (by omega), ⟨_, c, by simp, .inr ⟨g, off, rfl, hlt, fun j hj => ?_⟩⟩⟩
      rw [List.length_take] at hj
      rw [hr j (by omega)]
      simp only [List.getD]
      rw [List.getElem?_take_of_lt (by omega)]
section
variable (B : List Nat) (base t size : Nat) (F : Frm) (r : List Frm) (w : World)
set_option maxHeartbeats 16000000 in
theorem rpop_no (hn : r.length ≤ 900000) (hr : F.ops.length = 0) (h : Rs w B base t size (F :: r)) :
    Calls Tryz.prog 79 #[.pointer (some ⟨t, 0, none⟩)] w fun e w' => e = .returned (.tuple #[.int .i64 0, .int .i64 4]) ∧ Touch [] w w' := by
  obtain ⟨v, ps, h⟩ := h
  have HP := Lib.hid (roperands_q B base t size F r v ps w (by omega) h)
  rw [hr] at HP
  clear h hr
  go_enter Tryz.func79, Tryz.ntmps79
  go_wp2_with fail
  refine HP.out.mono ?_
  rintro e w1 ⟨rfl, ht⟩
  have HT := Lib.hid ht
  clear ht
  go_wp2
  go_ret2
  exact ⟨rfl, HT.out⟩
set_option maxHeartbeats 16000000 in
theorem rpop_yes (hn : r.length ≤ 900000) (hm : F.ops.length ≤ 1000000) (hr : F.ops.length ≠ 0) (hB : ∀ b ∈ B, b < w.heap.size) (h : Rs w B base t size (F :: r)) :
    Calls Tryz.prog 79 #[.pointer (some ⟨t, 0, none⟩)] w (RsP B base t size ({F with ops := F.ops.take (F.ops.length - 1)} :: r) (.tuple #[.int .i64 (F.ops.getD (F.ops.length - 1) 0), .int .i64 0]) w) := by
  obtain ⟨v, ps, h⟩ := h
  have HK := Lib.hid h
  have HBB := Lib.hid hB
  have HP := Lib.hid (roperands_q B base t size F r v ps w (by omega) h)
  obtain ⟨g, cap, rfl, hg, hc1, hc2, hc, hz⟩ := h.top
  have HC := Lib.hid (fun w' (ht : Touch [] w w') => rtop_q B base t size F r ps w' g cap (by omega) (h.still ht))
  obtain ⟨g2, off, ca, ho, hle, _, _⟩ := h.fr.2.2.2.cut hr
  have HO := Lib.hid (fun w' (ht : Touch [] w w') => by
    obtain ⟨g', cap', he, _, _, _, hc', hz'⟩ := (h.still ht).top
    cases he
    have := hc' 2 (by omega)
    rw [ho] at this
    exact (⟨this, hz' (r.length * 3 + 2)⟩ : _ ∧ _))
  have HV := Lib.hid (fun w' (ht : Touch [] w w') => by
    obtain ⟨_, _, _, he, _, q1, q2⟩ := (h.still ht).fr.2.2.2.cut hr
    rw [ho] at he
    cases he
    exact (⟨q1, q2⟩ : _ ∧ _))
  have hlt : (F.ops.take (F.ops.length - 1)).length ≤ 1000000 := by rw [List.length_take]; omega
  have HX := Lib.hid (by rw [List.length_take]; omega : (F.ops.take (F.ops.length - 1)).length = F.ops.length - 1)
  obtain ⟨xs, hxs⟩ : ∃ xs, F.ops.take (F.ops.length - 1) = xs := ⟨_, rfl⟩
  obtain ⟨z, hz'⟩ : ∃ z, F.ops.getD (F.ops.length - 1) 0 = z := ⟨_, rfl⟩
  rw [hxs] at HV HX hlt ⊢
  rw [hz'] at HV ⊢
  obtain ⟨n, hn'⟩ : ∃ n, r.length = n := ⟨_, rfl⟩
  have HN := Lib.hid hn'
  obtain ⟨m, hm'⟩ : ∃ m, F.ops.length = m := ⟨_, rfl⟩
  rw [hn'] at HC HO
  rw [hm'] at HO HP HV HX hr hle hm
  have HBS : Hid (base ≤ w.heap.size) := Lib.hid (by have := h.bt; have := h.obj.lt; omega)
  obtain ⟨p, rfl⟩ : ∃ p, m = p + 1 := ⟨m - 1, by omega⟩
  rw [Nat.add_sub_cancel] at HV HX
  have v1 : IntKind.i64.wrap (((p + 1 : Nat) : Int) - 1) = (p : Int) := by rw [show ((p + 1 : Nat) : Int) - 1 = (p : Int) from by omega]; exact IntWalk.i64_in _ (by omega)
  have v2 : IntKind.i64.wrap ((p : Int) + 1 - 1) = (p : Int) := by rw [show (p : Int) + 1 - 1 = (p : Int) from by omega]; exact IntWalk.i64_in _ (by omega)
  have e1 : ((p : Int) + 1 == 0) = false := beqF (by omega)
  have k1 : (p : Int) ≤ (ca : Int) := by omega
  clear h hn hr hc hz ho hn' hm' hB hc1 hc2 hxs hz'
  go_enter Tryz.func79, Tryz.ntmps79
  go_wp2_with fail
  refine HP.out.mono ?_
  rintro e w1 ⟨rfl, ht⟩
  have HT := Lib.hid ht
  clear ht
  go_wp2_with fail
  refine (HC.out _ HT.out).mono ?_
  rintro e w2 ⟨rfl, ht⟩
  have HT := Lib.hid (HT.out.trans ht)
  obtain ⟨y2, _⟩ := HO.out _ HT.out
  obtain ⟨y3, _⟩ := HV.out _ HT.out
  clear ht
  go_wp2_with fail
  refine (HC.out _ HT.out).mono ?_
  rintro e w3 ⟨rfl, ht⟩
  have HT := Lib.hid (HT.out.trans ht)
  clear ht y2 y3
  go_wp2_with fail
  refine (HC.out _ HT.out).mono ?_
  rintro e w4 ⟨rfl, ht⟩
  have HT := Lib.hid (HT.out.trans ht)
  obtain ⟨y2, _⟩ := HO.out _ HT.out
  clear ht
  go_wp2_with fail
  refine (rcopy_any _ xs w4 (HV.out _ HT.out).2 hlt).mono ?_
  rintro e w5 ⟨v3, rfl, hq, ht⟩
  have hs2 := HT.out.size
  have HQ := Lib.hid (hq.mono hs2)
  have HT := Lib.hid (HT.out.trans ht)
  obtain ⟨y3, z3⟩ := HO.out _ HT.out
  clear ht y2 hq
  obtain ⟨a4, c4, rfl⟩ := Qu.form HQ.out
  go_wp2
  go_ret2
  obtain ⟨hR, ht5, hbg, hgB⟩ := HK.out.setOps HBB.out HT.out (HQ.out.mono HBS.out) (fun b hb => (HQ.out.own b hb).1)
  rw [HN.out] at hR ht5
  exact ⟨rfl, ⟨_, _, hR⟩, ⟨[g], (HT.out.mono (by simp)).trans ht5, fun b hb => by simp at hb; subst hb; exact ⟨hbg, hgB⟩⟩⟩
end
end Go.Proofs.YtjfnoondkgjabaaGreatDoor

set_option linter.unusedVariables false
set_option maxRecDepth 100000
namespace Go.Proofs.YtjfnoondkgjabaaGreatDoor
open Go.RowKit Go.BigFrame

theorem QI.put {w : World} {base : Nat} {v : Value} {xs : List Int} (h : QI w base v xs) (p : Nat) (hp : p < xs.length) : ∃ g off c, v = .slice (some ⟨g, off, none⟩) xs.length c ∧ base ≤ g ∧ g < w.heap.size ∧ (∀ k, w.frozen? ⟨g, k, none⟩ = false) ∧ w.cell? ⟨g, off + p, none⟩ = some (.int .i64 (xs.getD p 0)) ∧
    ∀ x, QI (w.setCell ⟨g, off + p, none⟩ (.int .i64 x)) base v (xs.set p x) := by
  obtain ⟨g', off', c', e', hcell⟩ := Qu.get h p hp
  rcases h with ⟨_, h⟩ | ⟨g, off, c, cur, rfl, hb, hg, h1, h2, h3, h4⟩
  · simp at h; subst h; simp at hp
  · simp only [List.length_map] at h1 e' h4
    obtain ⟨⟨rfl, rfl⟩, rfl⟩ : (g = g' ∧ off = off') ∧ c = c' := by simpa using e'
    refine ⟨g, off, c, by simp, hb, hg.lt, fun k => hg.free k, hcell, fun x => .inr ⟨g, off, c, _, by simp, hb, hg.set _ _, by simpa using h1, h2, by simpa using h3, fun j hj => ?_⟩⟩
    have hj : j < xs.length := by simpa using hj
    rw [Array.getElem?_setIfInBounds]
    by_cases e : p = j
    · subst e
      have : off + p < cur.size := by omega
      simp [this, hp]
    · rw [if_neg (by omega), h4 j hj]
      simp [hj, List.getElem_set_ne e]
/-- The innermost frame's locals turned in their place. -/
theorem Rz.setLoc {w w1 : World} {B : List Nat} {base t size g off p : Nat} {v : Value} {ps : Nat → Nat → Value} {F : Frm} {r : List Frm} {n c : Nat} (h : Rz w B base t size v ps (F :: r)) (ht : Touch [] w w1) (hs : ps r.length 1 = .slice (some ⟨g, off, none⟩) n c) (hp : p < F.loc.length) (x : Int) :
    Rz (w1.setCell ⟨g, off + p, none⟩ (.int .i64 x)) B base t size v ps ({F with loc := F.loc.set p x} :: r) ∧ Touch [g] w1 (w1.setCell ⟨g, off + p, none⟩ (.int .i64 x)) ∧ base ≤ g ∧ g ∉ B := by
  have h1 := h.still ht
  obtain ⟨g', off', c', he, hb, hlt, _, _, hset⟩ := h1.fr.2.2.1.put p hp
  rw [hs] at he
  cases he
  have hown : (ps r.length 1).ownBlock = some g := by rw [hs]; rfl
  obtain ⟨q1, q2, q3, q4⟩ := h.ll r.length g (by simp) hown
  have t2 : Touch [g] w1 (w1.setCell ⟨g, off + p, none⟩ (.int .i64 x)) := (Touch.refl _ _).setCell (by simp) _
  refine ⟨⟨h1.obj.touch t2 (by simp; exact Ne.symm q1), h.bt, h.nt, h1.fs.touch t2 (fun b hb' => ?_), ⟨?_, ?_, ?_, ?_⟩, h.vo, h.ll, h.oo⟩, t2, hb, q2⟩
  · simp; intro e; exact q3 (by rw [hb', e])
  · refine Rf.touch t2 h1.fr.1 (fun i b hi hb' => ?_)
    obtain ⟨p1, p2⟩ := q4 i (by simp; omega)
    simp; intro e; subst e
    rcases hb' with hb' | hb'
    · exact p2 (by omega) hb'
    · exact p1 hb'
  · exact h1.fr.2.1
  · exact hset x
  · refine h1.fr.2.2.2.touch t2 (fun b hb' => ?_)
    obtain ⟨p1, p2⟩ := q4 r.length (by simp)
    simp; intro e; subst e; exact p1 hb'
section
variable (B : List Nat) (base t size : Nat) (F : Frm) (r : List Frm) (w : World)
set_option maxHeartbeats 8000000 in
theorem rset_m (i x : Int) (hn : r.length ≤ 900000) (hm : F.loc.length ≤ 1000000) (h : Rs w B base t size (F :: r)) :
    Calls Tryz.prog 88 #[.pointer (some ⟨t, 0, none⟩), .int .i64 i, .int .i64 x] w (RsP B base t size (setM i x (F :: r)).2 (.bool (setM i x (F :: r)).1) w) := by
  simp only [setM]
  have HS := Lib.hid h
  obtain ⟨v, ps, h⟩ := h
  have HK := Lib.hid h
  obtain ⟨g, cap, rfl, hg, hc1, hc2, _, _⟩ := h.top
  have HC := Lib.hid (fun w' (ht : Touch [] w w') => rtop_q B base t size F r ps w' g cap (by omega) (h.still ht))
  obtain ⟨a, ca, ho⟩ := Qu.form h.fr.2.2.1
  have HO := Lib.hid (fun w' (ht : Touch [] w w') => by
    obtain ⟨g', cap', he, _, _, _, hc', _⟩ := (h.still ht).top
    cases he
    have := hc' 1 (by omega)
    rw [ho] at this
    exact this)
  by_cases c : i < 0 ∨ (F.loc.length : Int) ≤ i
  · rw [if_pos c]
    obtain ⟨n, hn'⟩ : ∃ n, r.length = n := ⟨_, rfl⟩
    obtain ⟨m, hm'⟩ : ∃ m, F.loc.length = m := ⟨_, rfl⟩
    rw [hn'] at HC HO
    rw [hm'] at HO c
    clear h hm hm' hn hn' ho
    by_cases c0 : i < 0
    · have q : decide (i < 0) = true := dT c0
      clear c HC HO
      go_enter Tryz.func88, Tryz.ntmps88
      go_wp2
      go_ret
      exact ⟨rfl, HS.out, Mv.of (Touch.refl _ _)⟩
    · have q : decide (i < 0) = false := dF c0
      have q2 : decide ((m : Int) ≤ i) = true := dT (by omega)
      have q3 : (m : Int) ≤ i := by omega
      clear c
      go_enter Tryz.func88, Tryz.ntmps88
      go_wp2_with fail
      refine (HC.out _ (Touch.refl _ _)).mono ?_
      rintro e w1 ⟨rfl, ht⟩
      have HT := Lib.hid ht
      have y1 := HO.out _ ht
      clear ht
      go_wp2
      go_ret
      exact ⟨rfl, ⟨_, _, HK.out.still HT.out⟩, Mv.of HT.out⟩
  · rw [if_neg c]
    obtain ⟨p, rfl⟩ : ∃ p : Nat, i = p := ⟨i.toNat, by omega⟩
    rw [Int.toNat_natCast]
    have hp : p < F.loc.length := by omega
    have HV := Lib.hid (fun w' (ht : Touch [] w w') => (h.still ht).fr.2.2.1.put p hp)
    rw [ho] at HV
    obtain ⟨g2, off, c2, he, _⟩ := HV.out w (Touch.refl _ _)
    cases he
    have HSL := Lib.hid (fun w' (ht : Touch [] w w') => h.setLoc ht ho hp x)
    obtain ⟨n, hn'⟩ : ∃ n, r.length = n := ⟨_, rfl⟩
    obtain ⟨m, hm'⟩ : ∃ m, F.loc.length = m := ⟨_, rfl⟩
    rw [hn'] at HC HO
    rw [hm'] at HO HV hp hm
    have q : decide ((p : Int) < 0) = false := dF (by omega)
    have k2 : ¬ m ≤ p := by omega
    have k3 : decide (m ≤ p) = false := dF k2
    have k4 : decide ((m : Int) ≤ (p : Int)) = false := dF (by omega)
    clear h ho hn' hm' c
    go_enter Tryz.func88, Tryz.ntmps88
    go_wp2_with fail
    refine (HC.out _ (Touch.refl _ _)).mono ?_
    rintro e w1 ⟨rfl, ht⟩
    have HT := Lib.hid ht
    have y1 := HO.out _ ht
    clear ht
    go_wp2_with fail
    refine (HC.out _ HT.out).mono ?_
    rintro e w2 ⟨rfl, ht⟩
    have HT := Lib.hid (HT.out.trans ht)
    have y2 := HO.out _ HT.out
    obtain ⟨_, _, _, he, _, _, hz, hv, _⟩ := HV.out _ HT.out
    cases he
    have z2 := hz (off + p)
    clear ht y1 hz
    go_wp2
    go_ret
    obtain ⟨hR, ht5, hbg, hgB⟩ := HSL.out _ HT.out
    exact ⟨rfl, ⟨_, _, hR⟩, ⟨[g2], (HT.out.mono (by simp)).trans ht5, fun b hb => by simp at hb; subst hb; exact ⟨hbg, hgB⟩⟩⟩
end
end Go.Proofs.YtjfnoondkgjabaaGreatDoor

set_option linter.unusedVariables false
set_option maxRecDepth 100000
namespace Go.Proofs.YtjfnoondkgjabaaGreatDoor
open Go.RowKit Go.BigFrame

theorem infoF : ∃ (i : TypeInfo) (z : Value), Tryz.prog.info? 112 = some i ∧ i.zero = some z ∧ i.size = 3 ∧ z.cells.size = 3 ∧ i.bytes ≤ 64 := by
  obtain ⟨i, hi⟩ := Option.isSome_iff_exists.mp (show (Tryz.prog.info? 112).isSome = true from by kernel_rfl)
  have h2 : (Tryz.prog.info? 112).map (fun i => (i.zero.isSome, i.size, decide (i.bytes ≤ 64), (i.zero.map fun z => z.cells.size))) = some (true, 3, true, some 3) := by kernel_rfl
  rw [hi] at h2
  simp at h2
  obtain ⟨h3, h4, h5, h6⟩ := h2
  obtain ⟨z, hz, hz2⟩ := h6
  exact ⟨i, z, hi, hz, h4, hz2, h5⟩
def newV (back : Int) (lv : Value) : Nat → Value := fun j => if j = 0 then .int .i64 back else if j = 1 then lv else .slice none 0 0
theorem Rf.one {w : World} {base : Nat} {ps : Nat → Nat → Value} : ∀ {S : List Frm}, Rf w base ps S → ∀ i, i < S.length → ∀ j, j < 3 → (ps i j).oneCell' = true
  | [], _, i, hi, _, _ => by simp at hi
  | F :: r, h, i, hi, j, hj => by
    by_cases e : i = r.length
    · subst e
      have : j = 0 ∨ j = 1 ∨ j = 2 := by omega
      rcases this with rfl | rfl | rfl
      · rw [h.2.1]; rfl
      · obtain ⟨a, c, hf⟩ := Qu.form h.2.2.1
        rw [hf]; rfl
      · obtain ⟨a, c, hf⟩ := Qu.form h.2.2.2
        rw [hf]; rfl
    · exact Rf.one h.1 i (by simp at hi; omega) j hj
/-- What a new frame makes of the stack. -/
structure FBorn (wq : World) (B : List Nat) (base t size : Nat) (v : Value) (ps : Nat → Nat → Value) (S : List Frm) (back : Int) (lv : Value) (loc : List Int) (w1 w2 : World) (v1 v2 : Value) : Prop where
  r1 : ∀ ty, (Builtin.append_ #[113, 113] ty #[.slice (some ⟨wq.heap.size, 0, none⟩) 0 0, v]).run Tryz.prog (wq.alloc (.cells #[] 112)) = .ok v1 w1
  r2 : ∀ ty, (Builtin.append_ #[113, 113] ty #[v1, .slice (some ⟨w1.heap.size, 0, none⟩) 1 1]).run Tryz.prog (w1.alloc (.cells #[.int .i64 back, lv, .slice none 0 0] 112)) = .ok v2 w2
  c0 : ∀ o, (wq.alloc o).cell? ⟨t, 1, none⟩ = some v
  c1 : w1.cell? ⟨t, 1, none⟩ = some v
  c2 : w2.cell? ⟨t, 1, none⟩ = some v
  f2 : w2.frozen? ⟨t, 1, none⟩ = false
  f1 : ∃ a c, v1 = .slice a S.length c
  f3 : ∃ a c, v2 = .slice a (S.length + 1) c
  tw : Touch [] wq w2
  left : Rz (w2.setCell ⟨t, 1, none⟩ v2) B base t size v2 (addV ps S.length (newV back lv)) (⟨back, loc, []⟩ :: S)
set_option maxHeartbeats 4000000 in
theorem fborn (wq : World) (B : List Nat) (base t size : Nat) (v : Value) (ps : Nat → Nat → Value) (S : List Frm) (back : Int) (lv : Value) (loc : List Int) (h : Rz wq B base t size v ps S) (hB : ∀ b ∈ B, b < wq.heap.size) (hn : S.length ≤ 900000) (hq : QI wq base lv loc)
    (hx : ∀ b, lv.ownBlock = some b → b ≠ t ∧ b ∉ B ∧ ∀ j, j < S.length → (ps j 1).ownBlock ≠ some b ∧ (ps j 2).ownBlock ≠ some b) : ∃ w1 w2 v1 v2, FBorn wq B base t size v ps S back lv loc w1 w2 v1 v2 := by
  obtain ⟨i, z, hi, hz, h5, hz5, h64⟩ := infoF
  obtain ⟨n, hnl⟩ : ∃ n, S.length = n := ⟨_, rfl⟩
  have hlt := h.obj.lt
  have hbase : base ≤ wq.heap.size := by have := h.bt; omega
  have t1 : Touch [] wq (wq.alloc (.cells #[] 112)) := (Touch.refl _ _).alloc _
  have A0 : Av (wq.alloc (.cells #[] 112)) wq.heap.size 112 3 (.slice (some ⟨wq.heap.size, 0, none⟩) 0 0) 0 ps :=
    .inr ⟨wq.heap.size, 0, #[], rfl, Nat.le_refl _, Blk.new rfl, Nat.le_refl _, Nat.zero_le _, Nat.zero_le _, fun i hi => by omega⟩
  have hv1 := h.still t1
  rw [hnl] at hn
  obtain ⟨v1, w1, r1, A1, g1, o1⟩ := Av.appendN (t := 113) Tryz.underlying113 hi hz h5 rfl hz5 (by omega) A0 (by simp) (hv1.fs.src Tryz.underlying113 (by omega) hv1.fr.one) (by rw [hnl]; have := Nat.mul_le_mul_left (0 + n) h64; omega) (by omega)
  rw [Nat.zero_add] at A1
  have A1 : Av w1 wq.heap.size 112 3 v1 S.length ps := A1.congr (fun a ha k hk => by rw [catV_new _ _ _ (by omega), Nat.sub_zero])
  have t2 : Touch [] wq w1 := t1.transF (Touch.grown (S := [wq.heap.size]) (Touch.refl _ _) g1 (fun k hk _ => by simp [Value.ownBlock] at hk; simp [hk])) (fun k hk hl => by simp at hk; omega)
  have hv2 := h.still t2
  have bp : Blk (w1.alloc (.cells #[.int .i64 back, lv, .slice none 0 0] 112)) w1.heap.size #[.int .i64 back, lv, .slice none 0 0] 112 := Blk.new rfl
  have t3 : Touch [] w1 (w1.alloc (.cells #[.int .i64 back, lv, .slice none 0 0] 112)) := (Touch.refl _ _).alloc _
  have hs1 := t2.size
  obtain ⟨la, lc, hlv⟩ := Qu.form hq
  obtain ⟨v2, w2, r2, A2, g2, o2⟩ := Av.append (t := 113) Tryz.underlying113 hi hz h5 rfl hz5 (A1.touch t3 (fun _ _ => by simp)) (by simp; omega) ⟨w1.heap.size, 0, none⟩ 1 (newV back lv) (fun j hj => by
    rw [Addr.add_lit, Nat.zero_add]
    have : j = 0 ∨ j = 1 ∨ j = 2 := by omega
    rcases this with rfl | rfl | rfl <;> exact bp.cell rfl) (fun j hj => by
    have : j = 0 ∨ j = 1 ∨ j = 2 := by omega
    rcases this with rfl | rfl | rfl
    · rfl
    · show lv.oneCell' = true
      rw [hlv]; rfl
    · rfl) (by rw [hnl]; have := Nat.mul_le_mul_left (n + 1) h64; omega) (by omega)
  have t4 : Touch [] wq w2 := (t2.trans t3).transF (Touch.grown (S := v1.ownBlock.toList) (Touch.refl _ _) g2 (fun k hk _ => by simp [hk])) (fun k hk hl => by have := (A1.own k (by simpa using hk)).1; omega)
  have hv3 := h.still t4
  have hs2 := t4.size
  have t5 : Touch [t] w2 (w2.setCell ⟨t, 1, none⟩ v2) := (Touch.refl _ _).setCell (by simp) _
  have na' : ∀ k, v2.ownBlock = some k → wq.heap.size ≤ k := fun k hk => (A2.own k hk).1
  have A3 := (A2.touch t5 (fun k hk => by have := na' k hk; simp; omega)).mono hbase
  have hlv2 : ∀ b, lv.ownBlock = some b → b < wq.heap.size := fun b hb => (hq.own b hb).2
  have old : ∀ i j, i < S.length → addV ps S.length (newV back lv) i j = ps i j := fun i j hi => addV_old _ _ _ (by omega)
  obtain ⟨a1, c1, e1, _⟩ := A1.form
  obtain ⟨a2, c2, e2, _⟩ := A2.form
  refine ⟨w1, w2, v1, v2, r1, r2, fun o => (h.obj.alloc o).cell (i := 1) rfl, hv2.obj.cell (i := 1) rfl, hv3.obj.cell (i := 1) rfl, hv3.obj.free 1, ⟨a1, c1, e1⟩, ⟨a2, c2, e2⟩, t4, ?_⟩
  refine ⟨by simpa using hv3.obj.set 1 v2, h.bt, h.nt, A3, ⟨?_, ?_, ?_, ?_⟩, fun b hb => ?_, fun i b hi hb => ?_, fun i b hi hb => ?_⟩
  · refine Rf.touch t5 (hv3.fr.congr fun i hi j => old i j hi) (fun i b hi hb => ?_)
    rw [old i 1 hi, old i 2 hi] at hb
    rcases hb with hb | hb
    · have := (h.ll i b hi hb).1; simpa using this
    · have := (h.oo i b hi hb).1; simpa using this
  · rw [addV_new]; rfl
  · rw [addV_new]
    refine (hq.touch t4 (by simp)).touch t5 (fun b hb => ?_)
    have := (hx b hb).1; simpa using this
  · rw [addV_new]; exact Qu.nil _ _ _
  · have := na' b hb
    exact ⟨by omega, fun hm => by have := hB b hm; omega⟩
  · by_cases e : i = S.length
    · subst e
      rw [addV_new] at hb
      have hb : lv.ownBlock = some b := hb
      obtain ⟨p1, p2, p3⟩ := hx b hb
      refine ⟨p1, p2, fun e => ?_, fun j hj => ?_⟩
      · have := na' b e; have := hlv2 b hb; omega
      · by_cases ej : j = S.length
        · subst ej
          refine ⟨?_, fun hne => absurd rfl hne⟩
          rw [addV_new]; intro hc; cases hc
        · have hj' : j < S.length := by simp at hj; omega
          rw [old j 1 hj', old j 2 hj']
          exact ⟨(p3 j hj').2, fun _ => (p3 j hj').1⟩
    · have hi' : i < S.length := by simp at hi; omega
      rw [old i 1 hi'] at hb
      obtain ⟨p1, p2, p3, p4⟩ := h.ll i b hi' hb
      have hbl := (h.fr.lt i b hi' (.inl hb)).2
      refine ⟨p1, p2, fun e => by have := na' b e; omega, fun j hj => ?_⟩
      by_cases ej : j = S.length
      · subst ej
        rw [addV_new, addV_new]
        refine ⟨fun hc => (by cases hc), fun _ hc => ?_⟩
        have hc : lv.ownBlock = some b := hc
        exact ((hx b hc).2.2 i hi').1 hb
      · have hj' : j < S.length := by simp at hj; omega
        rw [old j 1 hj', old j 2 hj']
        exact p4 j hj'
  · by_cases e : i = S.length
    · subst e
      rw [addV_new] at hb
      cases hb
    · have hi' : i < S.length := by simp at hi; omega
      rw [old i 2 hi'] at hb
      obtain ⟨p1, p2, p3⟩ := h.oo i b hi' hb
      have hbl := (h.fr.lt i b hi' (.inr hb)).2
      exact ⟨p1, p2, fun e => by have := na' b e; omega⟩
end Go.Proofs.YtjfnoondkgjabaaGreatDoor
