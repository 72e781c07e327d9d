/-
  The program's stack, by the list of its frames.
-/
import Derived.Test.YtjfnoondkgjabaaDoorT14
set_option linter.unusedVariables false
namespace Go.Proofs.YtjfnoondkgjabaaDoor
open Go.RowKit Go.BigFrame

/-- What each call answers, and what it leaves. -/
def pushM (sz : Nat) (x : Int) : List Frm → Int × List Frm
  | [] => (0, [])
  | F :: r => if topS (F :: r) < sz then (0, {F with ops := F.ops ++ [x]} :: r) else (41, F :: r)
def popM : List Frm → Int × Int × List Frm
  | [] => (0, 0, [])
  | F :: r => if F.ops.length = 0 then (0, 4, F :: r) else (F.ops.getD (F.ops.length - 1) 0, 0, {F with ops := F.ops.take (F.ops.length - 1)} :: r)
def callM (sz : Nat) (back pa lc : Int) : List Frm → Int × List Frm
  | [] => (0, [])
  | F :: r => if pa < 0 ∨ lc < pa then (1, F :: r) else if (F.ops.length : Int) < pa then (4, F :: r) else if (sz : Int) < topS (F :: r) + (lc - pa) + 2 then (41, F :: r)
      else (0, ⟨back, F.ops.drop (F.ops.length - pa.toNat) ++ List.replicate (lc.toNat - pa.toNat) 0, []⟩ :: {F with ops := F.ops.take (F.ops.length - pa.toNat)} :: r)
def retM : List Frm → Int × Bool × List Frm
  | F :: G :: r => (F.back, true, G :: r)
  | S => (0, false, S)
def setM (i x : Int) : List Frm → Bool × List Frm
  | [] => (false, [])
  | F :: r => if i < 0 ∨ (F.loc.length : Int) ≤ i then (false, F :: r) else (true, {F with loc := F.loc.set i.toNat x} :: r)
def topM (i : Int) : List Frm → Int × Bool
  | [] => (0, false)
  | F :: r => if i < 0 ∨ (F.ops.length : Int) ≤ i then (0, false) else (F.ops.getD (F.ops.length - 1 - i.toNat) 0, true)
def locM (i : Int) : List Frm → Int × Bool
  | [] => (0, false)
  | F :: r => if i < 0 ∨ (F.loc.length : Int) ≤ i then (0, false) else (F.loc.getD i.toNat 0, true)
/-- Outside of its own place nothing is turned. -/
def Agr (at' sz : Nat) (f f' : Nat → Int) : Prop := ∀ j, (j < at' ∨ at' + sz ≤ j) → f' j = f j
theorem Agr.refl (at' sz : Nat) (f : Nat → Int) : Agr at' sz f f := fun _ _ => rfl
theorem Agr.upd (at' sz : Nat) (f : Nat → Int) (j : Nat) (x : Int) (h : at' ≤ j ∧ j < at' + sz) : Agr at' sz f (upd f j x) := fun i hi => upd_ne _ _ _ _ (by omega)
theorem Agr.call (at' sz : Nat) (f : Nat → Int) (T p l : Nat) (b c : Int) (h1 : p ≤ l) (h2 : p ≤ T) (h3 : T - p + l + 2 ≤ sz) : Agr at' sz f (callG f at' T p l b c) := fun i hi => by
  unfold callG
  rw [upd_ne _ _ _ _ (by omega), upd_ne _ _ _ _ (by omega)]; unfold clr; rw [if_neg (by omega)]
/-- The same, told of the words. -/
def KsF (w : World) (k sb g : Nat) (f : Nat → Int) (N at' sz : Nat) (S : List Frm) : Prop := Kv w k sb g f N (S.length - 1) (baseS S) (locS S) (topS S) at' sz ∧ Lay f at' S
def KsP (k sb g N at' sz : Nat) (f : Nat → Int) (S : List Frm) (r : Value) (w : World) (e : Ending) (w' : World) : Prop := e = .returned r ∧ (∃ f', KsF w' k sb g f' N at' sz S ∧ Agr at' sz f f') ∧ Touch [k, g] w w'
theorem KsF.still {w w' : World} {k sb g N at' sz : Nat} {f : Nat → Int} {S : List Frm} (h : KsF w k sb g f N at' sz S) (ht : Touch [] w w') : KsF w' k sb g f N at' sz S := ⟨h.1.still ht, h.2⟩
theorem two_top : ∀ (F : Frm) (r : List Frm), 2 * r.length ≤ topS (F :: r)
  | F, [] => by simp
  | F, G :: r => by have := two_top G r; show 2 * (r.length + 1) ≤ topS (G :: r) + F.loc.length + 2 + F.ops.length; omega
theorem base_loc (F : Frm) (r : List Frm) : baseS (F :: r) + locS (F :: r) ≤ topS (F :: r) := by
  cases r with
  | nil => exact Nat.zero_le _
  | cons G r => show topS (G :: r) + F.loc.length ≤ topS (G :: r) + F.loc.length + 2 + F.ops.length; omega
section
variable (k sb g : Nat) (f : Nat → Int) (N at' sz : Nat) (F : Frm) (r : List Frm) (w : World)
theorem push_m (x : Int) (h : KsF w k sb g f N at' sz (F :: r)) : Calls Tryd.prog 20 #[.pointer (some ⟨k, 0, none⟩), .int .i64 x] w (KsP k sb g N at' sz f (pushM sz x (F :: r)).2 (.int .i64 (pushM sz x (F :: r)).1) w) := by
  obtain ⟨h, hl⟩ := h
  have hs := h.tps
  simp only [pushM]
  by_cases hr : topS (F :: r) < sz
  · rw [if_pos hr]
    refine (push_yes k sb g f N _ _ _ _ at' sz w x h hr).mono ?_
    rintro e w' ⟨rfl, hk, ht⟩
    obtain ⟨e1, e2, e3⟩ := topS_with F r (F.ops ++ [x])
    refine ⟨rfl, ⟨_, ⟨?_, hl.push x⟩, Agr.upd _ _ _ _ _ (by omega)⟩, ht⟩
    rw [e1, e2, e3, List.length_append, show opsAt (F :: r) + (F.ops.length + [x].length) = topS (F :: r) + 1 from by rw [topS_ops]; rfl]
    exact hk
  · rw [if_neg hr]
    refine (push_no k sb g f N _ _ _ _ at' sz w x h (by omega)).mono ?_
    rintro e w' ⟨rfl, ht⟩
    exact ⟨rfl, ⟨f, ⟨h.still ht, hl⟩, Agr.refl _ _ _⟩, ht.mono (by simp)⟩
theorem pop_m (h : KsF w k sb g f N at' sz (F :: r)) : Calls Tryd.prog 41 #[.pointer (some ⟨k, 0, none⟩)] w (KsP k sb g N at' sz f (popM (F :: r)).2.2 (.tuple #[.int .i64 (popM (F :: r)).1, .int .i64 (popM (F :: r)).2.1]) w) := by
  obtain ⟨h, hl⟩ := h
  have ho := topS_ops F r
  have hfl := flo_ops F r
  simp only [popM]
  by_cases hr : F.ops.length = 0
  · rw [if_pos hr]
    refine (pop_no k sb g f N _ _ _ _ at' sz w h (by rw [List.length_cons, Nat.add_sub_cancel, hfl]; omega)).mono ?_
    rintro e w' ⟨rfl, ht⟩
    exact ⟨rfl, ⟨f, ⟨h.still ht, hl⟩, Agr.refl _ _ _⟩, ht.mono (by simp)⟩
  · rw [if_neg hr]
    refine (pop_yes k sb g f N _ _ _ _ at' sz w h (by rw [List.length_cons, Nat.add_sub_cancel, hfl]; omega)).mono ?_
    rintro e w' ⟨rfl, hk, ht⟩
    have hv := hl.ops (F.ops.length - 1) (by omega)
    rw [show at' + opsAt (F :: r) + (F.ops.length - 1) = at' + topS (F :: r) - 1 from by omega] at hv
    obtain ⟨e1, e2, e3⟩ := topS_with F r (F.ops.take (F.ops.length - 1))
    refine ⟨by rw [hv], ⟨f, ⟨?_, hl.take _⟩, Agr.refl _ _ _⟩, ht⟩
    rw [e1, e2, e3, List.length_take, show opsAt (F :: r) + min (F.ops.length - 1) F.ops.length = topS (F :: r) - 1 from by omega]
    exact hk
theorem call_m (back pa lc : Int) (hlc : lc ≤ 9223372036854775807) (h : KsF w k sb g f N at' sz (F :: r)) : Calls Tryd.prog 15 #[.pointer (some ⟨k, 0, none⟩), .int .i64 back, .int .i64 pa, .int .i64 lc] w (KsP k sb g N at' sz f (callM sz back pa lc (F :: r)).2 (.int .i64 (callM sz back pa lc (F :: r)).1) w) := by
  have h0 := h
  obtain ⟨h, hl⟩ := h
  have ho := topS_ops F r
  have hfl := flo_ops F r
  have hs := h.tps
  have hb := h.big
  have hi := h.fit
  have h2 := two_top F r
  have hbl := base_loc F r
  have hlen : (F :: r).length - 1 = r.length := by rw [List.length_cons, Nat.add_sub_cancel]
  simp only [callM]
  by_cases c1 : pa < 0 ∨ lc < pa
  · rw [if_pos c1]
    by_cases c0 : pa < 0
    · refine (call_arg0 k w back pa lc c0).mono ?_
      rintro e w' ⟨rfl, rfl⟩
      exact ⟨rfl, ⟨f, h0, Agr.refl _ _ _⟩, Touch.refl _ _⟩
    · refine (call_arg1 k w back pa lc c0 (by omega)).mono ?_
      rintro e w' ⟨rfl, rfl⟩
      exact ⟨rfl, ⟨f, h0, Agr.refl _ _ _⟩, Touch.refl _ _⟩
  · rw [if_neg c1]
    obtain ⟨p, rfl⟩ : ∃ p : Nat, pa = p := ⟨pa.toNat, by omega⟩
    obtain ⟨l, rfl⟩ : ∃ l : Nat, lc = l := ⟨lc.toNat, by omega⟩
    by_cases c2 : (F.ops.length : Int) < p
    · rw [if_pos c2]
      refine (call_few k sb g f N _ _ _ _ at' sz w h (by rw [hlen, hfl]; omega) back p l (by omega) (by rw [hlen, hfl]; omega)).mono ?_
      rintro e w' ⟨rfl, ht⟩
      exact ⟨rfl, ⟨f, ⟨h.still ht, hl⟩, Agr.refl _ _ _⟩, ht.mono (by simp)⟩
    · rw [if_neg c2]
      by_cases c3 : (sz : Int) < topS (F :: r) + ((l : Int) - p) + 2
      · rw [if_pos c3]
        refine (call_full k sb g f N _ _ _ _ at' sz w back p l h (by rw [hlen, hfl]; omega) (by omega) (by rw [hlen, hfl]; omega) (by omega) (by omega)).mono ?_
        rintro e w' ⟨rfl, ht⟩
        exact ⟨rfl, ⟨f, ⟨h.still ht, hl⟩, Agr.refl _ _ _⟩, ht.mono (by simp)⟩
      · rw [if_neg c3]
        refine (callG_yes k sb g f N _ _ _ _ at' sz w back p l h (by omega) (by rw [hlen, hfl]; omega) (by omega) (by omega) (by omega) (by omega)).mono ?_
        rintro e w' ⟨rfl, hk, ht⟩
        refine ⟨rfl, ⟨_, ⟨?_, hl.call back p l (by omega) (by omega)⟩, Agr.call _ _ _ _ _ _ _ _ (by omega) (by omega) (by omega)⟩, ht⟩
        obtain ⟨e1, e2, e3⟩ := topS_with F r (F.ops.take (F.ops.length - p))
        have hd : (F.ops.drop (F.ops.length - p) ++ List.replicate (l - p) (0 : Int)).length = l := by rw [List.length_append, List.length_drop, List.length_replicate]; omega
        rw [hlen] at hk
        have q1 : baseS (⟨back, F.ops.drop (F.ops.length - p) ++ List.replicate (l - p) 0, []⟩ :: {F with ops := F.ops.take (F.ops.length - p)} :: r) = topS (F :: r) - p := by
          show topS ({F with ops := F.ops.take (F.ops.length - p)} :: r) = _
          rw [e1, List.length_take]; omega
        have q2 : locS (⟨back, F.ops.drop (F.ops.length - p) ++ List.replicate (l - p) 0, []⟩ :: {F with ops := F.ops.take (F.ops.length - p)} :: r) = l := hd
        have q3 : topS (⟨back, F.ops.drop (F.ops.length - p) ++ List.replicate (l - p) 0, []⟩ :: {F with ops := F.ops.take (F.ops.length - p)} :: r) = topS (F :: r) - p + l + 2 := by
          show topS ({F with ops := F.ops.take (F.ops.length - p)} :: r) + (F.ops.drop (F.ops.length - p) ++ List.replicate (l - p) (0 : Int)).length + 2 + 0 = _
          rw [hd, e1, List.length_take]; omega
        rw [Int.toNat_natCast, Int.toNat_natCast, q1, q2, q3]
        exact hk
theorem ret_m (h : KsF w k sb g f N at' sz (F :: r)) : Calls Tryd.prog 45 #[.pointer (some ⟨k, 0, none⟩)] w (KsP k sb g N at' sz f (retM (F :: r)).2.2 (.tuple #[.int .i64 (retM (F :: r)).1, .bool (retM (F :: r)).2.1]) w) := by
  have h0 := h
  obtain ⟨h, hl⟩ := h
  have hs := h.tps
  have hb := h.big
  have hi := h.fit
  cases r with
  | nil =>
    refine (ret_no k sb g f N _ _ _ at' sz w h).mono ?_
    rintro e w' ⟨rfl, rfl⟩
    exact ⟨rfl, ⟨f, h0, Agr.refl _ _ _⟩, Touch.refl _ _⟩
  | cons G r =>
    have h2 := two_top G r
    have hbl := base_loc G r
    have hle : topS (G :: r) + F.loc.length + 2 ≤ topS (F :: G :: r) := Nat.le_add_right _ _
    refine (retG_yes k sb g f N r.length (topS (G :: r)) F.loc.length (baseS (G :: r)) (locS (G :: r)) _ at' sz w h hl.2.2.2.1 hle (by omega) (by omega) (by omega)).mono ?_
    rintro e w' ⟨rfl, hk, ht⟩
    exact ⟨by rw [hl.2.2.1]; rfl, ⟨f, ⟨hk, hl.ret⟩, Agr.refl _ _ _⟩, ht⟩
theorem set_m (i x : Int) (h : KsF w k sb g f N at' sz (F :: r)) : Calls Tryd.prog 44 #[.pointer (some ⟨k, 0, none⟩), .int .i64 i, .int .i64 x] w (KsP k sb g N at' sz f (setM i x (F :: r)).2 (.bool (setM i x (F :: r)).1) w) := by
  obtain ⟨h, hl⟩ := h
  have hs := h.tps
  have hb := h.big
  have hi := h.fit
  have hbl := base_loc F r
  have hlo := hl.locLen
  simp only [setM]
  by_cases c : i < 0 ∨ (F.loc.length : Int) ≤ i
  · rw [if_pos c]
    refine (set_no k sb g f N _ _ _ _ at' sz w i x h (.inr (by rw [hlo]; exact c))).mono ?_
    rintro e w' ⟨rfl, ht⟩
    exact ⟨rfl, ⟨f, ⟨h.still ht, hl⟩, Agr.refl _ _ _⟩, ht.mono (by simp)⟩
  · rw [if_neg c]
    obtain ⟨p, rfl⟩ : ∃ p : Nat, i = p := ⟨i.toNat, by omega⟩
    obtain ⟨hr, _⟩ := hl.loc p (by omega)
    obtain ⟨G, r', rfl⟩ : ∃ G r', r = G :: r' := by
      cases r with
      | nil => exact absurd rfl hr
      | cons G r' => exact ⟨G, r', rfl⟩
    refine (set_yes k sb g f N _ _ _ _ at' sz w p x h (by simp) (by omega) (by omega)).mono ?_
    rintro e w' ⟨rfl, hk, ht⟩
    refine ⟨rfl, ⟨_, ⟨?_, hl.setL p (by omega) x⟩, Agr.upd _ _ _ _ _ (by omega)⟩, ht⟩
    rw [Int.toNat_natCast]
    have q : topS ({F with loc := F.loc.set p x} :: G :: r') = topS (F :: G :: r') := by show topS (G :: r') + (F.loc.set p x).length + 2 + F.ops.length = _; rw [List.length_set]; rfl
    have q2 : locS ({F with loc := F.loc.set p x} :: G :: r') = locS (F :: G :: r') := by show (F.loc.set p x).length = _; rw [List.length_set]; rfl
    show Kv _ _ _ _ _ _ ((F :: G :: r').length - 1) (baseS (F :: G :: r')) (locS ({F with loc := F.loc.set p x} :: G :: r')) (topS ({F with loc := F.loc.set p x} :: G :: r')) _ _
    rw [q, q2]
    exact hk
theorem top_m (i : Int) (h : KsF w k sb g f N at' sz (F :: r)) : Calls Tryd.prog 16 #[.pointer (some ⟨k, 0, none⟩), .int .i64 i] w fun e w' => e = .returned (.tuple #[.int .i64 (topM i (F :: r)).1, .bool (topM i (F :: r)).2]) ∧ Touch [] w w' := by
  obtain ⟨h, hl⟩ := h
  have ho := topS_ops F r
  have hfl := flo_ops F r
  have hlen : (F :: r).length - 1 = r.length := by rw [List.length_cons, Nat.add_sub_cancel]
  simp only [topM]
  by_cases c : i < 0 ∨ (F.ops.length : Int) ≤ i
  · rw [if_pos c]
    refine topG_no k sb g f N _ _ _ _ at' sz w i h (by rw [hlen, hfl]; omega) ?_
    rw [hlen, hfl]; omega
  · rw [if_neg c]
    obtain ⟨p, rfl⟩ : ∃ p : Nat, i = p := ⟨i.toNat, by omega⟩
    have hv := hl.ops (F.ops.length - 1 - p) (by omega)
    rw [show at' + opsAt (F :: r) + (F.ops.length - 1 - p) = at' + topS (F :: r) - 1 - p from by omega] at hv
    rw [Int.toNat_natCast, ← hv]
    exact top_yes k sb g f N _ _ _ _ at' sz w p h (by rw [hlen, hfl]; omega) (by rw [hlen, hfl]; omega)
theorem loc_m (i : Int) (h : KsF w k sb g f N at' sz (F :: r)) : Calls Tryd.prog 43 #[.pointer (some ⟨k, 0, none⟩), .int .i64 i] w fun e w' => e = .returned (.tuple #[.int .i64 (locM i (F :: r)).1, .bool (locM i (F :: r)).2]) ∧ Touch [] w w' := by
  obtain ⟨h, hl⟩ := h
  have hs := h.tps
  have hb := h.big
  have hi := h.fit
  have hbl := base_loc F r
  have hlo := hl.locLen
  simp only [locM]
  by_cases c : i < 0 ∨ (F.loc.length : Int) ≤ i
  · rw [if_pos c]
    refine (local_no k sb g f N _ _ _ _ at' sz w i h (.inr (by rw [hlo]; exact c))).mono ?_
    rintro e w' ⟨rfl, rfl⟩
    exact ⟨rfl, Touch.refl _ _⟩
  · rw [if_neg c]
    obtain ⟨p, rfl⟩ : ∃ p : Nat, i = p := ⟨i.toNat, by omega⟩
    obtain ⟨hr, hv⟩ := hl.loc p (by omega)
    obtain ⟨G, r', rfl⟩ : ∃ G r', r = G :: r' := by
      cases r with
      | nil => exact absurd rfl hr
      | cons G r' => exact ⟨G, r', rfl⟩
    rw [Int.toNat_natCast, ← hv]
    exact local_yes k sb g f N _ _ _ at' sz w _ p h (by simp) (by omega) (by omega)
theorem frames_m (h : KsF w k sb g f N at' sz (F :: r)) : Calls Tryd.prog 12 #[.pointer (some ⟨k, 0, none⟩)] w fun e w' => e = .returned (.int .i64 (r.length : Nat)) ∧ w = w' := by
  obtain ⟨h, hl⟩ := h
  exact frames_q k sb g f N _ _ _ _ at' sz w h
theorem operands_m (h : KsF w k sb g f N at' sz (F :: r)) : Calls Tryd.prog 31 #[.pointer (some ⟨k, 0, none⟩)] w fun e w' => e = .returned (.int .i64 (F.ops.length : Nat)) ∧ Touch [] w w' := by
  obtain ⟨h, hl⟩ := h
  have ho := topS_ops F r
  have hfl := flo_ops F r
  have hlen : (F :: r).length - 1 = r.length := by rw [List.length_cons, Nat.add_sub_cancel]
  have := operands_q k sb g f N _ _ _ _ at' sz w h (by rw [hlen, hfl]; omega)
  rw [hlen, hfl, show topS (F :: r) - opsAt (F :: r) = F.ops.length from by omega] at this
  exact this
end
end Go.Proofs.YtjfnoondkgjabaaDoor
