/-
  Critical regions: RegionOne.
-/
import Derived.Test.YtbbjnojipfnkoaaG
import Derived.Deep.CutRange
set_option linter.unusedVariables false
namespace Go.Proofs.Ytbbjnojipfnkoaa
open Go.RowKit

def occL (o : Int) : List Int := if o = 0 then [] else [o]
theorem occL_ne {o : Int} (h : o ≠ 0) : occL o = [o] := if_neg h
theorem occL_zero : occL 0 = [] := rfl
/-- Who is there, and where. -/
structure OneI (j : Nat) (o : Int) (es ws ths : List Int) : Prop where
  perm : (es ++ ws ++ occL o).Perm ths
  nodup : ths.Nodup
  bd : ∀ x, x ∈ ths → 1 ≤ x ∧ x ≤ (j : Int)
  empty : o = 0 → es = []
  pos : 0 ≤ o
theorem OneI.start : OneI 0 0 [] [] [] := ⟨.refl _, .nil, fun x h => by simp at h, fun _ => rfl, Int.le_refl _⟩
theorem OneI.mem {j : Nat} {o : Int} {es ws ths : List Int} (h : OneI j o es ws ths) {x : Int} (hx : x ∈ es ++ ws) : 1 ≤ x ∧ x ≤ (j : Int) := h.bd x (h.perm.mem_iff.1 (List.mem_append_left _ hx))
theorem OneI.out {j : Nat} {o : Int} {es ws ths : List Int} (h : OneI j o es ws ths) : o ∉ es ++ ws := fun hm => by
  have h1 := h.mem hm
  have h2 := (h.perm.nodup_iff.2 h.nodup)
  rw [List.nodup_append] at h2
  exact h2.2.2 o hm o (by unfold occL; rw [if_neg (by omega)]; simp) rfl
theorem OneI.len {j : Nat} {o : Int} {es ws ths : List Int} (h : OneI j o es ws ths) : (es ++ ws ++ occL o).length = ths.length := h.perm.length_eq
theorem nodup_le : ∀ (n : Nat) (l : List Int), l.Nodup → (∀ x, x ∈ l → 1 ≤ x ∧ x ≤ (n : Int)) → l.length ≤ n
  | 0, l, _, hb => by
    cases l with
    | nil => simp
    | cons x xs => have := hb x (by simp); omega
  | n + 1, l, hn, hb => by
    have h1 : (l.erase ((n : Int) + 1)).length ≤ n := nodup_le n _ (hn.erase _) (fun x hx => by
      have h2 := (hn.mem_erase_iff.1 hx)
      have := hb x h2.2
      have := h2.1
      omega)
    by_cases hm : ((n : Int) + 1) ∈ l
    · have := List.length_erase_of_mem hm; omega
    · rw [List.erase_of_not_mem hm] at h1; omega
theorem OneI.few {j : Nat} {o : Int} {es ws ths : List Int} (h : OneI j o es ws ths) : ths.length ≤ j ∧ es.length + ws.length ≤ j := by
  have h1 := nodup_le j ths h.nodup h.bd
  have h2 := h.len
  simp at h2
  omega
theorem OneI.new {j : Nat} {o : Int} {es ws ths : List Int} (h : OneI j o es ws ths) : (ths ++ [(j : Int) + 1]).Nodup ∧ ∀ x, x ∈ ths ++ [(j : Int) + 1] → 1 ≤ x ∧ x ≤ ((j + 1 : Nat) : Int) := by
  refine ⟨?_, fun x hx => ?_⟩
  · rw [List.nodup_append]
    refine ⟨h.nodup, by simp, fun a ha b hb => ?_⟩
    have := (h.bd a ha).2
    simp at hb
    omega
  · rw [List.mem_append] at hx
    rcases hx with hx | hx
    · have := h.bd x hx; omega
    · simp at hx; omega
theorem OneI.enter0 {j : Nat} {es ws ths : List Int} (h : OneI j 0 es ws ths) : OneI (j + 1) ((j : Int) + 1) [] ws (ths ++ [(j : Int) + 1]) := by
  have he := h.empty rfl
  subst he
  refine ⟨?_, h.new.1, h.new.2, fun e => by omega, by omega⟩
  have hp := h.perm
  simp [occL] at hp ⊢
  rw [if_neg (by omega)]
  exact hp.append_right _
theorem OneI.enter1 {j : Nat} {o : Int} {es ws ths : List Int} (h : OneI j o es ws ths) (ho : o ≠ 0) : OneI (j + 1) o (es ++ [(j : Int) + 1]) ws (ths ++ [(j : Int) + 1]) := by
  refine ⟨?_, h.new.1, h.new.2, fun e => absurd e ho, h.pos⟩
  have hp := h.perm.append_right [(j : Int) + 1]
  refine List.Perm.trans ?_ hp
  simp only [List.append_assoc]
  refine List.Perm.append_left _ ?_
  exact List.perm_append_comm.trans (by simp)
theorem OneI.up {j : Nat} {o o' : Int} {es ws ths es' ws' ths' : List Int} (h : OneI j o es ws ths) (hp : (es' ++ ws' ++ occL o').Perm ths') (hn : ths'.Nodup) (hs : ∀ x, x ∈ ths' → x ∈ ths) (he : o' = 0 → es' = []) (h0 : 0 ≤ o') : OneI (j + 1) o' es' ws' ths' :=
  ⟨hp, hn, fun x hx => by have := h.bd x (hs x hx); omega, he, h0⟩
theorem OneI.fail {j : Nat} {o : Int} {es ws ths : List Int} (h : OneI j o es ws ths) (ho : o ≠ 0) : OneI (j + 1) (hd es) es.tail (ws ++ [o]) ths := by
  have hp := h.perm
  unfold occL at hp
  rw [if_neg ho] at hp
  cases es with
  | nil => exact h.up (by simpa [hd, occL] using hp) h.nodup (fun x hx => hx) (fun _ => rfl) (by simp [hd])
  | cons x xs =>
    have hx : 1 ≤ x := (h.mem (x := x) (by simp)).1
    refine h.up ?_ h.nodup (fun y hy => hy) (fun e => by simp [hd] at e; omega) (by simp [hd]; omega)
    show (xs ++ (ws ++ [o]) ++ occL x).Perm ths
    rw [occL_ne (by omega)]
    refine List.Perm.trans ?_ hp
    refine List.Perm.trans (List.perm_append_comm) ?_
    simp
theorem wo_perm {l m : List Int} (h : l.Perm m) (x : Int) : (wo l x).Perm (wo m x) := h.filter _
theorem wo_none {l : List Int} {x : Int} (h : x ∉ l) : wo l x = l := by
  unfold wo
  rw [List.filter_eq_self]
  intro a ha
  simp
  intro e; subst e; exact h ha
theorem OneI.leave {j : Nat} {o : Int} {es ws ths : List Int} (h : OneI j o es ws ths) (ho : o ≠ 0) : OneI (j + 1) (hd (ws ++ es)) (ws ++ es).tail [] (wo ths o) := by
  have hout := h.out
  have hp : (ws ++ es).Perm (wo ths o) := by
    have h1 := wo_perm h.perm o
    refine List.Perm.trans ?_ h1
    have : wo (es ++ ws ++ occL o) o = es ++ ws := by
      unfold occL
      rw [if_neg ho]
      show List.filter _ _ = _
      rw [List.filter_append]
      have e1 := wo_none hout
      unfold wo at e1
      rw [e1]
      simp
    rw [this]
    exact List.perm_append_comm
  have hn : (wo ths o).Nodup := h.nodup.filter _
  have hs : ∀ x, x ∈ wo ths o → x ∈ ths := fun x hx => (List.mem_filter.1 hx).1
  cases hl : ws ++ es with
  | nil => rw [hl] at hp; exact h.up (by simpa [hd, occL] using hp) hn hs (fun _ => rfl) (by simp [hd])
  | cons x xs =>
    rw [hl] at hp
    have hx : 1 ≤ x := (h.mem (x := x) (List.perm_append_comm.mem_iff.1 (by rw [hl]; simp))).1
    refine h.up ?_ hn hs (fun e => by simp [hd] at e; omega) (by simp [hd]; omega)
    show (xs ++ [] ++ occL x).Perm (wo ths o)
    rw [occL_ne (by omega), List.append_nil]
    exact (List.perm_append_comm.trans (by simp)).trans hp

/-- A list of the law's own, apart from the region. -/
def Th0 (w0 w : World) (b : Nat) (v : Value) (o : Int) (es ws ths : List Int) : Prop := ∃ F, Rg 46 w b F o es ws ∧ Qu w 0 3 v (ths.map (Value.int .i64)) ∧ Apt w0 F v.ownBlock.toList w
section
variable {w0 w : World} {b : Nat} {v : Value} {o : Int} {es ws ths : List Int}
theorem Th0.touch {w' : World} (h : Th0 w0 w b v o es ws ths) (ht : Touch [] w w') : Th0 w0 w' b v o es ws ths := by
  obtain ⟨F, h1, h2, h3⟩ := h
  exact ⟨F, h1.still ht, h2.touch ht (fun _ _ => by simp), h3.touch ht⟩
theorem Th0.t (h : Th0 w0 w b v o es ws ths) : Touch [] w0 w := by obtain ⟨F, h1, h2, h3⟩ := h; exact h3.t
theorem Th0.sl (h : Th0 w0 w b v o es ws ths) : Sl w v ths := by obtain ⟨F, h1, h2, h3⟩ := h; exact h2.sl
theorem Th0.form (h : Th0 w0 w b v o es ws ths) : ∃ a c, v = .slice a ths.length c := by obtain ⟨F, h1, h2, h3⟩ := h; exact Qu.form h2
/-- The region has been turned. -/
theorem Th0.turn {w' : World} {F F' : List Nat} {o' : Int} {es' ws' : List Int} (h2 : Qu w 0 3 v (ths.map (Value.int .i64))) (h3 : Apt w0 F v.ownBlock.toList w) (h4 : Rg 46 w' b F' o' es' ws') (h5 : Fr F w F' w') : Th0 w0 w' b v o' es' ws' ths :=
  ⟨F', h4, h2.touch h5.t (fun k hk hf => h3.d k hf (by simp [hk])), h3.one h5⟩
/-- One more in the list. -/
theorem Th0.more (h : Th0 w0 w b v o es ws ths) (x : Int) (hl : ths.length ≤ 1000) :
    ∃ v' w', (∀ ty, (Builtin.append_ #[27, 27] ty #[v, .slice (some ⟨w.heap.size, 0, none⟩) 1 1]).run Try.prog (w.alloc (.cells #[.int .i64 x] 3)) = .ok v' w') ∧ Th0 w0 w' b v' o es ws (ths ++ [x]) := by
  obtain ⟨F, h1, h2, h3⟩ := h
  obtain ⟨v', w', hr, hq, hg, hn⟩ := Qu.appendI (h2.alloc (.cells #[.int .i64 x] 3)) (Nat.zero_le _) (sl_one w x 1) (by simp; omega)
  have ht : Touch v.ownBlock.toList w w' := ((Touch.refl _ w).alloc _).grown hg (fun k hk _ => by simp [hk])
  have hf : Fr v.ownBlock.toList w v'.ownBlock.toList w' := ⟨ht, fun k hk => by
    rcases hn k (by simpa using hk) with e | e
    · exact .inl (by simp [e])
    · simp at e; exact .inr (by omega), fun k hk => (hq.own k (by simpa using hk)).2⟩
  exact ⟨v', w', hr, F, h1.touch ht h3.d, hq, h3.two hf⟩
/-- Another list in its place. -/
theorem Th0.other {w' : World} {v' : Value} {ths' : List Int} (h : Th0 w0 w b v o es ws ths) (hq : Qu w' w.heap.size 3 v' (ths'.map (Value.int .i64))) (ht : Touch [] w w') : Th0 w0 w' b v' o es ws ths' := by
  obtain ⟨F, h1, h2, h3⟩ := h
  have h3' := h3.touch ht
  exact ⟨F, h1.still ht, hq.mono (Nat.zero_le _), ⟨fun k hk hv => by
    have e1 := h3.fl k hk
    have e2 := (hq.own k (by simpa using hv)).1
    omega, h3'.f0, fun k hk => by
    have e2 := (hq.own k (by simpa using hk)).1
    have := h3.t.size
    omega, h3'.fl, fun k hk => (hq.own k (by simpa using hk)).2, h3'.t⟩⟩
theorem t_occ (h : Th0 w0 w b v o es ws ths) : Calls Try.prog 15 #[.pointer (some ⟨b, 0, none⟩)] w fun e w' => e = .returned (.int .i64 o) ∧ w = w' := by
  obtain ⟨F, h, _⟩ := h; exact occ_any b F o es ws w h
theorem t_entry (h : Th0 w0 w b v o es ws ths) (hl : es.length ≤ 1000) : Calls Try.prog 17 #[.pointer (some ⟨b, 0, none⟩)] w (Own es w) := by
  obtain ⟨F, h, _⟩ := h; exact entry_any b F o es ws w h (by omega)
theorem t_waits (h : Th0 w0 w b v o es ws ths) (hl : ws.length ≤ 1000) : Calls Try.prog 18 #[.pointer (some ⟨b, 0, none⟩)] w (Own ws w) := by
  obtain ⟨F, h, _⟩ := h; exact waits_any b F o es ws w h (by omega)
end
/-- What a call leaves of both. -/
def ThP (w0 : World) (b : Nat) (v : Value) (o : Int) (es ws ths : List Int) (r : Value) (e : Ending) (w' : World) : Prop := e = .returned r ∧ Th0 w0 w' b v o es ws ths
section
variable {w0 w : World} {b : Nat} {v : Value} {o : Int} {es ws ths : List Int}
theorem t_enter0 (h : Th0 w0 w b v 0 es ws ths) (p : Int) (hp : 1 ≤ p) : Calls Try.prog 9 #[.pointer (some ⟨b, 0, none⟩), .int .i64 p] w (ThP w0 b v p es ws ths (.bool true)) := by
  obtain ⟨F, h1, h2, h3⟩ := h
  exact (enter_free b F es ws w p hp h1).mono fun e w' ⟨F', he, h4, h5⟩ => ⟨he, Th0.turn h2 h3 h4 h5⟩
theorem t_enter1 (h : Th0 w0 w b v o es ws ths) (p : Int) (hp : 1 ≤ p) (ho : o ≠ 0) (hl : es.length ≤ 1000) : Calls Try.prog 9 #[.pointer (some ⟨b, 0, none⟩), .int .i64 p] w (ThP w0 b v o (es ++ [p]) ws ths (.bool false)) := by
  obtain ⟨F, h1, h2, h3⟩ := h
  exact (enter_full b F o es ws w p hp ho h1 (by omega)).mono fun e w' ⟨F', he, h4, h5⟩ => ⟨he, Th0.turn h2 h3 h4 h5⟩
theorem t_fail (h : Th0 w0 w b v o es ws ths) (hp : 0 < o) (hl : es.length ≤ 1000) (hl2 : ws.length ≤ 1000) : Calls Try.prog 11 #[.pointer (some ⟨b, 0, none⟩), .int .i64 o] w (ThP w0 b v (hd es) es.tail (ws ++ [o]) ths (.tuple #[.int .i64 (hd es), .bool true])) := by
  obtain ⟨F, h1, h2, h3⟩ := h
  exact (fail_yes b F o es ws w h1 hp (by omega) (by omega)).mono fun e w' ⟨F', he, h4, h5⟩ => ⟨he, Th0.turn h2 h3 h4 h5⟩
theorem t_leave (h : Th0 w0 w b v o es ws ths) (hp : 0 < o) (hl : es.length ≤ 1000) (hl2 : ws.length ≤ 1000) : Calls Try.prog 13 #[.pointer (some ⟨b, 0, none⟩), .int .i64 o] w (ThP w0 b v (hd (ws ++ es)) (ws ++ es).tail [] ths (.tuple #[.int .i64 (hd (ws ++ es)), .bool true])) := by
  obtain ⟨F, h1, h2, h3⟩ := h
  exact (leave_yes b F o es ws w h1 hp (by omega) (by omega)).mono fun e w' ⟨F', he, h4, h5⟩ => ⟨he, Th0.turn h2 h3 h4 h5⟩
end

set_option maxRecDepth 100000 in
set_option maxHeartbeats 4000000 in
theorem one_long (v : Value) (zs : List Int) (w : World) (hs : Sl w v zs) (hm : zs.length ≤ maxLen) (h : 120 < zs.length) :
    Calls Try.prog 4 #[v] w fun e w' => e = .returned (.bool true) ∧ Below w.heap.size w w' := by
  obtain ⟨ad, cap, rfl, _⟩ := hs
  unfold maxLen at hm
  obtain ⟨n, hn⟩ : ∃ n, zs.length = n := ⟨_, rfl⟩
  rw [hn] at h hm ⊢
  clear hn
  have d : decide ((120 : Int) < (n : Int)) = true := dT (by omega)
  go_enter Try.func4, Try.ntmps4
  go_wp2_with fail
  refine (awake_any _).mono ?_
  rintro e w1 ⟨rfl, ht⟩
  go_wp2
  go_ret
  exact ⟨rfl, ht.below (Nat.le_refl _) (by simp)⟩

/-- What is so behind the step. -/
def After (w0 w : World) (b j : Nat) (tv : Value) : Prop := ∃ o es ws ths, Th0 w0 w b tv o es ws ths ∧ OneI (j + 1) o es ws ths
set_option maxRecDepth 100000 in
set_option maxHeartbeats 64000000 in
theorem one_in (v : Value) (zs : List Int) (w : World) (hs : Sl w v zs) (hu : ∀ y ∈ zs, InI y) (h : zs.length ≤ 120) :
    Calls Try.prog 4 #[v] w fun e w' => e = .returned (.bool true) ∧ Below w.heap.size w w' := by
  obtain ⟨ad, cap, rfl, hrow⟩ := hs
  have HR := Lib.hid hrow
  have HU := Lib.hid hu
  clear hu
  obtain ⟨L, hL⟩ : ∃ L, zs.length = L := ⟨_, rfl⟩
  have HL := Lib.hid hL
  rw [hL] at h ⊢
  clear hrow hL
  have d : decide ((120 : Int) < (L : Int)) = false := dF (by omega)
  go_enter Try.func4, Try.ntmps4
  go_wp2_with fail
  refine (new_any _).mono ?_
  rintro e w1 ⟨b, rfl, h1, hb, ht⟩
  have HB0 : Hid (Th0 w (w1.alloc (.cells #[] 3)) b (.slice (some ⟨w1.heap.size, 0, none⟩) 0 0) 0 [] [] []) := Lib.hid (by
    have hl := h1.lt b (by simp)
    have hsz := ht.size
    refine ⟨[b], h1.still ((Touch.refl _ _).alloc _), Qu.made (n := 0) (c := #[]) rfl (Nat.zero_le _) rfl (Nat.zero_le _), ⟨?_, ?_, ?_, ?_, ?_, ht.alloc _⟩⟩
    · intro k hk hk2; simp [Value.ownBlock] at hk hk2; omega
    · intro k hk; simp at hk; omega
    · intro k hk; simp [Value.ownBlock] at hk; omega
    · intro k hk; simp at hk ⊢; omega
    · intro k hk; simp [Value.ownBlock] at hk ⊢; omega)
  clear h1 hb ht
  go_wp2_with fail
  go_loopw [4, 5] (fun tv i wr => ∃ (j : Nat) (o : Int) (es ws ths : List Int), j ≤ L ∧ i = .int .i64 j ∧ Th0 w wr b tv o es ws ths ∧ OneI j o es ws ths) (fun _ i _ => L + 1 - (intOf i).toNat)
  case atStart => exact ⟨0, 0, [], [], [], by omega, rfl, HB0.out, OneI.start⟩
  case round =>
    obtain ⟨j, o, es, ws, ths, hj, rfl, hth, hi⟩ := hrel
    have H := Lib.hid hth
    have HI := Lib.hid hi
    have hfew := hi.few
    clear hth hi
    by_cases hjn : j < L
    · have hlt : (j : Int) < (L : Int) := by omega
      have HZR := HR.out
      rcases HZR with h | ⟨lg, loff, rfl, hlg, hrow⟩
      · exfalso; have := HL.out; rw [h] at this; simp at this; omega
      have HX : Hid (∀ w', Touch [] w w' → w'.cell? ⟨lg, loff + j, none⟩ = some (.int .i64 (zs.getD j 0))) := Lib.hid (fun w' ht => hrow.touch ht hlg (by simp) j (by rw [HL.out]; exact hjn))
      have HZ : Hid (InI (zs.getD j 0)) := Lib.hid (HU.out _ (by rw [List.getD_eq_getElem?_getD, List.getElem?_eq_getElem (by rw [HL.out]; exact hjn)]; simp))
      obtain ⟨z, hz⟩ : ∃ z, zs.getD j 0 = z := ⟨_, rfl⟩
      rw [hz] at HX HZ
      clear hz hrow
      have c0 := HX.out _ H.out.t
      have hzi : InI z := HZ.out
      unfold InI at hzi
      obtain ⟨z1, z2⟩ := hzi
      obtain ⟨tha, thc, hv⟩ := H.out.form
      subst hv
      have hpos := HI.out.pos
      go_upto_block 2 with (go_at_call 15; refine (t_occ H.out).mono ?_; rintro e v0 ⟨rfl, rfl⟩)
      go_cut [4] from 19 to 134 (fun tv wx => After w wx b j tv)
      case first =>
        by_cases m0 : z.tmod 3 = 0
        · have m0b : (z.tmod 3 == 0) = true := beqT m0
          clear m0
          by_cases hz : o = 0
          · subst hz
            have o0 : ((0 : Int) == 0) = true := rfl
            go_wp2_with fail
            refine (t_enter0 H.out ((j : Int) + 1) (by omega)).mono ?_
            rintro e wE ⟨rfl, h1⟩
            have hi := HI.out.enter0
            have he := HI.out.empty rfl
            subst he
            obtain ⟨tv2, w2, hr0, h2⟩ := Th0.more h1 ((j : Int) + 1) (by omega)
            have HR : Hid (After w w2 b j tv2) := Lib.hid ⟨_, _, _, _, h2, hi⟩
            obtain ⟨tha2, thc2, hv2⟩ := h2.form
            rw [List.length_append, List.length_singleton] at hv2
            subst hv2
            clear h1 h2 hi
            go_wp2_with (at_builtin; refine Lib.wpList_append_run _ rfl _ _ _ _ rfl _ _ rfl rfl _ _ (hr0 _) ?_)
            go_meet
            case rel => exact HR.out
          · have o0 : (o == 0) = false := beqF hz
            have HO := Lib.hid hz
            clear hz
            go_wp2_with fail
            refine (t_enter1 H.out ((j : Int) + 1) (by omega) HO.out (by omega)).mono ?_
            rintro e wE ⟨rfl, h1⟩
            have hi := HI.out.enter1 HO.out
            obtain ⟨tv2, w2, hr0, h2⟩ := Th0.more h1 ((j : Int) + 1) (by omega)
            have HR : Hid (After w w2 b j tv2) := Lib.hid ⟨_, _, _, _, h2, hi⟩
            obtain ⟨tha2, thc2, hv2⟩ := h2.form
            rw [List.length_append, List.length_singleton] at hv2
            subst hv2
            clear h1 h2 hi
            go_wp2_with (at_builtin; refine Lib.wpList_append_run _ rfl _ _ _ _ rfl _ _ rfl rfl _ _ (hr0 _) ?_)
            go_meet
            case rel => exact HR.out
        · have m0b : (z.tmod 3 == 0) = false := beqF m0
          clear m0
          by_cases hz : o = 0
          · subst hz
            have o0 : ((0 : Int) == 0) = true := rfl
            go_wp2_with fail
            refine (t_enter0 H.out ((j : Int) + 1) (by omega)).mono ?_
            rintro e wE ⟨rfl, h1⟩
            have hi := HI.out.enter0
            have he := HI.out.empty rfl
            subst he
            obtain ⟨tv2, w2, hr0, h2⟩ := Th0.more h1 ((j : Int) + 1) (by omega)
            have HR : Hid (After w w2 b j tv2) := Lib.hid ⟨_, _, _, _, h2, hi⟩
            obtain ⟨tha2, thc2, hv2⟩ := h2.form
            rw [List.length_append, List.length_singleton] at hv2
            subst hv2
            clear h1 h2 hi
            go_wp2_with (at_builtin; refine Lib.wpList_append_run _ rfl _ _ _ _ rfl _ _ rfl rfl _ _ (hr0 _) ?_)
            go_meet
            case rel => exact HR.out
          · have o0 : (o == 0) = false := beqF hz
            have HO := Lib.hid hz
            clear hz
            by_cases m1 : z.tmod 3 = 1
            · have m1b : (z.tmod 3 == 1) = true := beqT m1
              clear m1
              go_wp2_with fail
              refine (t_fail H.out (by have := HO.out; omega) (by omega) (by omega)).mono ?_
              rintro e wE ⟨rfl, h1⟩
              have HR : Hid (After w wE b j (.slice tha ths.length thc)) := Lib.hid ⟨_, _, _, _, h1, HI.out.fail HO.out⟩
              clear h1
              go_wp2
              go_meet
              case rel => exact HR.out
            · have m1b : (z.tmod 3 == 1) = false := beqF m1
              clear m1
              by_cases m2 : z.tmod 3 = -1
              · have m2b : (z.tmod 3 == -1) = true := beqT m2
                clear m2
                go_wp2_with fail
                refine (t_fail H.out (by have := HO.out; omega) (by omega) (by omega)).mono ?_
                rintro e wE ⟨rfl, h1⟩
                have HR : Hid (After w wE b j (.slice tha ths.length thc)) := Lib.hid ⟨_, _, _, _, h1, HI.out.fail HO.out⟩
                clear h1
                go_wp2
                go_meet
                case rel => exact HR.out
              · have m2b : (z.tmod 3 == -1) = false := beqF m2
                clear m2
                go_wp2_with fail
                refine (t_leave H.out (by have := HO.out; omega) (by omega) (by omega)).mono ?_
                rintro e wE ⟨rfl, h1⟩
                have H1 := Lib.hid h1
                clear h1
                go_wp2_with fail
                refine (without_any _ ths o _ H1.out.sl (by omega)).mono ?_
                rintro e wF ⟨tv2, rfl, hq, ht⟩
                have HR : Hid (After w wF b j tv2) := Lib.hid ⟨_, _, _, _, H1.out.other hq ht, HI.out.leave HO.out⟩
                clear hq ht
                go_wp2
                go_meet
                case rel => exact HR.out
      case rest =>
        obtain ⟨o, es, ws, ths, h1, h2⟩ := hcut
        obtain ⟨tha, thc, hv⟩ := h1.form
        obtain ⟨tn, htn⟩ : ∃ tn, ths.length = tn := ⟨_, rfl⟩
        rw [htn] at hv
        subst hv
        have HTN := Lib.hid htn
        have H := Lib.hid h1
        have HI := Lib.hid h2
        have b0 := h2.few
        obtain ⟨b1, b23⟩ := b0
        have b2 : es.length ≤ 121 := by omega
        have b3 : ws.length ≤ 121 := by omega
        have b1 : tn ≤ 121 := by omega
        clear h1 h2 htn b23
        go_wp2_with fail
        by_cases hz : o = 0
        · subst hz
          have o0 : ((0 : Int) == 0) = true := rfl
          have H0 := H
          refine (t_entry H.out (by omega)).mono ?_
          rintro e v1 ⟨ve, rfl, hq, ht⟩
          have HE := Lib.hid hq
          have HT1 := Lib.hid ht
          have H := Lib.hid (H.out.touch ht)
          obtain ⟨ea, ec, rfl⟩ := Qu.form hq
          clear hq ht
          go_wp2_with fail
          refine (t_waits H.out (by omega)).mono ?_
          rintro e v2 ⟨vw, rfl, hq, ht⟩
          obtain ⟨va, v3, hr, hq3, hg, hn⟩ := Qu.appendI (HE.out.touch ht (fun _ _ => by simp)) (by have := HT1.out.size; have := ht.size; omega) hq.sl (by omega)
          obtain ⟨qa, qc, rfl⟩ := Qu.form hq
          obtain ⟨aa, ac, hv⟩ := Qu.form hq3
          obtain ⟨an, han⟩ : ∃ an, (es ++ ws).length = an := ⟨_, rfl⟩
          rw [han] at hv
          subst hv
          have HAN := Lib.hid han
          have b4 : an ≤ 242 := by rw [← han]; simp; omega
          have HT3 : Hid (Touch [] wc v3) := Lib.hid ((HT1.out.trans ht).grown hg (fun k hk hlt => by have := (HE.out.own k hk).1; omega))
          have HQ3 := Lib.hid hq3
          have H := Lib.hid (H0.out.touch HT3.out)
          clear hq ht hq3 hg hn han
          have HNot := Lib.hid (dF HI.out.out)
          go_wp2_with (at_builtin; refine Lib.wpList_append_run _ rfl _ _ _ _ rfl _ _ rfl rfl _ _ (hr _) ?_)
          refine (t_occ H.out).mono ?_
          rintro e v4 ⟨rfl, rfl⟩
          go_wp2_with fail
          refine (t_entry H.out (by omega)).mono ?_
          rintro e v5 ⟨ve2, rfl, hq, ht⟩
          obtain ⟨ea2, ec2, hv⟩ := Qu.form hq
          rw [show es.length = 0 from by rw [HI.out.empty rfl]; rfl] at hv
          subst hv
          have HQ3 := Lib.hid (HQ3.out.touch ht (fun _ _ => by simp))
          have HT3 := Lib.hid (HT3.out.trans ht)
          have H := Lib.hid (H.out.touch ht)
          clear hq ht
          go_wp2_with fail
          refine (t_occ H.out).mono ?_
          rintro e v4 ⟨rfl, rfl⟩
          go_wp2_with fail
          refine (has_l _ (es ++ ws) _ _ HQ3.out.sl (by have := HAN.out; omega)).mono ?_
          rintro e v4 ⟨rfl, rfl⟩
          rw [HNot.out]
          go_wp2_with fail
          refine (t_occ H.out).mono ?_
          rintro e v4 ⟨rfl, rfl⟩
          have HAL : Hid ((es ++ ws).length = tn) := Lib.hid (by have h1 := HI.out.len; rw [occL_zero, List.append_nil] at h1; rw [h1]; exact HTN.out)
          have HSA := Lib.hid HQ3.out.sl
          have PM : Hid (∀ x, x ∈ ths → x ∈ es ++ ws) := Lib.hid (fun x hx => by have h1 := HI.out.perm; rw [occL_zero, List.append_nil] at h1; exact h1.mem_iff.2 hx)
          obtain rfl : an = tn := HAN.out.symm.trans HAL.out
          go_wp2_with fail
          go_loop [12] (fun k => ∃ q : Nat, q ≤ an ∧ k = .int .i64 q) (fun k => an + 1 - (intOf k).toNat)
          case atStart => exact ⟨0, by omega, rfl⟩
          case round =>
            obtain ⟨q, hq, rfl⟩ := hrel
            by_cases hqn : q < an
            · have hlt : (q : Int) < (an : Int) := by omega
              have hsl := H.out.sl
              obtain ⟨ta, tc, hv, hrow⟩ := hsl
              cases hv
              rcases hrow with h | ⟨tg, toff, rfl, htl, hrow⟩
              · exfalso; have h5 : ths.length = 0 := (by rw [h]; rfl); have h6 := HTN.out; omega
              have hc := hrow q (by have h6 := HTN.out; omega)
              have hmem : ths.getD q 0 ∈ ths := by rw [List.getD_eq_getElem?_getD, List.getElem?_eq_getElem (by have h6 := HTN.out; omega)]; simp
              have HM := Lib.hid (dT (PM.out _ hmem))
              obtain ⟨y, hy⟩ : ∃ y, ths.getD q 0 = y := ⟨_, rfl⟩
              rw [hy] at hc HM
              clear hy hmem hrow
              go_wp2_with fail
              refine (has_l _ (es ++ ws) _ _ HSA.out (by rw [HAL.out]; omega)).mono ?_
              rintro e v7 ⟨rfl, rfl⟩
              rw [HM.out]
              go_wp2
              go_round
              case rel => exact ⟨q + 1, by omega, by go_num⟩
              case measure => simp [intOf]; omega
            · have hlt : ¬ (q : Int) < (an : Int) := by omega
              go_wp2
              go_roundw
              case rel => exact ⟨j + 1, 0, es, ws, ths, by omega, by go_num, H.out, HI.out⟩
              case measure => simp [intOf]; omega
        · have o0 : (o == 0) = false := beqF hz
          have o1 : (o != 0) = true := bneT hz
          have HO := Lib.hid hz
          clear hz
          have H0 := H
          refine (t_entry H.out (by omega)).mono ?_
          rintro e v1 ⟨ve, rfl, hq, ht⟩
          have HE := Lib.hid hq
          have HT1 := Lib.hid ht
          have H := Lib.hid (H.out.touch ht)
          obtain ⟨ea, ec, rfl⟩ := Qu.form hq
          clear hq ht
          go_wp2_with fail
          refine (t_waits H.out (by omega)).mono ?_
          rintro e v2 ⟨vw, rfl, hq, ht⟩
          obtain ⟨va, v3, hr, hq3, hg, hn⟩ := Qu.appendI (HE.out.touch ht (fun _ _ => by simp)) (by have := HT1.out.size; have := ht.size; omega) hq.sl (by omega)
          obtain ⟨qa, qc, rfl⟩ := Qu.form hq
          obtain ⟨aa, ac, hv⟩ := Qu.form hq3
          obtain ⟨an, han⟩ : ∃ an, (es ++ ws).length = an := ⟨_, rfl⟩
          rw [han] at hv
          subst hv
          have HAN := Lib.hid han
          have b4 : an ≤ 242 := by rw [← han]; simp; omega
          have HT3 : Hid (Touch [] wc v3) := Lib.hid ((HT1.out.trans ht).grown hg (fun k hk hlt => by have := (HE.out.own k hk).1; omega))
          have HQ3 := Lib.hid hq3
          have H := Lib.hid (H0.out.touch HT3.out)
          clear hq ht hq3 hg hn han
          have HNot := Lib.hid (dF HI.out.out)
          go_wp2_with (at_builtin; refine Lib.wpList_append_run _ rfl _ _ _ _ rfl _ _ rfl rfl _ _ (hr _) ?_)
          refine (t_occ H.out).mono ?_
          rintro e v4 ⟨rfl, rfl⟩
          go_wp2_with fail
          refine (t_occ H.out).mono ?_
          rintro e v4 ⟨rfl, rfl⟩
          go_wp2_with fail
          refine (has_l _ (es ++ ws) _ _ HQ3.out.sl (by have := HAN.out; omega)).mono ?_
          rintro e v4 ⟨rfl, rfl⟩
          rw [HNot.out]
          go_wp2_with fail
          refine (t_occ H.out).mono ?_
          rintro e v4 ⟨rfl, rfl⟩
          go_wp2_with fail
          refine (t_occ H.out).mono ?_
          rintro e v4 ⟨rfl, rfl⟩
          obtain ⟨va2, v6, hr2, hq6, hg, hn⟩ := Qu.appendI (HQ3.out.alloc (.cells #[.int .i64 o] 3)) (by have := HT3.out.size; simp; omega) (sl_one _ o 1) (by have := HAN.out; simp at this ⊢; omega)
          obtain ⟨aa2, ac2, hv⟩ := Qu.form hq6
          have hal : (es ++ ws ++ [o]).length = tn := by have h1 := HI.out.len; rw [occL_ne HO.out] at h1; rw [h1]; exact HTN.out
          rw [hal] at hv
          subst hv
          have HT6 : Hid (Touch [] wc v6) := Lib.hid ((HT3.out.alloc _).grown hg (fun k hk hlt => by have := (HQ3.out.own k hk).1; omega))
          have H := Lib.hid (H0.out.touch HT6.out)
          have HSA := Lib.hid hq6.sl
          have HAL := Lib.hid hal
          have PM : Hid (∀ x, x ∈ ths → x ∈ es ++ ws ++ [o]) := Lib.hid (fun x hx => by have h1 := HI.out.perm; rw [occL_ne HO.out] at h1; exact h1.mem_iff.2 hx)
          clear hq6 hg hn hal
          go_wp2_with (at_builtin; refine Lib.wpList_append_run _ rfl _ _ _ _ rfl _ _ rfl rfl _ _ (hr2 _) ?_)
          go_loop [12] (fun k => ∃ q : Nat, q ≤ tn ∧ k = .int .i64 q) (fun k => tn + 1 - (intOf k).toNat)
          case atStart => exact ⟨0, by omega, rfl⟩
          case round =>
            obtain ⟨q, hq, rfl⟩ := hrel
            by_cases hqn : q < tn
            · have hlt : (q : Int) < (tn : Int) := by omega
              have hsl := H.out.sl
              obtain ⟨ta, tc, hv, hrow⟩ := hsl
              cases hv
              rcases hrow with h | ⟨tg, toff, rfl, htl, hrow⟩
              · exfalso; have h5 : ths.length = 0 := (by rw [h]; rfl); have h6 := HTN.out; omega
              have hc := hrow q (by have h6 := HTN.out; omega)
              have hmem : ths.getD q 0 ∈ ths := by rw [List.getD_eq_getElem?_getD, List.getElem?_eq_getElem (by have h6 := HTN.out; omega)]; simp
              have HM := Lib.hid (dT (PM.out _ hmem))
              obtain ⟨y, hy⟩ : ∃ y, ths.getD q 0 = y := ⟨_, rfl⟩
              rw [hy] at hc HM
              clear hy hmem hrow
              go_wp2_with fail
              refine (has_l _ (es ++ ws ++ [o]) _ _ HSA.out (by rw [HAL.out]; omega)).mono ?_
              rintro e v7 ⟨rfl, rfl⟩
              rw [HM.out]
              go_wp2
              go_round
              case rel => exact ⟨q + 1, by omega, by go_num⟩
              case measure => simp [intOf]; omega
            · have hlt : ¬ (q : Int) < (tn : Int) := by omega
              go_wp2
              go_roundw
              case rel => exact ⟨j + 1, o, es, ws, ths, by omega, by go_num, H.out, HI.out⟩
              case measure => simp [intOf]; omega
    · have hlt : ¬ (j : Int) < (L : Int) := by omega
      go_wp2_with fail
      refine (awake_any _).mono ?_
      rintro e w4 ⟨rfl, ht⟩
      go_wp2
      go_ret
      exact ⟨rfl, (H.out.t.trans ht).below (Nat.le_refl _) (by simp)⟩

theorem one_law (v : Value) (zs : List Int) (w : World) (hs : Sl w v zs) (hu : ∀ y ∈ zs, InI y) (hm : zs.length ≤ maxLen) :
    Calls Try.prog 4 #[v] w fun e w' => e = .returned (.bool true) ∧ Below w.heap.size w w' := by
  by_cases h : 120 < zs.length
  · exact one_long v zs w hs hm h
  · exact one_in v zs w hs hu (by omega)
end Go.Proofs.Ytbbjnojipfnkoaa
