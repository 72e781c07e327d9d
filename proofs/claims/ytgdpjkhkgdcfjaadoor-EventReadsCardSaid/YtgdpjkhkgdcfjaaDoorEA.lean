/-
  Events: their names, their texts, what is read of a text, plainly; what the package-level variables hold in a world.
-/
import Derived.Test.YtgdpjkhkgdcfjaaDoorND
import Derived.Test.YtgdpjkhkgdcfjaaDoorSH
import Derived.Lib.LaidTab
import Derived.Laws.RangeAny
set_option linter.unusedVariables false
namespace Go.Proofs.YtgdpjkhkgdcfjaaDoor
open Go Go.RowKit

def evL : List (List UInt8) := [[], [119, 114, 105, 116, 101], [98, 108, 111, 99, 107], [103, 114, 97, 110, 116], [116, 114, 97, 112], [101, 110, 100], [115, 116, 111, 112]]
def evB (k : Nat) : List UInt8 := evL.getD k []
def evS (k : Nat) : ByteArray := ⟨(evB k).toArray⟩
theorem evS_list (k : Nat) : (evS k).data.toList = evB k := by simp [evS]
theorem evB_fin : ∀ j : Fin 7, ∀ k : Fin 7, evB j.val = evB k.val → j = k := by decide +kernel
theorem evB_inj {j k : Nat} (hj : j < 7) (hk : k < 7) (h : evB j = evB k) : j = k := congrArg Fin.val (evB_fin ⟨j, hj⟩ ⟨k, hk⟩ h)
theorem evB_ne {k : Nat} (h1 : 1 ≤ k) (hk : k < 7) : evB k ≠ [] := fun e => by have := evB_inj (j := k) (k := 0) hk (by omega) e; omega
theorem evB_big {k : Nat} (h : 7 ≤ k) : evB k = [] := by
  have : evL.length = 7 := rfl
  unfold evB
  rw [List.getD_eq_getElem?_getD, List.getElem?_eq_none (by omega)]; rfl
theorem evB_blank_fin : ∀ k : Fin 7, (32 : UInt8) ∉ evB k.val := by decide +kernel
theorem evB_blank {k : Nat} (h : k < 7) : (32 : UInt8) ∉ evB k := evB_blank_fin ⟨k, h⟩
theorem evS_inj {j k : Nat} (hj : j < 7) (hk : k < 7) (h : evS j = evS k) : j = k := evB_inj hj hk (by rw [← evS_list, h, evS_list])
def evZ (kind : Int) : ByteArray := evS kind.toNat
theorem evZ_out {kind : Int} (h : kind < 1 ∨ 7 ≤ kind) : evZ kind = ByteArray.empty := by
  unfold evZ evS
  rcases (by omega : kind.toNat = 0 ∨ 7 ≤ kind.toNat) with e | e
  · rw [e]; rfl
  · rw [evB_big e]; rfl
theorem evZ_ne {kind : Int} (h1 : 1 ≤ kind) (h2 : kind < 7) : ¬ evZ kind = ByteArray.empty := fun e => by
  have := congrArg (fun x : ByteArray => x.data.toList) e
  simp only [evZ, evS_list] at this
  exact evB_ne (k := kind.toNat) (by omega) (by omega) this
theorem evS_size_fin : ∀ k : Fin 7, (evS k.val).size ≤ 10 := by decide +kernel
theorem evZ_size (kind : Int) : (evZ kind).size ≤ 10 := by
  by_cases h : kind < 1 ∨ 7 ≤ kind
  · rw [evZ_out h]; decide
  · exact evS_size_fin ⟨kind.toNat, by omega⟩
/-- The kind of that name, 0 if there is none. -/
def kdN : Nat → ByteArray → Int
  | 0, _ => 0
  | k + 1, s => if s = evS (k + 1) then ((k + 1 : Nat) : Int) else kdN k s
def kdOf (s : ByteArray) : Int := kdN 6 s
theorem kdN_cases (s : ByteArray) : ∀ n, (kdN n s = 0 ∧ ∀ k, 1 ≤ k → k ≤ n → s ≠ evS k) ∨ ∃ k, 1 ≤ k ∧ k ≤ n ∧ s = evS k ∧ kdN n s = (k : Int)
  | 0 => .inl ⟨rfl, fun k h1 h2 => by omega⟩
  | n + 1 => by
    unfold kdN
    by_cases h : s = evS (n + 1)
    · rw [if_pos h]
      exact .inr ⟨n + 1, by omega, by omega, h, rfl⟩
    · rw [if_neg h]
      rcases kdN_cases s n with ⟨e, hn⟩ | ⟨k, h1, h2, h3, h4⟩
      · refine .inl ⟨e, fun k h1 h2 => ?_⟩
        by_cases hk : k = n + 1
        · subst hk; exact h
        · exact hn k h1 (by omega)
      · exact .inr ⟨k, h1, by omega, h3, h4⟩
theorem kdOf_cases (s : ByteArray) : (kdOf s = 0 ∧ ∀ k, 1 ≤ k → k < 7 → s ≠ evS k) ∨ ∃ k, 1 ≤ k ∧ k < 7 ∧ s = evS k ∧ kdOf s = (k : Int) := by
  rcases kdN_cases s 6 with ⟨e, h⟩ | ⟨k, h1, h2, h3, h4⟩
  · exact .inl ⟨e, fun k h1 h2 => h k h1 (by omega)⟩
  · exact .inr ⟨k, h1, by omega, h3, h4⟩
theorem kdOf_range (s : ByteArray) : 0 ≤ kdOf s ∧ kdOf s < 7 := by
  rcases kdOf_cases s with ⟨e, h⟩ | ⟨j, a, b, c, d⟩
  · omega
  · omega
theorem kdOf_ev {k : Nat} (h1 : 1 ≤ k) (h2 : k < 7) : kdOf (evS k) = (k : Int) := by
  rcases kdOf_cases (evS k) with ⟨_, h⟩ | ⟨j, a, b, c, d⟩
  · exact absurd rfl (h k h1 h2)
  · rw [d, evS_inj h2 b c]
/-- What a loop over the kinds in order has found when it has seen those up to n. -/
theorem kdN_succ (n : Nat) (s : ByteArray) : kdN (n + 1) s = if s = evS (n + 1) then ((n + 1 : Nat) : Int) else kdN n s := rfl
/-! ### Texts -/
def txE (at' kind pid a b : Int) : ByteArray := mk (Lib.itoa at' ++ 32 :: (evB kind.toNat ++ 32 :: (Lib.itoa pid ++ 32 :: (Lib.itoa a ++ 32 :: Lib.itoa b))))
def textE (at' kind pid a b : Int) : ByteArray := if evZ kind = ByteArray.empty then ByteArray.empty else txE at' kind pid a b
theorem textE_in {at' kind pid a b : Int} (h1 : 1 ≤ kind) (h2 : kind < 7) : textE at' kind pid a b = txE at' kind pid a b := if_neg (evZ_ne h1 h2)
theorem textE_out {at' kind pid a b : Int} (h : kind < 1 ∨ 7 ≤ kind) : textE at' kind pid a b = ByteArray.empty := if_pos (evZ_out h)
theorem words_txE {at' kind pid a b : Int} (h1 : 1 ≤ kind) (h2 : kind < 7) : words (txE at' kind pid a b).data.toList = [Lib.itoa at', evB kind.toNat, Lib.itoa pid, Lib.itoa a, Lib.itoa b] := by
  unfold txE
  rw [mk_list, words_app _ _ (itoa_noblank at'), words_app _ _ (evB_blank (by omega)), words_app _ _ (itoa_noblank pid), words_app _ _ (itoa_noblank a), words_noblank _ (itoa_noblank b)]
abbrev Ev := Int × Int × Int × Int × Int
noncomputable def rdEW : List (List UInt8) → Option Ev
  | [w0, w1, w2, w3, w4] => if kdOf (mk w1) = 0 then none else
    (numL w0).bind fun at' => (numL w2).bind fun pid => (numL w3).bind fun a => (numL w4).map fun b => (at', kdOf (mk w1), pid, a, b)
  | _ => none
noncomputable def rdE (s : ByteArray) : Option Ev := rdEW (words s.data.toList)
theorem kdOf_evB {kind : Int} (h1 : 1 ≤ kind) (h2 : kind < 7) : kdOf (mk (evB kind.toNat)) = kind := by
  have := kdOf_ev (k := kind.toNat) (by omega) (by omega)
  rw [show mk (evB kind.toNat) = evS kind.toNat from rfl, this]; omega
theorem rdE_text {at' kind pid a b : Int} (h1 : 1 ≤ kind) (h2 : kind < 7) (i0 : InI at') (i1 : InI pid) (i2 : InI a) (i3 : InI b) : rdE (txE at' kind pid a b) = some (at', kind, pid, a, b) := by
  have hne : ¬ kind = 0 := by omega
  unfold rdE
  rw [words_txE h1 h2]
  simp only [rdEW, kdOf_evB h1 h2, hne, if_false, numL_itoa i0, numL_itoa i1, numL_itoa i2, numL_itoa i3, Option.bind_some, Option.map_some]
theorem rdE_len {s : ByteArray} (h : (words s.data.toList).length ≠ 5) : rdE s = none := by
  unfold rdE
  match words s.data.toList, h with
  | [], _ => rfl
  | [_], _ => rfl
  | [_, _], _ => rfl
  | [_, _, _], _ => rfl
  | [_, _, _, _], _ => rfl
  | [_, _, _, _, _], h => exact absurd rfl h
  | _ :: _ :: _ :: _ :: _ :: _ :: _, _ => rfl
theorem rdE_five {s : ByteArray} {w0 w1 w2 w3 w4 : List UInt8} (hw : words s.data.toList = [w0, w1, w2, w3, w4]) : rdE s = if kdOf (mk w1) = 0 then none else
    (numL w0).bind fun at' => (numL w2).bind fun pid => (numL w3).bind fun a => (numL w4).map fun b => (at', kdOf (mk w1), pid, a, b) := by
  unfold rdE; rw [hw]; rfl
theorem kd_word {w1 : List UInt8} (h : ¬ kdOf (mk w1) = 0) : w1 = evB (kdOf (mk w1)).toNat ∧ 1 ≤ kdOf (mk w1) ∧ kdOf (mk w1) < 7 := by
  rcases kdOf_cases (mk w1) with ⟨e, _⟩ | ⟨k, h1, h2, h3, h4⟩
  · exact absurd e h
  · rw [h4]
    refine ⟨?_, by omega, by omega⟩
    rw [Int.toNat_natCast, ← evS_list, ← h3, mk_list]
theorem rdE_some {s : ByteArray} {at' kind pid a b : Int} (h : rdE s = some (at', kind, pid, a, b)) : txE at' kind pid a b = s ∧ 1 ≤ kind ∧ kind < 7 ∧ InI at' ∧ InI pid ∧ InI a ∧ InI b := by
  have hl : (words s.data.toList).length = 5 := by
    rcases Nat.decEq (words s.data.toList).length 5 with e | e
    · rw [rdE_len e] at h; cases h
    · exact e
  obtain ⟨w0, w1, w2, w3, w4, hw⟩ : ∃ w0 w1 w2 w3 w4, words s.data.toList = [w0, w1, w2, w3, w4] := by
    match words s.data.toList, hl with
    | [w0, w1, w2, w3, w4], _ => exact ⟨w0, w1, w2, w3, w4, rfl⟩
  rw [rdE_five hw] at h
  by_cases h0 : kdOf (mk w1) = 0
  · rw [if_pos h0] at h; cases h
  · rw [if_neg h0] at h
    obtain ⟨e0, e1, e2⟩ := kd_word h0
    cases n0 : numL w0 with
    | none => rw [n0] at h; cases h
    | some x0 =>
      cases n2 : numL w2 with
      | none => rw [n0, n2] at h; cases h
      | some x2 =>
        cases n3 : numL w3 with
        | none => rw [n0, n2, n3] at h; cases h
        | some x3 =>
          cases n4 : numL w4 with
          | none => rw [n0, n2, n3, n4] at h; cases h
          | some x4 =>
            rw [n0, n2, n3, n4] at h
            cases h
            obtain ⟨i0, t0⟩ := numL_some n0
            obtain ⟨i2, t2⟩ := numL_some n2
            obtain ⟨i3, t3⟩ := numL_some n3
            obtain ⟨i4, t4⟩ := numL_some n4
            refine ⟨?_, e1, e2, i0, i2, i3, i4⟩
            apply bytes_eq
            have hg := glue_words s.data.toList
            rw [hw] at hg
            unfold txE
            rw [mk_list, t0, t2, t3, t4, ← e0, ← hg]
            rfl
theorem rdE_bad {s : ByteArray} {w0 w1 w2 w3 w4 : List UInt8} (hw : words s.data.toList = [w0, w1, w2, w3, w4]) (h : numL w0 = none ∨ numL w2 = none ∨ numL w3 = none ∨ numL w4 = none) : rdE s = none := by
  cases hr : rdE s with
  | none => rfl
  | some x =>
    obtain ⟨at', kind, pid, a, b⟩ := x
    exfalso
    rw [rdE_five hw] at hr
    split at hr
    · cases hr
    · rcases h with h | h | h | h
      · rw [h] at hr; cases hr
      · rw [h] at hr; cases n0 : numL w0 <;> rw [n0] at hr <;> cases hr
      · rw [h] at hr; cases n0 : numL w0 <;> rw [n0] at hr <;> cases n2 : numL w2 <;> rw [n2] at hr <;> cases hr
      · rw [h] at hr; cases n0 : numL w0 <;> rw [n0] at hr <;> cases n2 : numL w2 <;> rw [n2] at hr <;> cases n3 : numL w3 <;> rw [n3] at hr <;> cases hr
/-- the text of what Atoi tells is not s: s is no event's. -/
theorem rdE_other {s : ByteArray} {w0 w1 w2 w3 w4 : List UInt8} (hw : words s.data.toList = [w0, w1, w2, w3, w4]) (hne : ¬ textE (av w0) (kdOf (mk w1)) (av w2) (av w3) (av w4) = s) : rdE s = none := by
  cases hr : rdE s with
  | none => rfl
  | some x =>
    obtain ⟨at', kind, pid, a, b⟩ := x
    have hs := rdE_some hr
    exfalso
    apply hne
    rw [rdE_five hw] at hr
    split at hr
    · cases hr
    · cases n0 : numL w0 with
      | none => rw [n0] at hr; cases hr
      | some x0 =>
        cases n2 : numL w2 with
        | none => rw [n0, n2] at hr; cases hr
        | some x2 =>
          cases n3 : numL w3 with
          | none => rw [n0, n2, n3] at hr; cases hr
          | some x3 =>
            cases n4 : numL w4 with
            | none => rw [n0, n2, n3, n4] at hr; cases hr
            | some x4 =>
              rw [n0, n2, n3, n4] at hr
              cases hr
              rw [av_ok (numL_ok n0), av_ok (numL_ok n2), av_ok (numL_ok n3), av_ok (numL_ok n4), textE_in hs.2.1 hs.2.2.1]
              exact hs.1
theorem rdE_same {s : ByteArray} {w0 w1 w2 w3 w4 : List UInt8} (hs : ¬ s = ByteArray.empty) (he : textE (av w0) (kdOf (mk w1)) (av w2) (av w3) (av w4) = s) : rdE s = some (av w0, kdOf (mk w1), av w2, av w3, av w4) := by
  by_cases h : kdOf (mk w1) < 1 ∨ 7 ≤ kdOf (mk w1)
  · rw [textE_out h] at he
    exact absurd he.symm hs
  · rw [textE_in (by omega) (by omega)] at he
    rw [← he]
    exact rdE_text (by omega) (by omega) (av_in _) (av_in _) (av_in _) (av_in _)
/-! ### What the package-level variables hold -/
structure Vs (w : World) : Prop where
  names : ∀ k, k < 7 → w.cell? ⟨0, k, none⟩ = some (.string (evS k))
  syn : ∃ tp p, w.var? Tryd.prog "strconv.ErrSyntax" = some #[.iface tp p]
  rng : ∃ tp p, w.var? Tryd.prog "strconv.ErrRange" = some #[.iface tp p]
  pow : Lib.TabIs Tryd.prog w "internal/strconv.uint64pow10" .u64 Lib.pow10Tab
theorem Vs.touch {w w' : World} (h : Vs w) (ht : Touch [] w w') : Vs w' := by
  obtain ⟨tp, p, h1⟩ := h.syn
  obtain ⟨tp2, p2, h2⟩ := h.rng
  exact ⟨fun k hk => cell_touch (h.names k hk) ht (by simp), ⟨tp, p, var_touch h1 ht⟩, ⟨tp2, p2, var_touch h2 ht⟩, var_touch h.pow ht⟩
theorem itoa_any (n : Int) (hn : InI n) (w : World) (hv : Vs w) : Calls Tryd.prog 20 #[.int .i64 n] w (StrP (mk (Lib.itoa n)) w) := by
  refine (Tryd.strconv_Itoa n hn.1 hn.2 w hv.pow).mono ?_
  rintro e w' ⟨rfl, k, os, rfl⟩
  exact ⟨rfl, touch_grow w k os⟩
theorem atoi_ok (p : ByteArray) (hp : p.size ≤ 1000000) (v : Int) (h : Lib.atoiAll p.data.toList = .ok v) (w : World) : Calls Tryd.prog 27 #[.string p] w fun e w' => e = .returned (.tuple #[.int .i64 v, .nilIface]) ∧ Touch [] w w' := by
  refine (Tryd.strconv_Atoi_ok p (by omega) v h w).mono ?_
  rintro e w' ⟨rfl, rfl | ⟨t, rfl⟩⟩
  · exact ⟨rfl, Touch.refl _ _⟩
  · exact ⟨rfl, touch_bytes _ _ _⟩
theorem atoi_bad (p : ByteArray) (hp : p.size ≤ 1000000) (h : ∀ x, Lib.atoiAll p.data.toList ≠ .ok x) (w : World) (hv : Vs w) : Calls Tryd.prog 27 #[.string p] w (AtoiBad w) := by
  obtain ⟨t1, p1, h1⟩ := hv.syn
  obtain ⟨t2, p2, h2⟩ := hv.rng
  cases hq : Lib.atoiAll p.data.toList with
  | ok x => exact absurd hq (h x)
  | range =>
    refine (Tryd.strconv_Atoi_range_var p (by omega) hq t2 p2 w h2).mono ?_
    rintro e w' ⟨N, rfl, _, _, hb⟩
    exact ⟨_, _, _, rfl, Touch.of_below hb⟩
  | _ =>
    refine (Tryd.strconv_Atoi_syntax_var p (by omega) (hq.trans rfl) t1 p1 w h1).mono ?_
    rintro e w' ⟨N, rfl, _, _, hb⟩
    exact ⟨_, _, _, rfl, Touch.of_below hb⟩
/-! ### A range over a string, and its blanks -/
theorem decode_cont (s : ByteArray) (pos k : Nat) (h1 : 1 ≤ k) (hk : k < (Utf8.decode s pos).2) : pos + k < s.size ∧ 128 ≤ (s.get! (pos + k)).toNat := by
  simp only [Utf8.decode] at hk
  repeat' split at hk
  all_goals simp only at hk
  all_goals first
    | (exfalso; omega)
    | skip
  all_goals simp only [Bool.and_eq_true, decide_eq_true_eq, beq_iff_eq] at *
  · obtain rfl : k = 1 := by omega
    omega
  · rcases (by omega : k = 1 ∨ k = 2) with rfl | rfl <;> omega
  · rcases (by omega : k = 1 ∨ k = 2 ∨ k = 3) with rfl | rfl | rfl <;> omega
theorem get_of (s : ByteArray) (i : Nat) (h : i < s.data.toList.length) : s.data.toList[i] = s.get! i := by
  have h' : i < s.size := by rw [Array.length_toList] at h; exact h
  have := get_at s i h'
  rw [Nat.add_zero] at this
  rw [this]; rfl
/-- A rune that is no blank holds no blank's byte; one that is one is one byte. -/
theorem rune_blank (s : ByteArray) (pos : Nat) (h : pos < s.size) (hl : pos < s.data.toList.length) (hb : s.data.toList[pos] = 32) : Utf8.decode s pos = (32, 1) := by
  have e : s[pos]'h = 32 := hb
  rw [decode_ascii s pos h (by rw [e]; decide), e]; rfl
theorem rune_other (s : ByteArray) (pos : Nat) (h : pos < s.size) (hl : pos < s.data.toList.length) (hb : s.data.toList[pos] ≠ 32) : (Utf8.decode s pos).1 ≠ 32 ∧ 1 ≤ (Utf8.decode s pos).2 ∧ pos + (Utf8.decode s pos).2 ≤ s.size ∧ ∀ j (hj : pos + j < s.data.toList.length), j < (Utf8.decode s pos).2 → s.data.toList[pos + j] ≠ 32 := by
  by_cases ha : (s[pos]'h).toNat < 128
  · rw [decode_ascii s pos h ha]
    refine ⟨fun e => hb ?_, Nat.le_refl _, h, fun j hj h1 => ?_⟩
    · have e2 : (s[pos]'h).toNat = 32 := e
      exact UInt8.toNat_inj.1 (e2.trans (by decide))
    · obtain rfl : j = 0 := by have : j < 1 := h1; omega
      exact hb
  · obtain ⟨h1, h2⟩ := decode_high s pos h (by omega)
    refine ⟨by omega, h2, ?_, fun j hj hjw => ?_⟩
    · rcases (by omega : (Utf8.decode s pos).2 = 1 ∨ 1 < (Utf8.decode s pos).2) with e | e
      · omega
      · have := (decode_cont s pos ((Utf8.decode s pos).2 - 1) (by omega) (by omega)).1
        omega
    · rcases (by omega : j = 0 ∨ 1 ≤ j) with rfl | e
      · exact hb
      · have := (decode_cont s pos j e hjw).2
        rw [get_of s (pos + j) hj]
        intro e2
        rw [e2] at this
        exact absurd this (by decide)
theorem At.skip {L : List UInt8} {f i : Nat} {done : List (List UInt8)} (h : At L f i done) (hf : f ≤ i) (n : Nat) (hn : i + n ≤ L.length) (hb : ∀ j (hj : i + j < L.length), j < n → L[i + j] ≠ 32) : At L f (i + n) done := by
  induction n with
  | zero => exact h
  | succ n ih => exact (ih (by omega) (fun j hj h => hb j hj (by omega))).other (by omega) (by omega) (hb n (by omega) (by omega))
/-- What parts has cut. -/
structure Cuts (L : List UInt8) (f i : Nat) (done : List (List UInt8)) : Prop where
  few : done.length ≤ 5
  from_ : f ≤ i
  up : i ≤ L.length
  cut : (done.length < 5 ∧ At L f i done) ∨ (done.length = 5 ∧ 6 ≤ (words L).length)
theorem Cuts.zero (L : List UInt8) : Cuts L 0 0 [] := ⟨by simp, Nat.le_refl _, Nat.zero_le _, .inl ⟨by simp, At.zero L⟩⟩
theorem Cuts.fin {L : List UInt8} {f : Nat} {done : List (List UInt8)} (h : Cuts L f L.length done) : (words L = done ++ [(L.drop f).take (L.length - f)] ∧ (words L).length ≤ 5) ∨ ((done ++ [(L.drop f).take (L.length - f)]).length = 6 ∧ 6 ≤ (words L).length) := by
  rcases h.cut with ⟨h1, h2⟩ | ⟨h1, h2⟩
  · left
    have := h2.fin
    refine ⟨this, ?_⟩
    rw [this]; simp; omega
  · right
    exact ⟨by simp [h1], h2⟩
theorem Cuts.other {L : List UInt8} {f i : Nat} {done : List (List UInt8)} (h : Cuts L f i done) (n : Nat) (hn : i + n ≤ L.length) (hb : ∀ j (hj : i + j < L.length), j < n → L[i + j] ≠ 32) : Cuts L f (i + n) done := by
  refine ⟨h.few, by have := h.from_; omega, hn, ?_⟩
  rcases h.cut with ⟨h1, h2⟩ | h2
  · exact .inl ⟨h1, h2.skip h.from_ n hn hb⟩
  · exact .inr h2
theorem Cuts.blank {L : List UInt8} {f i : Nat} {done : List (List UInt8)} (h : Cuts L f i done) (hl : done.length < 5) (hi : i < L.length) (hb : L[i] = 32) : Cuts L (i + 1) (i + 1) (done ++ [(L.drop f).take (i - f)]) := by
  rcases h.cut with ⟨h1, h2⟩ | ⟨h2, _⟩
  · have h3 := h2.blank h.from_ hi hb
    refine ⟨by simp; omega, Nat.le_refl _, hi, ?_⟩
    by_cases h4 : (done ++ [(L.drop f).take (i - f)]).length < 5
    · exact .inl ⟨h4, h3⟩
    · right
      have h5 : (done ++ [(L.drop f).take (i - f)]).length = 5 := by simp at h4 ⊢; omega
      refine ⟨h5, ?_⟩
      unfold At at h3
      rw [h3, List.length_append, h5]
      have : 1 ≤ (pre ((L.drop (i + 1)).take (i + 1 - (i + 1))) (words (L.drop (i + 1)))).length := by
        cases words (L.drop (i + 1)) <;> simp [pre]
      omega
  · omega
theorem Cuts.full {L : List UInt8} {f i : Nat} {done : List (List UInt8)} (h : Cuts L f i done) (hl : ¬ done.length < 5) (n : Nat) (hn : i + n ≤ L.length) : Cuts L f (i + n) done := by
  refine ⟨h.few, by have := h.from_; omega, hn, ?_⟩
  rcases h.cut with ⟨h1, _⟩ | h2
  · omega
  · exact .inr h2
end Go.Proofs.YtgdpjkhkgdcfjaaDoor
