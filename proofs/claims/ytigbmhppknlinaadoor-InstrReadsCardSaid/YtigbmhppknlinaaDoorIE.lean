/-
  Instructions read: what is told of a text, plainly.
-/
import Derived.Test.YtigbmhppknlinaaDoorID
import Derived.Lib.SplitLaws
set_option linter.unusedVariables false
namespace Go.Proofs.YtigbmhppknlinaaDoor
open Go Go.RowKit

noncomputable def rdW : List (List UInt8) → Option (Int × Int × Int)
  | [] => none
  | w0 :: ps => if opOf (mk w0) = 0 then none else
    match ps with
    | [] => if opZ (opOf (mk w0)) = 0 then some (opOf (mk w0), 0, 0) else none
    | [p] => if opZ (opOf (mk w0)) = 1 then (numL p).map fun a => (opOf (mk w0), a, 0) else none
    | [p, q] => if opZ (opOf (mk w0)) = 2 then (numL p).bind fun a => (numL q).map fun b => (opOf (mk w0), a, b) else none
    | _ => none
noncomputable def rd (s : ByteArray) : Option (Int × Int × Int) := rdW (words s.data.toList)
def rdV : Option (Int × Int × Int) → Value
  | none => .tuple #[.agg #[.int .i64 0, .int .i64 0, .int .i64 0], .bool false]
  | some (op, a, b) => .tuple #[.agg #[.int .i64 op, .int .i64 a, .int .i64 b], .bool true]
def ReadP (r : Option (Int × Int × Int)) (w : World) (e : Ending) (w' : World) : Prop := e = .returned (rdV r) ∧ Touch [] w w'
/-! ### The texts, letter by letter -/
theorem tk0_list (op a b : Int) : (tk op a b 0).data.toList = nmB op.toNat := nmS_list _
theorem tk1_list (op a b : Int) : (tk op a b 1).data.toList = nmB op.toNat ++ 32 :: Lib.itoa a := by
  show (nmZ op ++ (mk [32] ++ mk (Lib.itoa a))).data.toList = _
  simp [nmZ, nmS_list, mk_list, nmS, mk]
theorem tk2_list (op a b : Int) : (tk op a b 2).data.toList = nmB op.toNat ++ 32 :: (Lib.itoa a ++ 32 :: Lib.itoa b) := by
  show (nmZ op ++ (mk [32] ++ mk (Lib.itoa a)) ++ (mk [32] ++ mk (Lib.itoa b))).data.toList = _
  simp [nmZ, nmS_list, mk_list, nmS, mk]
theorem word_of_op {w0 : List UInt8} (h : opOf (mk w0) ≠ 0) : w0 = nmB (opOf (mk w0)).toNat ∧ 1 ≤ opOf (mk w0) ∧ opOf (mk w0) < 39 := by
  rcases opOf_cases (mk w0) with ⟨e, _⟩ | ⟨k, h1, h2, h3, h4⟩
  · exact absurd e h
  · rw [h4]
    refine ⟨?_, by omega, by omega⟩
    rw [Int.toNat_natCast, ← nmS_list, ← h3, mk_list]
theorem nm_noblank {op : Int} (h1 : 1 ≤ op) (h2 : op < 39) : (32 : UInt8) ∉ nmB op.toNat := nmB_blank (by omega)
theorem words_tk0 {op a b : Int} (h1 : 1 ≤ op) (h2 : op < 39) : words (tk op a b 0).data.toList = [nmB op.toNat] := by rw [tk0_list]; exact words_noblank _ (nm_noblank h1 h2)
theorem words_tk1 {op a b : Int} (h1 : 1 ≤ op) (h2 : op < 39) : words (tk op a b 1).data.toList = [nmB op.toNat, Lib.itoa a] := by
  rw [tk1_list, words_app _ _ (nm_noblank h1 h2), words_noblank _ (itoa_noblank a)]
theorem words_tk2 {op a b : Int} (h1 : 1 ≤ op) (h2 : op < 39) : words (tk op a b 2).data.toList = [nmB op.toNat, Lib.itoa a, Lib.itoa b] := by
  rw [tk2_list, words_app _ _ (nm_noblank h1 h2), words_app _ _ (itoa_noblank a), words_noblank _ (itoa_noblank b)]
theorem opOf_nmB {op : Int} (h1 : 1 ≤ op) (h2 : op < 39) : opOf (mk (nmB op.toNat)) = op := by
  have := opOf_nm (k := op.toNat) (by omega) (by omega)
  rw [show mk (nmB op.toNat) = nmS op.toNat from rfl, this]; omega
/-- What was written is read. -/
theorem rd_text {op a b : Int} (h1 : 1 ≤ op) (h2 : op < 39) (ha : InI a) (hb : InI b) : rd (textZ op a b) = some (op, if 0 < opZ op then a else 0, if 1 < opZ op then b else 0) := by
  have h02 := opT_02 op.toNat
  have hne : op ≠ 0 := by omega
  unfold rd textZ
  rcases (by unfold opZ; omega : opZ op = 0 ∨ opZ op = 1 ∨ opZ op = 2) with h | h | h
  · rw [h, show (0 : Int).toNat = 0 from rfl, words_tk0 h1 h2]
    simp only [rdW, opOf_nmB h1 h2, hne, h, if_false, if_true]
    rfl
  · rw [h, show (1 : Int).toNat = 1 from rfl, words_tk1 h1 h2]
    simp only [rdW, opOf_nmB h1 h2, hne, h, if_false, if_true, numL_itoa ha]
    rfl
  · rw [h, show (2 : Int).toNat = 2 from rfl, words_tk2 h1 h2]
    simp only [rdW, opOf_nmB h1 h2, hne, h, if_false, if_true, numL_itoa ha, numL_itoa hb]
    rfl
/-- What is read is what was written. -/
theorem rd_some {s : ByteArray} {op a b : Int} (h : rd s = some (op, a, b)) : textZ op a b = s ∧ 1 ≤ op ∧ op < 39 ∧ InI a ∧ InI b := by
  have hz : InI 0 := by unfold InI; omega
  unfold rd at h
  have hg := glue_words s.data.toList
  cases hw : words s.data.toList with
  | nil => exact absurd hw (words_ne _)
  | cons w0 ps =>
    rw [hw] at h hg
    simp only [rdW] at h
    by_cases h0 : opOf (mk w0) = 0
    · rw [if_pos h0] at h; cases h
    · rw [if_neg h0] at h
      obtain ⟨e0, e1, e2⟩ := word_of_op h0
      match ps, hg, h with
      | [], hg, h =>
        simp only at h
        split at h
        · rename_i hop
          cases h
          refine ⟨?_, e1, e2, hz, hz⟩
          unfold textZ
          rw [hop]
          apply bytes_eq
          rw [show (0 : Int).toNat = 0 from rfl, tk0_list, ← hg]
          exact e0.symm
        · cases h
      | [p], hg, h =>
        simp only at h
        split at h
        · rename_i hop
          cases hp : numL p with
          | none => rw [hp] at h; cases h
          | some x =>
            rw [hp] at h
            cases h
            obtain ⟨hx, hxe⟩ := numL_some hp
            refine ⟨?_, e1, e2, hx, hz⟩
            unfold textZ
            rw [hop]
            apply bytes_eq
            rw [show (1 : Int).toNat = 1 from rfl, tk1_list, ← hg, hxe, ← e0]
            rfl
        · cases h
      | [p, q], hg, h =>
        simp only at h
        split at h
        · rename_i hop
          cases hp : numL p with
          | none => rw [hp] at h; cases h
          | some x =>
            cases hq : numL q with
            | none => rw [hp, hq] at h; cases h
            | some y =>
              rw [hp, hq] at h
              cases h
              obtain ⟨hx, hxe⟩ := numL_some hp
              obtain ⟨hy, hye⟩ := numL_some hq
              refine ⟨?_, e1, e2, hx, hy⟩
              unfold textZ
              rw [hop]
              apply bytes_eq
              rw [show (2 : Int).toNat = 2 from rfl, tk2_list, ← hg, hxe, hye, ← e0]
              rfl
        · cases h
      | _ :: _ :: _ :: _, hg, h => cases h
/-! ### The parts -/
def blank : ByteArray := ⟨#[32]⟩
theorem parts_of (s : ByteArray) : (Lib.splitB blank 0 (min 4 (s.size + 1) - 1) s = (words s.data.toList).map mk ∧ (words s.data.toList).length ≤ min 4 (s.size + 1)) ∨ ((Lib.splitB blank 0 (min 4 (s.size + 1) - 1) s).length = 4 ∧ 4 < (words s.data.toList).length ∧ 4 ≤ s.size + 1) := by
  have hd := Lib.splitB_data blank 0 (min 4 (s.size + 1) - 1) s
  obtain ⟨h1, h2⟩ := splitK_words (min 4 (s.size + 1) - 1) s.data.toList
  have hl := words_length_le s.data.toList
  have hs : s.data.toList.length = s.size := by rw [Array.length_toList]; rfl
  rw [hs] at hl
  by_cases hk : (words s.data.toList).length ≤ min 4 (s.size + 1) - 1 + 1
  · left
    refine ⟨?_, by omega⟩
    rw [← h1 hk, ← (show blank.data.toList = [32] from rfl), ← hd, List.map_map]
    conv => lhs; rw [← List.map_id (Lib.splitB blank 0 (min 4 (s.size + 1) - 1) s)]
    apply List.map_congr_left
    intro x _
    exact (mk_of x).symm
  · right
    have := h2 (by omega)
    rw [← (show blank.data.toList = [32] from rfl), ← hd, List.length_map] at this
    omega
theorem numL_ok {p : List UInt8} {x : Int} (h : numL p = some x) : Lib.atoiAll p = .ok x := by
  obtain ⟨h1, h2⟩ := numL_some h
  rw [← h2]; exact atoiAll_itoa x h1
theorem numL_of_ok {p : List UInt8} {x : Int} (h : Lib.atoiAll p = .ok x) : numL p = if Lib.itoa x = p then some x else none := by
  by_cases he : Lib.itoa x = p
  · rw [if_pos he]
    have hb := Lib.atoiAll_bounds h
    rw [← he]
    exact numL_itoa hb
  · rw [if_neg he]
    cases hn : numL p with
    | none => rfl
    | some y =>
      have := numL_ok hn
      rw [h] at this
      injection this with this
      subst this
      exact absurd (numL_some hn).2 he
theorem numL_of_bad {p : List UInt8} (h : ∀ x, Lib.atoiAll p ≠ .ok x) : numL p = none := by
  cases hn : numL p with
  | none => rfl
  | some y => exact absurd (numL_ok hn) (h y)
end Go.Proofs.YtigbmhppknlinaaDoor
