/-
  The reference: letters, digits, words, numbers.
-/
import Derived.Test.YtdlhaadnfmpldaaDoorTKE
import Derived.Test.YtdlhaadnfmpldaaDoorTKK
import Derived.Test.YtdlhaadnfmpldaaDoorTKH
import Derived.Deep.WholeRow
set_option linter.unusedVariables false
namespace Go.Proofs.YtdlhaadnfmpldaaDoor
open Go Go.RowKit

set_option maxHeartbeats 1000000 in
theorem rletter_any (c : UInt8) (w : World) : Calls Tryd.prog 16 #[.int .u8 (c.toNat : Int)] w (BoolQ (isLet c) w) := by
  obtain ⟨x, hx⟩ : ∃ x : Int, (c.toNat : Int) = x := ⟨_, rfl⟩
  have hd : isLet c = decide (97 ≤ x ∧ x ≤ 122) := by
    unfold isLet
    rw [decide_eq_decide]
    omega
  rw [hd, hx]
  clear hd hx
  by_cases h1 : 97 ≤ x
  · have dh1 : decide (97 ≤ x) = true := dT h1
    by_cases h2 : x ≤ 122
    · have dh2 : decide (x ≤ 122) = true := dT h2
      rw [show decide (97 ≤ x ∧ x ≤ 122) = true from dT ⟨h1, h2⟩]
      go_enter Tryd.func16, Tryd.ntmps16
      go_wp2
      go_ret
      exact ⟨rfl, rfl⟩
    · have dh2 : decide (x ≤ 122) = false := dF h2
      rw [show decide (97 ≤ x ∧ x ≤ 122) = false from dF (fun h => h2 (by omega))]
      go_enter Tryd.func16, Tryd.ntmps16
      go_wp2
      go_ret
      exact ⟨rfl, rfl⟩
  · have dh1 : decide (97 ≤ x) = false := dF h1
    rw [show decide (97 ≤ x ∧ x ≤ 122) = false from dF (fun h => h1 (by omega))]
    go_enter Tryd.func16, Tryd.ntmps16
    go_wp2
    go_ret
    exact ⟨rfl, rfl⟩
set_option maxHeartbeats 1000000 in
theorem rdigit_any (c : UInt8) (w : World) : Calls Tryd.prog 17 #[.int .u8 (c.toNat : Int)] w (BoolQ (isDig c) w) := by
  obtain ⟨x, hx⟩ : ∃ x : Int, (c.toNat : Int) = x := ⟨_, rfl⟩
  have hd : isDig c = decide (48 ≤ x ∧ x ≤ 57) := by
    unfold isDig
    rw [decide_eq_decide]
    omega
  rw [hd, hx]
  clear hd hx
  by_cases h1 : 48 ≤ x
  · have dh1 : decide (48 ≤ x) = true := dT h1
    by_cases h2 : x ≤ 57
    · have dh2 : decide (x ≤ 57) = true := dT h2
      rw [show decide (48 ≤ x ∧ x ≤ 57) = true from dT ⟨h1, h2⟩]
      go_enter Tryd.func17, Tryd.ntmps17
      go_wp2
      go_ret
      exact ⟨rfl, rfl⟩
    · have dh2 : decide (x ≤ 57) = false := dF h2
      rw [show decide (48 ≤ x ∧ x ≤ 57) = false from dF (fun h => h2 (by omega))]
      go_enter Tryd.func17, Tryd.ntmps17
      go_wp2
      go_ret
      exact ⟨rfl, rfl⟩
  · have dh1 : decide (48 ≤ x) = false := dF h1
    rw [show decide (48 ≤ x ∧ x ≤ 57) = false from dF (fun h => h1 (by omega))]
    go_enter Tryd.func17, Tryd.ntmps17
    go_wp2
    go_ret
    exact ⟨rfl, rfl⟩
/-! ### Words -/
theorem bytes_eq {a b : ByteArray} (h : a.data.toList = b.data.toList) : a = b := by
  obtain ⟨⟨x⟩⟩ := a
  obtain ⟨⟨y⟩⟩ := b
  simp at h
  rw [h]
theorem strF {a b : ByteArray} (h : ¬ a = b) : (a.toList == b.toList) = false := by
  rw [ByteArray.toList_eq, ByteArray.toList_eq]
  simp only [beq_eq_false_iff_ne, ne_eq]
  exact fun e => h (bytes_eq e)
def wordS (i : Nat) : ByteArray := ⟨(wordL.getD i []).toArray⟩
def wordA : Array Value := #[Value.string (wordS 0), Value.string (wordS 1), Value.string (wordS 2), Value.string (wordS 3), Value.string (wordS 4), Value.string (wordS 5), Value.string (wordS 6), Value.string (wordS 7), Value.string (wordS 8), Value.string (wordS 9), Value.string (wordS 10), Value.string (wordS 11), Value.string (wordS 12), Value.string (wordS 13), Value.string (wordS 14), Value.string (wordS 15), Value.string (wordS 16), Value.string (wordS 17), Value.string (wordS 18), Value.string (wordS 19), Value.string (wordS 20), Value.string (wordS 21), Value.string (wordS 22), Value.string (wordS 23), Value.string (wordS 24), Value.string (wordS 25), Value.string (wordS 26), Value.string (wordS 27), Value.string (wordS 28), Value.string (wordS 29), Value.string (wordS 30), Value.string (wordS 31)]
theorem wordA_get {i : Nat} (h : i < 32) : wordA[i]? = some (.string ⟨(wordL.getD i []).toArray⟩) := by
  have e : wordA = (wordL.map fun l => Value.string ⟨l.toArray⟩).toArray := by kernel_rfl
  rw [e, List.getElem?_toArray, List.getElem?_map, List.getD_eq_getElem?_getD, List.getElem?_eq_getElem (show i < wordL.length from by rw [wordL_len]; omega)]
  rfl
theorem word_mem {q : List UInt8} (h : q ∈ wordL) : ∃ i, i < 32 ∧ wordL.getD i [] = q := by
  obtain ⟨i, hi, e⟩ := List.getElem_of_mem h
  refine ⟨i, by rw [wordL_len] at hi; exact hi, ?_⟩
  rw [List.getD_eq_getElem?_getD, List.getElem?_eq_getElem hi]
  exact e
theorem word_get {i : Nat} (h : i < 32) : wordL.getD i [] ∈ wordL := by
  rw [List.getD_eq_getElem?_getD, List.getElem?_eq_getElem (by rw [wordL_len]; exact h)]
  exact List.getElem_mem _
def BoolT (b : Bool) (w : World) (e : Ending) (w' : World) : Prop := e = .returned (.bool b) ∧ Touch [] w w'
theorem word_store (w : World) : (storeCells ⟨w.heap.size, 0, none⟩ wordA.toList 0).run Tryd.prog (w.alloc (.cells #[Value.string ⟨#[]⟩, Value.string ⟨#[]⟩, Value.string ⟨#[]⟩, Value.string ⟨#[]⟩, Value.string ⟨#[]⟩, Value.string ⟨#[]⟩, Value.string ⟨#[]⟩, Value.string ⟨#[]⟩, Value.string ⟨#[]⟩, Value.string ⟨#[]⟩, Value.string ⟨#[]⟩, Value.string ⟨#[]⟩, Value.string ⟨#[]⟩, Value.string ⟨#[]⟩, Value.string ⟨#[]⟩, Value.string ⟨#[]⟩, Value.string ⟨#[]⟩, Value.string ⟨#[]⟩, Value.string ⟨#[]⟩, Value.string ⟨#[]⟩, Value.string ⟨#[]⟩, Value.string ⟨#[]⟩, Value.string ⟨#[]⟩, Value.string ⟨#[]⟩, Value.string ⟨#[]⟩, Value.string ⟨#[]⟩, Value.string ⟨#[]⟩, Value.string ⟨#[]⟩, Value.string ⟨#[]⟩, Value.string ⟨#[]⟩, Value.string ⟨#[]⟩, Value.string ⟨#[]⟩] 64)) = .ok () (w.alloc (.cells wordA 64)) :=
  run_storeCells_new w 64 #[Value.string ⟨#[]⟩, Value.string ⟨#[]⟩, Value.string ⟨#[]⟩, Value.string ⟨#[]⟩, Value.string ⟨#[]⟩, Value.string ⟨#[]⟩, Value.string ⟨#[]⟩, Value.string ⟨#[]⟩, Value.string ⟨#[]⟩, Value.string ⟨#[]⟩, Value.string ⟨#[]⟩, Value.string ⟨#[]⟩, Value.string ⟨#[]⟩, Value.string ⟨#[]⟩, Value.string ⟨#[]⟩, Value.string ⟨#[]⟩, Value.string ⟨#[]⟩, Value.string ⟨#[]⟩, Value.string ⟨#[]⟩, Value.string ⟨#[]⟩, Value.string ⟨#[]⟩, Value.string ⟨#[]⟩, Value.string ⟨#[]⟩, Value.string ⟨#[]⟩, Value.string ⟨#[]⟩, Value.string ⟨#[]⟩, Value.string ⟨#[]⟩, Value.string ⟨#[]⟩, Value.string ⟨#[]⟩, Value.string ⟨#[]⟩, Value.string ⟨#[]⟩, Value.string ⟨#[]⟩] wordA (by kernel_rfl) (by kernel_rfl) (by kernel_rfl)
theorem wpList_build_to {P : Program} {ops : Array Oper} {rest : List Oper} {o : Oper} {a : Act} {w : World} {Q : Exit → Act → World → Prop} (hg : o.guard = none) (t : TypeId) (parts : Array (Nat × Operand)) (ho : o.op = .build t parts)
    (c : Array Value) (hf : P.built t (parts.map fun (i, x) => (i, a.eval x)).toList = some c)
    (h : wpList P ops Q rest (a.put o.dst (.agg c)) w) : wpList P ops Q (o :: rest) a w := by
  refine wpList_build hg t parts ho (by rw [hf]; rfl) ?_
  rw [hf]
  exact h
set_option maxHeartbeats 8000000 in
set_option maxRecDepth 100000 in
theorem rword_any (s : ByteArray) (w : World) : Calls Tryd.prog 18 #[.string s] w (BoolT (isWord s.data.toList) w) := by
  go_enter Tryd.func18, Tryd.ntmps18
  go_upto_region 1 with fail
  refine wp_region_lit ?_
  refine wpList_build_to rfl _ _ rfl wordA (by kernel_rfl) ?_
  have hst := word_store w
  have hsz : wordA.size = 32 := by kernel_rfl
  go_wp2_with fail
  have hb : Blk (w.alloc (.cells wordA 64)) w.heap.size wordA 64 := Blk.new rfl
  have HT := Lib.hid ((Touch.refl [] w).alloc (.cells wordA 64))
  obtain ⟨G, hG⟩ : ∃ z, w.heap.size = z := ⟨_, rfl⟩
  obtain ⟨W, hW⟩ : ∃ x, (w.alloc (.cells wordA 64)) = x := ⟨_, rfl⟩
  rw [hG] at hb ⊢
  rw [hW] at hb HT ⊢
  have HB := Lib.hid hb
  clear hb hG hW hst hsz
  go_loop [4] (fun iv => ∃ k : Nat, iv = .int .i64 (k : Int) ∧ k ≤ 32 ∧ ∀ j, j < k → wordL.getD j [] ≠ s.data.toList) (fun iv => 32 - (intOf iv).toNat)
  case atStart => exact ⟨0, rfl, by omega, fun j hj => by omega⟩
  case round =>
    obtain ⟨k, rfl, hk, hno⟩ := hrel
    have HNO := Lib.hid hno
    clear hno
    by_cases hlt : k < 32
    · have dlt : decide ((k : Int) < 32) = true := dT (by omega)
      obtain ⟨T, hT⟩ : ∃ T : ByteArray, ⟨(wordL.getD k []).toArray⟩ = T := ⟨_, rfl⟩
      have hcell := HB.out.cell (i := k) (wordA_get hlt)
      rw [hT] at hcell
      have HTT := Lib.hid hT
      clear hT
      by_cases he : wordL.getD k [] = s.data.toList
      · have hTs : T = s := by rw [← HTT.out, he]
        have hbe : (T.toList == s.toList) = true := by rw [hTs]; exact beq_self_eq_true _
        have HW : Hid (isWord s.data.toList = true) := Lib.hid (by unfold isWord; rw [← he]; exact decide_eq_true (word_get hlt))
        clear he hTs
        go_wp2
        go_ret
        exact ⟨by rw [HW.out]; rfl, HT.out⟩
      · have hTs : ¬ T = s := fun e => he (by rw [← e, ← HTT.out])
        have hbe : (T.toList == s.toList) = false := strF hTs
        have HE := Lib.hid he
        clear he hTs
        go_wp2
        go_round
        case rel => exact ⟨k + 1, by go_num, by omega, fun j hj => by
          rcases Nat.lt_or_ge j k with h | h
          · exact HNO.out j h
          · obtain rfl : j = k := by omega
            exact HE.out⟩
        case measure => simp [intOf]; omega
    · obtain rfl : k = 32 := by omega
      have HW : Hid (isWord s.data.toList = false) := Lib.hid (by
        unfold isWord
        rw [decide_eq_false_iff_not]
        intro hm
        obtain ⟨i, hi, e⟩ := word_mem hm
        exact HNO.out i hi e)
      go_wp2
      go_ret
      exact ⟨by rw [HW.out]; rfl, HT.out⟩
end Go.Proofs.YtdlhaadnfmpldaaDoor
