/-
  The words, as a map.
-/
import Derived.Test.YtdlhaadnfmpldaaDoorTKD
import Derived.Test.YtdlhaadnfmpldaaDoorMP
import Derived.Test.YtdlhaadnfmpldaaDoorSH
set_option linter.unusedVariables false
namespace Go.Proofs.YtdlhaadnfmpldaaDoor
open Go Go.RowKit

theorem var_touch {P : Program} {w w' : World} {n : String} {cs : Array Value} (h : w.var? P n = some cs) (ht : Touch [] w w') : w'.var? P n = some cs := by
  unfold World.var? at h ⊢
  cases hg : P.globalNamed n with
  | none => simp [hg] at h
  | some g =>
    simp only [hg, Option.bind_some] at h ⊢
    have hlt : g < w.heap.size := by
      rcases Nat.lt_or_ge g w.heap.size with h' | h'
      · exact h'
      · simp [Array.getElem?_eq_none h'] at h
    rw [ht.block g hlt (by simp)]
    exact h
/-- What the package-level variables hold. -/
structure Vs (w : World) : Prop where
  syn : ∃ tp p, w.var? Tryd.prog "strconv.ErrSyntax" = some #[.iface tp p]
  rng : ∃ tp p, w.var? Tryd.prog "strconv.ErrRange" = some #[.iface tp p]
  spc : Lib.TabIs Tryd.prog w "strings.asciiSpace" .u8 Lib.asciiSpaceTab
theorem Vs.touch {w w' : World} (h : Vs w) (ht : Touch [] w w') : Vs w' := by
  obtain ⟨tp, p, h1⟩ := h.syn
  obtain ⟨tp2, p2, h2⟩ := h.rng
  exact ⟨⟨tp, p, var_touch h1 ht⟩, ⟨tp2, p2, var_touch h2 ht⟩, var_touch h.spc ht⟩
def listB : ByteArray := ⟨#[112, 114, 111, 103, 114, 97, 109, 32, 114, 101, 115, 111, 117, 114, 99, 101, 32, 115, 101, 109, 97, 112, 104, 111, 114, 101, 32, 115, 104, 97, 114, 101, 100, 32, 118, 97, 114, 32, 112, 114, 111, 99, 101, 100, 117, 114, 101, 32, 99, 108, 97, 105, 109, 115, 32, 98, 101, 103, 105, 110, 32, 101, 110, 100, 32, 105, 102, 32, 116, 104, 101, 110, 32, 101, 108, 115, 101, 32, 102, 105, 32, 119, 104, 105, 108, 101, 32, 100, 111, 32, 111, 100, 32, 99, 111, 98, 101, 103, 105, 110, 32, 99, 111, 101, 110, 100, 32, 114, 101, 103, 105, 111, 110, 32, 119, 104, 101, 110, 32, 114, 101, 113, 117, 101, 115, 116, 32, 114, 101, 108, 101, 97, 115, 101, 32, 119, 114, 105, 116, 101, 32, 114, 101, 97, 100, 32, 115, 107, 105, 112, 32, 116, 114, 117, 101, 32, 102, 97, 108, 115, 101, 32, 97, 110, 100, 32, 111, 114, 32, 110, 111, 116]⟩
theorem list_fields : Lib.fields listB.data.toList = wordL.take 30 := by decide +kernel
theorem list_ascii : ∀ (j : Nat) b, listB.data.toList[j]? = some b → b.toNat < 128 := fun j b h => by
  have : ∀ b ∈ listB.data.toList, b.toNat < 128 := by decide +kernel
  exact this b (List.mem_of_getElem? h)
/-- The words' map. -/
def wdM (k : ByteArray) : Option Value := if isWord k.data.toList = true then some (.bool true) else none
def mI (i : Nat) (k : ByteArray) : Option Value := if k.data.toList ∈ wordL.take i ∨ k.data.toList = [80] ∨ k.data.toList = [86] then some (.bool true) else none
theorem ba_iff (k : ByteArray) (l : List UInt8) : k = ⟨l.toArray⟩ ↔ k.data.toList = l := by
  constructor
  · rintro rfl; simp
  · intro h
    apply ByteArray.ext
    rw [← h]
theorem take_one {l : List (List UInt8)} {i : Nat} (h : i < l.length) : l.take (i + 1) = l.take i ++ [l.getD i []] := by
  rw [List.take_add_one, List.getD_eq_getElem?_getD, List.getElem?_eq_getElem h]
  rfl
theorem wordL_len : wordL.length = 32 := by decide
theorem wd_step {i : Nat} (hi : i < 30) (k : ByteArray) : mI (i + 1) k = putM (mI i) ⟨(wordL.getD i []).toArray⟩ (.bool true) k := by
  have hl : i < wordL.length := by rw [wordL_len]; omega
  unfold putM
  by_cases h : k = ⟨(wordL.getD i []).toArray⟩
  · rw [if_pos h]
    unfold mI
    rw [if_pos (.inl (by rw [take_one hl, (ba_iff _ _).1 h]; simp))]
  · rw [if_neg h]
    unfold mI
    have hk : ¬ k.data.toList = wordL.getD i [] := fun e => h ((ba_iff _ _).2 e)
    rw [take_one hl]
    congr 1
    simp only [List.mem_append, List.mem_singleton, hk, or_false]
theorem wd_two (k : ByteArray) : mI 0 k = putM (putM (fun _ => none) ⟨#[80]⟩ (.bool true)) ⟨#[86]⟩ (.bool true) k := by
  unfold mI putM
  by_cases h1 : k = ⟨#[86]⟩
  · rw [if_pos h1, if_pos (.inr (.inr (by rw [h1])))]
  · rw [if_neg h1]
    by_cases h2 : k = ⟨#[80]⟩
    · rw [if_pos h2, if_pos (.inr (.inl (by rw [h2])))]
    · rw [if_neg h2, if_neg]
      rintro (h | h | h)
      · simp at h
      · exact h2 ((ba_iff k [80]).2 h)
      · exact h1 ((ba_iff k [86]).2 h)
theorem wd_all (k : ByteArray) : wdM k = mI 30 k := by
  unfold wdM mI isWord
  have e : wordL = wordL.take 30 ++ [[80], [86]] := by decide +kernel
  by_cases h : k.data.toList ∈ wordL
  · rw [if_pos (decide_eq_true h), if_pos]
    rw [e] at h
    simpa using h
  · rw [if_neg (by rw [decide_eq_true_iff]; exact h), if_neg]
    rw [e] at h
    simpa using h
def WordsP (w : World) (e : Ending) (w' : World) : Prop := ∃ mb n, e = .returned (.map (some mb)) ∧ Mp Value.string w' mb wdM n ∧ w.heap.size ≤ mb ∧ Touch [] w w'
set_option maxHeartbeats 8000000 in
set_option maxRecDepth 100000 in
theorem words_any (w : World) (hv : Vs w) : Calls Tryd.prog 14 #[] w (WordsP w) := by
  have HV := Lib.hid hv
  have hmm := @run_makeMap Tryd.prog
  obtain ⟨w1, hr1, hm1, ht1, hz1⟩ := Mp.put (P := Tryd.prog) (T := 41) strKey Tryd.underlying41 Tryd.underlying9 (Mp.new (enc := Value.string) (w := w)) ⟨#[80]⟩ (.bool true)
  obtain ⟨w2, hr2, hm2, ht2, hz2⟩ := Mp.put (P := Tryd.prog) (T := 41) strKey Tryd.underlying41 Tryd.underlying9 hm1 ⟨#[86]⟩ (.bool true)
  have hm3 := hm2.congr wd_two
  have hT2 : Touch [] w w2 := ((Touch.refl [] w).alloc (.map #[] 0)).transF (ht1.trans ht2) (fun q hq hlt => by have := List.mem_singleton.1 hq; omega)
  obtain ⟨mb, hmb⟩ : ∃ z, w.heap.size = z := ⟨_, rfl⟩
  rw [hmb] at hm3 hr1 hr2
  have HM := Lib.hid hm3
  have HT2 := Lib.hid hT2
  have HMB : Hid (w.heap.size = mb) := Lib.hid hmb
  have HFL := Lib.hid (Tryd.strings_Fields listB w2 (by decide) list_ascii (HV.out.touch hT2).spc)
  clear hv hm1 hm2 hm3 ht1 ht2 hz1 hz2 hT2
  go_enter Tryd.func14, Tryd.ntmps14
  go_wp2_with fail
  clear hmm hr1 hr2
  refine HFL.out.mono ?_
  rintro e w3 ⟨rfl, rfl⟩
  rw [list_fields]
  have hb : Blk (w2.alloc (.cells ((wordL.take 30).map fun l => Value.string ⟨l.toArray⟩).toArray 9)) w2.heap.size ((wordL.take 30).map fun l => Value.string ⟨l.toArray⟩).toArray 9 := Blk.new rfl
  have hml : mb < w2.heap.size := HM.out.lt
  have HM3 := Lib.hid (HM.out.touch ((Touch.refl [] w2).alloc (.cells ((wordL.take 30).map fun l => Value.string ⟨l.toArray⟩).toArray 9)) (by simp))
  have HT3 := Lib.hid (HT2.out.alloc (.cells ((wordL.take 30).map fun l => Value.string ⟨l.toArray⟩).toArray 9))
  obtain ⟨G, hG⟩ : ∃ z, w2.heap.size = z := ⟨_, rfl⟩
  obtain ⟨W, hW⟩ : ∃ x, (w2.alloc (.cells ((wordL.take 30).map fun l => Value.string ⟨l.toArray⟩).toArray 9)) = x := ⟨_, rfl⟩
  rw [hG] at hb hml
  rw [hW] at hb HM3 HT3
  rw [hG, hW]
  have h30 : (wordL.take 30).length = 30 := by decide
  rw [h30]
  have HB := Lib.hid hb
  have HML := Lib.hid hml
  clear hb hml hG hW HFL h30
  go_wp2_with fail
  go_loopw [8] (fun iv wr => ∃ i n : Nat, i ≤ 30 ∧ iv = .int .i64 (i : Int) ∧ Mp Value.string wr mb (mI i) n ∧ Touch [mb] W wr) (fun iv _ => 31 - (intOf iv).toNat)
  case atStart => exact ⟨0, _, by omega, rfl, HM3.out, Touch.refl _ _⟩
  case round =>
    obtain ⟨i, n, hi0, rfl, hmi, ht⟩ := hrel
    have HMI := Lib.hid hmi
    have HT := Lib.hid ht
    by_cases hin : i < 30
    · have hlt : (i : Int) < 30 := by omega
      have x0 : wr.cell? ⟨G, i, none⟩ = some (.string ⟨(wordL.getD i []).toArray⟩) := by
        refine (HB.out.touch ht (by have := HML.out; simp; omega)).cell ?_
        rw [List.getElem?_toArray, List.getElem?_map, List.getElem?_take, if_pos hin, List.getD_eq_getElem?_getD, List.getElem?_eq_getElem (show i < wordL.length from by rw [wordL_len]; omega)]
        rfl
      obtain ⟨w5, hr5, hm5, ht5, hz5⟩ := Mp.put (P := Tryd.prog) (T := 41) strKey Tryd.underlying41 Tryd.underlying9 hmi ⟨(wordL.getD i []).toArray⟩ (.bool true)
      have HM5 := Lib.hid (hm5.congr (wd_step hin))
      have HT5 := Lib.hid (ht.trans ht5)
      obtain ⟨s5, hs5⟩ : ∃ z : ByteArray, ⟨(wordL.getD i []).toArray⟩ = z := ⟨_, rfl⟩
      rw [hs5] at x0 hr5
      clear hmi ht hm5 ht5 hz5 hs5
      go_wp2_with fail
      go_roundw
      case rel => exact ⟨i + 1, _, by omega, by go_num, HM5.out, HT5.out⟩
      case measure => simp [intOf]; omega
    · obtain rfl : i = 30 := by omega
      have HME := Lib.hid (hmi.congr wd_all)
      have HTE : Hid (Touch [] w wr) := Lib.hid (HT3.out.transF ht (fun q hq hlt => by have := List.mem_singleton.1 hq; have := HMB.out; omega))
      clear hmi ht
      go_wp2_with fail
      go_ret
      exact ⟨mb, n, rfl, HME.out, by have := HMB.out; omega, HTE.out⟩
end Go.Proofs.YtdlhaadnfmpldaaDoor
