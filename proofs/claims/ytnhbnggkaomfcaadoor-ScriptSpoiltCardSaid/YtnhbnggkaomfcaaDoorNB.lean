/-
  The reference's Words: a text's words between single blanks.
-/
import Derived.Test.YtnhbnggkaomfcaaDoorNA
import Derived.Test.YtnhbnggkaomfcaaDoorV2
import Derived.Lib.CutLaws
import Derived.Deep.Cut
import Derived.Deep.CutBlock
import Derived.Lib.AppendZeros
set_option linter.unusedVariables false
namespace Go.Proofs.YtnhbnggkaomfcaaDoor
open Go Go.RowKit

def mk (l : List UInt8) : ByteArray := ⟨l.toArray⟩
theorem mk_list (l : List UInt8) : (mk l).data.toList = l := by simp [mk]
theorem mk_of (s : ByteArray) : mk s.data.toList = s := bytes_eq (mk_list _)
/-- v is a slice of the call's own of these strings. -/
def Ws (w : World) (base : Nat) (v : Value) (l : List ByteArray) : Prop := Av w base 9 1 v l.length (fun i _ => .string (l.getD i ByteArray.empty))
theorem Ws.touch {w w' : World} {base : Nat} {v : Value} {l : List ByteArray} (h : Ws w base v l) (ht : Touch [] w w') : Ws w' base v l := Av.touch h ht (by simp)
theorem Ws.form {w : World} {base : Nat} {v : Value} {l : List ByteArray} (h : Ws w base v l) : ∃ a c, v = .slice a l.length c := by obtain ⟨a, c, h, _⟩ := Av.form h; exact ⟨a, c, h⟩
theorem Ws.empty (w : World) : Ws (w.alloc (.cells #[] 9)) w.heap.size (.slice (some ⟨w.heap.size, 0, none⟩) 0 0) [] :=
  .inr ⟨w.heap.size, 0, #[], rfl, Nat.le_refl _, Blk.new rfl, Nat.le_refl _, Nat.zero_le _, Nat.zero_le _, fun i hi => by simp at hi⟩
theorem Ws.at {w : World} {base n cap : Nat} {a : Option Addr} {l : List ByteArray} (h : Ws w base (.slice a n cap) l) {i : Nat} (hi : i < l.length) :
    ∃ g, a = some ⟨g, 0, none⟩ ∧ l.length ≤ cap ∧ ∀ w', Touch [] w w' → w'.cell? ⟨g, i, none⟩ = some (.string (l.getD i ByteArray.empty)) := by
  obtain ⟨g, c, hv, hb, hg, h1, h2, h3, _⟩ := Av.at h hi
  cases hv
  have h4 := h3 0 (by omega)
  rw [Nat.mul_one, Nat.add_zero] at h4
  exact ⟨g, rfl, h1, fun w' ht => by rw [World.cell?_of_block (w := w) (a := ⟨g, i, none⟩) (ht.block g hg (by simp))]; exact h4⟩
theorem infoStr : ∃ (i : TypeInfo) (z : Value), Tryd.prog.info? 9 = some i ∧ i.zero = some z ∧ i.size = 1 ∧ z.cells.size = 1 ∧ i.bytes ≤ 64 := by
  obtain ⟨i, hi⟩ := Option.isSome_iff_exists.mp (show (Tryd.prog.info? 9).isSome = true from by kernel_rfl)
  have h2 : (Tryd.prog.info? 9).map (fun i => (i.zero.isSome, i.size, decide (i.bytes ≤ 64), (i.zero.map fun z => z.cells.size))) = some (true, 1, true, some 1) := by kernel_rfl
  rw [hi] at h2
  simp at h2
  obtain ⟨h3, h4, h5, h6⟩ := h2
  obtain ⟨z, hz, hz2⟩ := h6
  exact ⟨i, z, hi, hz, h4, hz2, h5⟩
/-- One string more. -/
theorem str_born (w0 wd : World) (v : Value) (l : List ByteArray) (x : ByteArray) (h : Ws wd w0.heap.size v l) (ht : Touch [] w0 wd) (hn : l.length ≤ 100000000000) :
    ∃ v' w2, (∀ ty, (Builtin.append_ #[53, 53] ty #[v, .slice (some ⟨wd.heap.size, 0, none⟩) 1 1]).run Tryd.prog (wd.alloc (.cells #[.string x] 9)) = .ok v' w2) ∧
      Ws w2 w0.heap.size v' (l ++ [x]) ∧ Touch [] w0 w2 ∧ ∃ a c, v' = .slice a (l.length + 1) c := by
  obtain ⟨i, z, hi, hz, h5, hz5, h64⟩ := infoStr
  have bp : Blk (wd.alloc (.cells #[.string x] 9)) wd.heap.size #[.string x] 9 := Blk.new rfl
  have t3 : Touch [] wd (wd.alloc (.cells #[.string x] 9)) := (Touch.refl _ _).alloc _
  have hs1 := ht.size
  obtain ⟨v2, w2, r2, A2, g2, o2⟩ := Av.append (t := 53) Tryd.underlying53 hi hz h5 rfl hz5 (h.touch t3) (by simp; omega) ⟨wd.heap.size, 0, none⟩ 1 (fun _ => .string x) (fun j hj => by
    rw [Addr.add_lit, Nat.zero_add]
    obtain rfl : j = 0 := by omega
    exact bp.cell rfl) (fun j hj => rfl) (by have := Nat.mul_le_mul_left (l.length + 1) h64; omega) (by omega)
  refine ⟨v2, w2, r2, ?_, (ht.trans t3).transF (Touch.grown (S := v.ownBlock.toList) (Touch.refl _ _) g2 (fun k hk _ => by simp [hk])) (fun k hk hl => by have := (Av.own h k (by simpa using hk)).1; omega), ?_⟩
  · unfold Ws
    rw [show (l ++ [x]).length = l.length + 1 from by simp]
    refine Av.congr A2 fun a ha j hj => ?_
    by_cases e : a = l.length
    · subst e; rw [addV_new]; simp
    · rw [addV_old _ _ _ e, List.getD_eq_getElem?_getD, List.getD_eq_getElem?_getD, List.getElem?_append_left (by omega)]
  · obtain ⟨a2, c2, e2, _⟩ := A2.form
    exact ⟨a2, c2, e2⟩
/-- what Words has told at place i: the words so far, and the one that has begun. -/
def At (L : List UInt8) (f i : Nat) (done : List (List UInt8)) : Prop := words L = done ++ pre ((L.drop f).take (i - f)) (words (L.drop i))
theorem At.zero (L : List UInt8) : At L 0 0 [] := by
  unfold At
  simp [pre_nil (words_ne L)]
theorem At.other {L : List UInt8} {f i : Nat} {done : List (List UInt8)} (h : At L f i done) (hf : f ≤ i) (hi : i < L.length) (hb : L[i] ≠ 32) : At L f (i + 1) done := by
  unfold At at h ⊢
  rw [h, List.drop_eq_getElem_cons hi, words_other hb]
  congr 2
  rw [show i + 1 - f = (i - f) + 1 from by omega, List.take_succ_eq_append_getElem (by simp; omega)]
  simp [show f + (i - f) = i from by omega]
theorem At.blank {L : List UInt8} {f i : Nat} {done : List (List UInt8)} (h : At L f i done) (hf : f ≤ i) (hi : i < L.length) (hb : L[i] = 32) : At L (i + 1) (i + 1) (done ++ [(L.drop f).take (i - f)]) := by
  unfold At at h ⊢
  rw [h, List.drop_eq_getElem_cons hi, hb, words_blank]
  simp [pre_nil (words_ne _)]
theorem At.fin {L : List UInt8} {f : Nat} {done : List (List UInt8)} (h : At L f L.length done) : words L = done ++ [(L.drop f).take (L.length - f)] := by
  unfold At at h
  rw [h]
  simp [words, pre]
theorem At.len {L : List UInt8} {f i : Nat} {done : List (List UInt8)} (h : At L f i done) : done.length ≤ L.length := by
  have := words_length_le L
  unfold At at h
  rw [h] at this
  have h2 : 1 ≤ (pre ((L.drop f).take (i - f)) (words (L.drop i))).length := by
    cases words (L.drop i) <;> simp [pre]
  simp at this
  omega
theorem ex_mk (s : ByteArray) (f i : Nat) (hf : f ≤ i) (hi : i ≤ s.size) : s.extract f i = mk ((s.data.toList.drop f).take (i - f)) := by
  apply bytes_eq
  rw [Lib.extract_data, mk_list]
def WordsP (s : ByteArray) (w : World) (e : Ending) (w' : World) : Prop := ∃ v, e = .returned v ∧ Ws w' w.heap.size v ((words s.data.toList).map mk) ∧ Touch [] w w'
set_option maxHeartbeats 8000000 in
theorem words_any (s : ByteArray) (w : World) (hs : s.size ≤ 100000000) : Calls Tryd.prog 27 #[.string s] w (WordsP s w) := by
  have hsz : s.data.toList.length = s.size := by rw [Array.length_toList]; rfl
  have HZ := Lib.hid hsz
  clear hsz
  go_enter Tryd.func27, Tryd.ntmps27
  go_wp2
  go_loopw [3, 4, 5] (fun ov fv iv wr => ∃ (f i : Nat) (done : List (List UInt8)), fv = .int .i64 (f : Int) ∧ iv = .int .i64 (i : Int) ∧ Ws wr w.heap.size ov (done.map mk) ∧ Touch [] w wr ∧ ((i ≤ s.size ∧ f ≤ i ∧ At s.data.toList f i done) ∨ (i = s.size + 1 ∧ words s.data.toList = done))) (fun _ _ iv _ => s.size + 2 - (intOf iv).toNat)
  case atStart => exact ⟨0, 0, [], rfl, rfl, Ws.empty w, (Touch.refl _ _).alloc _, .inl ⟨by omega, by omega, At.zero _⟩⟩
  case round =>
    obtain ⟨f, i, done, rfl, rfl, ha, ht, hc⟩ := hrel
    obtain ⟨va, vc, hv⟩ := ha.form
    subst hv
    have HA := Lib.hid ha
    have HT := Lib.hid ht
    rcases hc with ⟨hi, hf, hat⟩ | ⟨hi, hw⟩
    · have hlen := hat.len
      have HAt := Lib.hid hat
      have hdl : done.length ≤ s.size := by rw [HZ.out] at hlen; exact hlen
      obtain ⟨n, hn⟩ : ∃ n, (done.map mk).length = n := ⟨_, rfl⟩
      have hn' : n ≤ s.size := by rw [← hn]; simpa using hdl
      obtain ⟨v', w2, hr, hA2, hT2, a2, c2, hv2⟩ := str_born w wr (.slice va (done.map mk).length vc) (done.map mk) (s.extract f i) HA.out HT.out (by omega)
      subst hv2
      have HR := Lib.hid hr
      have HA2 := Lib.hid hA2
      have HT2 := Lib.hid hT2
      rw [hn] at HR HA2 ⊢
      have HN := Lib.hid hn
      clear ha ht hat hlen hr hA2 hT2 hn
      by_cases hlt : i < s.size
      · have hiL : i < s.data.toList.length := by rw [HZ.out]; exact hlt
        have hie : ((i : Int) == (s.size : Int)) = false := beqF (by omega)
        by_cases hb : s.data.toList[i] = 32
        · have hb' : ((s[i].toNat : Int) == 32) = true := by
            have e : s[i] = 32 := hb
            rw [e]; rfl
          have HB := Lib.hid hb
          clear hb
          go_wp2_with (at_builtin; refine Lib.wpList_append_run _ rfl _ _ _ _ rfl _ _ rfl rfl _ _ (HR.out _) ?_)
          clear HR
          go_wp2
          go_roundw
          case rel =>
            refine ⟨i + 1, i + 1, done ++ [(s.data.toList.drop f).take (i - f)], by go_num, by go_num, ?_, HT2.out, .inl ⟨by omega, by omega, HAt.out.blank hf hiL HB.out⟩⟩
            have := HA2.out
            rw [ex_mk s f i hf (by omega)] at this
            rw [List.map_append]
            exact this
          case measure => simp [intOf]; omega
        · have hb' : ((s[i].toNat : Int) == 32) = false := by
            refine beqF fun e => hb ?_
            have e2 : s[i].toNat = 32 := by omega
            exact UInt8.toNat_inj.1 (e2.trans (by decide))
          have HB := Lib.hid hb
          clear hb HR HA2 HT2
          go_wp2
          go_roundw
          case rel =>
            refine ⟨f, i + 1, done, rfl, by go_num, ?_, HT.out, .inl ⟨by omega, by omega, HAt.out.other hf hiL HB.out⟩⟩
            have := HA.out
            rw [HN.out] at this
            exact this
          case measure => simp [intOf]; omega
      · obtain rfl : i = s.size := by omega
        go_wp2_with (at_builtin; refine Lib.wpList_append_run _ rfl _ _ _ _ rfl _ _ rfl rfl _ _ (HR.out _) ?_)
        clear HR
        go_wp2
        go_roundw
        case rel =>
          refine ⟨s.size + 1, s.size + 1, done ++ [(s.data.toList.drop f).take (s.size - f)], by go_num, by go_num, ?_, HT2.out, .inr ⟨rfl, ?_⟩⟩
          · have := HA2.out
            rw [ex_mk s f s.size hf (by omega)] at this
            rw [List.map_append]
            exact this
          · have := HAt.out
            rw [← HZ.out] at this ⊢
            exact this.fin
        case measure => simp [intOf]
    · subst hi
      have HW := Lib.hid hw
      clear ha ht hw
      go_wp2
      go_ret
      exact ⟨_, rfl, by rw [HW.out]; exact HA.out, HT.out⟩
end Go.Proofs.YtnhbnggkaomfcaaDoor
