/-
  Layer 33: what is read of a text that is known; the law's own awakening.
-/
import Derived.Test.YtnhbnggkaomfcaaDoorSO
set_option linter.unusedVariables false
namespace Go.Proofs.YtnhbnggkaomfcaaDoor
open Go Go.RowKit

/-- What Read and ReadScript give back: the job by its parts, the line, the code. -/
def RdJ (j : Jb) (n : Nat) (c : Int) (w : World) (e : Ending) (w' : World) : Prop := ∃ ai ci ap cp, e = .returned (.tuple #[.agg #[.bool j.cl, .int .i64 j.a, .int .i64 j.b, .int .i64 j.c, .slice ai j.inp.length ci, .slice ap j.pk.length cp], .int .i64 (n : Int), .int .i64 c]) ∧ Hid (Sl w' (.slice ai j.inp.length ci) j.inp ∧ Sl w' (.slice ap j.pk.length cp) j.pk ∧ Touch [] w w')
theorem rdJ_of {s : List UInt8} {j : Jb} {n : Nat} {c : Int} {w w' : World} {e : Ending} (h : RdS (lnsR s).1 (lnsR s).2 j n c) (hr : RdR s w e w') : RdJ j n c w e w' := by
  obtain ⟨v, j', n', c', rfl, ⟨vi, vp, rfl, s1, s2⟩, hs, ht⟩ := hr
  obtain ⟨rfl, rfl, rfl⟩ := RdS.uniq hs h
  obtain ⟨ai, ci, rfl, h1⟩ := s1
  obtain ⟨ap, cp, rfl, h2⟩ := s2
  exact ⟨ai, ci, ap, cp, rfl, Lib.hid ⟨⟨ai, ci, rfl, h1⟩, ⟨ap, cp, rfl, h2⟩, ht⟩⟩
theorem jread_is {j : Jb} {n : Nat} {c : Int} (s : ByteArray) (w : World) (hv : Vs w) (hs : s.size ≤ 50000) (h : RdS (lnsR s.data.toList).1 (lnsR s.data.toList).2 j n c) : Calls Tryd.prog 9 #[.string s] w (RdJ j n c w) :=
  (jread_any s w hv (by omega)).mono fun _ _ hr => rdJ_of h hr
theorem rscript_is {j : Jb} {n : Nat} {c : Int} (s : ByteArray) (w : World) (hs : s.size ≤ 50000) (h : RdS (lnsR s.data.toList).1 (lnsR s.data.toList).2 j n c) : Calls Tryd.prog 11 #[.string s] w (RdJ j n c w) :=
  (rscript_any s w hs).mono fun _ _ hr => rdJ_of h hr
theorem dec2 (n : Nat) (h1 : 10 ≤ n) (h2 : n < 100) : Lib.itoa (n : Int) = [UInt8.ofNat (48 + n / 10), UInt8.ofNat (48 + n % 10)] := by
  rw [Lib.itoa_nonneg, Lib.decDigits, dif_neg (by omega), Lib.decDigits_one (by omega)]
  rfl
theorem i_64 : Lib.itoa 64 = [54, 52] := dec2 64 (by omega) (by omega)
theorem i_900 : Lib.itoa 900 = [57, 48, 48] := by
  rw [show (900 : Int) = ((900 : Nat) : Int) from rfl, Lib.itoa_nonneg, Lib.decDigits, dif_neg (by omega), Lib.decDigits, dif_neg (by omega), Lib.decDigits_one (by omega)]
  rfl
theorem i_4 : Lib.itoa 4 = [52] := itoa_d 4 (by omega)
theorem i_7 : Lib.itoa 7 = [55] := itoa_d 7 (by omega)
theorem i_0 : Lib.itoa 0 = [48] := itoa_d 0 (by omega)
theorem i_m1 : Lib.itoa (-1) = [45, 49] := itoa_m 1 (by omega) (by omega)
def s1 : ByteArray := ⟨#[99, 108, 97, 105, 109, 101, 100, 10, 108, 105, 109, 105, 116, 115, 32, 52, 32, 54, 52, 32, 57, 48, 48, 10, 105, 110, 112, 117, 116, 32, 55, 10, 112, 105, 99, 107, 115, 10]⟩
def s2 : ByteArray := ⟨#[99, 108, 97, 105, 109, 101, 100, 10, 108, 105, 109, 105, 116, 115, 32, 52, 32, 54, 52, 10, 105, 110, 112, 117, 116, 10, 112, 105, 99, 107, 115, 10]⟩
def s3 : ByteArray := ⟨#[117, 110, 99, 108, 97, 105, 109, 101, 100, 10, 108, 105, 109, 105, 116, 115, 32, 48, 32, 48, 32, 48, 10, 105, 110, 112, 117, 116, 10, 112, 105, 99, 107, 115, 32, 45, 49, 10]⟩
def j1 : Jb := ⟨true, 4, 64, 900, [7], []⟩
def j3 : Jb := ⟨false, 0, 0, 0, [], [-1]⟩
theorem tx1 : textJ j1 = s1.data.toList := by
  show wCl ++ 10 :: ((wLim ++ (32 :: Lib.itoa 4 ++ (32 :: Lib.itoa 64 ++ (32 :: Lib.itoa 900 ++ [])))) ++ 10 :: ((wInp ++ (32 :: Lib.itoa 7 ++ [])) ++ 10 :: ((wPk ++ []) ++ [10]))) = _
  rw [i_4, i_64, i_900, i_7]
  rfl
theorem tx3 : mk (textJ j3) = s3 := by
  have h : textJ j3 = s3.data.toList := by
    show wUn ++ 10 :: ((wLim ++ (32 :: Lib.itoa 0 ++ (32 :: Lib.itoa 0 ++ (32 :: Lib.itoa 0 ++ [])))) ++ 10 :: ((wInp ++ []) ++ 10 :: ((wPk ++ (32 :: Lib.itoa (-1) ++ [])) ++ [10]))) = _
    rw [i_0, i_m1]
    rfl
  rw [h, mk_of]
theorem mem1 {P : Int → Prop} {a : Int} (h : P a) : ∀ x ∈ [a], P x := fun x hx => by rw [List.mem_singleton.1 hx]; exact h
theorem mem0 {P : Int → Prop} : ∀ x ∈ ([] : List Int), P x := fun x hx => by cases hx
theorem in1 : InJ j1 := ⟨in_small _ (by decide) (by decide), in_small _ (by decide) (by decide), in_small _ (by decide) (by decide), mem1 (in_small _ (by omega) (by omega)), mem0⟩
theorem in3j : InJ j3 := ⟨in_small _ (by decide) (by decide), in_small _ (by decide) (by decide), in_small _ (by decide) (by decide), mem0, mem1 (in_small _ (by omega) (by omega))⟩
theorem sl1 {w : World} {g : Nat} {x : Int} {T : TypeId} (h : Blk w g #[.int .i64 x] T) : Sl w (.slice (some ⟨g, 0, none⟩) 1 1) [x] :=
  ⟨_, _, rfl, .inr ⟨g, 0, rfl, h.lt, fun j hj => by
    obtain rfl : j = 0 := by simp at hj; omega
    exact h.cell rfl⟩⟩
theorem rd1 : RdS (lnsR s1.data.toList).1 (lnsR s1.data.toList).2 j1 0 0 := by
  rw [← tx1]
  exact read_text in1
theorem rd2 : RdS (lnsR s2.data.toList).1 (lnsR s2.data.toList).2 zeroJ 2 6 := by
  have h : lnsR s2.data.toList = ([wCl, wLim ++ [32, 52, 32, 54, 52], wInp, wPk], []) := by decide +kernel
  have hl : lineN wLim (wLim ++ [32, 52, 32, 54, 52]) = some [4, 64] := by
    have h1 := lineN_text (w := wLim) (l := [4, 64]) (by decide) (fun x hx => by
      simp only [List.mem_cons, List.not_mem_nil, or_false] at hx
      rcases hx with rfl | rfl
      · exact in_small _ (by omega) (by omega)
      · exact in_small _ (by omega) (by omega))
    have h2 : numsT [4, 64] = [32, 52, 32, 54, 52] := by
      show 32 :: Lib.itoa 4 ++ (32 :: Lib.itoa 64 ++ []) = _
      rw [i_4, i_64]
      rfl
    rw [h2] at h1
    exact h1
  rw [h]
  refine .inl ⟨1, by omega, ⟨by simp, fun i hi => ?_⟩, .inr ⟨by simp, ?_⟩, rfl, rfl, rfl⟩
  · obtain rfl : i = 0 := by omega
    exact .inl rfl
  · rintro ⟨a, b, c, e⟩
    have e2 : lineN wLim (wLim ++ [32, 52, 32, 54, 52]) = some [a, b, c] := e
    rw [hl] at e2
    cases e2
set_option maxHeartbeats 16000000 in
set_option maxRecDepth 100000 in
theorem awake_any (w : World) (hv : Vs w) : Calls Tryd.prog 6 #[] w (TrueP w) := by
  have HV := Lib.hid hv
  clear hv
  go_enter Tryd.func6, Tryd.ntmps6
  go_wp2_with fail
  refine (jread_is s1 _ HV.out (by decide) rd1).mono ?_
  rintro e w1 ⟨ai, ci, ap, cp, rfl, H1⟩
  simp only [j1, List.length_cons, List.length_nil, Nat.zero_add] at H1 ⊢
  have HT1 := Lib.hid (H1.out.2.2.alloc (.cells #[.bool true, .int .i64 4, .int .i64 64, .int .i64 900, .slice ai 1 ci, .slice ap 0 cp] 26))
  have hb1 : Blk (w1.alloc (.cells #[.bool true, .int .i64 4, .int .i64 64, .int .i64 900, .slice ai 1 ci, .slice ap 0 cp] 26)) w1.heap.size #[.bool true, .int .i64 4, .int .i64 64, .int .i64 900, .slice ai 1 ci, .slice ap 0 cp] 26 := Blk.new rfl
  have HB1 := Lib.hid hb1
  clear hb1
  go_wp2_with fail
  refine (jread_is s2 _ (HV.out.touch HT1.out) (by decide) rd2).mono ?_
  rintro e w2 ⟨ai2, ci2, ap2, cp2, rfl, H2⟩
  simp only [zeroJ, List.length_nil] at H2 ⊢
  have HT2 := Lib.hid ((HT1.out.trans H2.out.2.2).alloc (.cells #[.bool false, .int .i64 0, .int .i64 0, .int .i64 0, .slice ai2 0 ci2, .slice ap2 0 cp2] 26))
  have HB2 := Lib.hid ((HB1.out.touch H2.out.2.2 (by simp)).alloc (.cells #[.bool false, .int .i64 0, .int .i64 0, .int .i64 0, .slice ai2 0 ci2, .slice ap2 0 cp2] 26))
  have HT3 := Lib.hid (HT2.out.alloc (.cells #[.int .i64 (-1)] 3))
  have HB3 := HB2.out.alloc (.cells #[.int .i64 (-1)] 3)
  have hn3 : Blk ((w2.alloc (.cells #[.bool false, .int .i64 0, .int .i64 0, .int .i64 0, .slice ai2 0 ci2, .slice ap2 0 cp2] 26)).alloc (.cells #[.int .i64 (-1)] 3)) (w2.heap.size + 1) #[.int .i64 (-1)] 3 := Blk.new (by simp)
  have c0 := HB2.out.cell (i := 0) rfl
  have c1 := HB2.out.cell (i := 1) rfl
  have c2 := HB2.out.cell (i := 2) rfl
  have c3 := HB2.out.cell (i := 3) rfl
  have c4 := HB2.out.cell (i := 4) rfl
  have d0 := HB3.cell (i := 0) rfl
  have d1 := HB3.cell (i := 1) rfl
  have d2 := HB3.cell (i := 2) rfl
  have d3 := HB3.cell (i := 3) rfl
  have d4 := HB3.cell (i := 4) rfl
  have HN3 := Lib.hid hn3
  clear hn3 HB3
  go_wp2_with fail
  refine (text_any _ j3 _ (HV.out.touch HT3.out) ⟨_, _, rfl, Sl.nil _, sl1 HN3.out⟩ in3j (by decide) (by decide)).mono ?_
  rintro e w3 ⟨rfl, ht3⟩
  rw [tx3]
  have HT4 := Lib.hid (HT3.out.trans ht3)
  clear ht3 c0 c1 c2 c3 c4 d0 d1 d2 d3 d4
  unfold s3
  go_wp2_with fail
  go_ret
  exact ⟨rfl, HT4.out⟩
end Go.Proofs.YtnhbnggkaomfcaaDoor
