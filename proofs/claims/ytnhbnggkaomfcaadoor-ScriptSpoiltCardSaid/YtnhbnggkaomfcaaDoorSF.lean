/-
  Jobs as texts: Text, and the reference's.
-/
import Derived.Test.YtnhbnggkaomfcaaDoorSE
set_option linter.unusedVariables false
namespace Go.Proofs.YtnhbnggkaomfcaaDoor
open Go Go.RowKit

theorem text_list (j : Jb) : textJ j = [] ++ (l0T j ++ [10]) ++ (wLim ++ (numsT [j.a, j.b, j.c] ++ [10])) ++ (wInp ++ (numsT j.inp ++ [10])) ++ (wPk ++ (numsT j.pk ++ [10])) := by
  unfold textJ l1T l2T l3T; simp
set_option maxHeartbeats 8000000 in
set_option maxRecDepth 100000 in
theorem text_any (v : Value) (j : Jb) (w : World) (hv : Vs w) (h : JobV w v j) (hj : InJ j) (l1 : j.inp.length ≤ 1300) (l2 : j.pk.length ≤ 1300) :
    Calls Tryd.prog 7 #[v] w (StrP (mk (textJ j)) w) := by
  obtain ⟨vi, vp, rfl, hvi, hvp⟩ := h
  have HV := Lib.hid hv
  have HI := Lib.hid hvi
  have HP := Lib.hid hvp
  have HJ := Lib.hid hj
  have HTJ := Lib.hid (text_list j)
  obtain ⟨ai, ci, rfl, _⟩ := hvi
  obtain ⟨ap, cp, rfl, _⟩ := hvp
  obtain ⟨B, hB⟩ : ∃ B, w.heap.size = B := ⟨_, rfl⟩
  have HBB := Lib.hid hB
  have bj : Blk (w.alloc (.cells #[.bool j.cl, .int .i64 j.a, .int .i64 j.b, .int .i64 j.c, .slice ai j.inp.length ci, .slice ap j.pk.length cp] 26)) B #[.bool j.cl, .int .i64 j.a, .int .i64 j.b, .int .i64 j.c, .slice ai j.inp.length ci, .slice ap j.pk.length cp] 26 := Blk.new hB.symm
  have tj : Touch [] w (w.alloc (.cells #[.bool j.cl, .int .i64 j.a, .int .i64 j.b, .int .i64 j.c, .slice ai j.inp.length ci, .slice ap j.pk.length cp] 26)) := (Touch.refl [] w).alloc _
  have sj : (w.alloc (.cells #[.bool j.cl, .int .i64 j.a, .int .i64 j.b, .int .i64 j.c, .slice ai j.inp.length ci, .slice ap j.pk.length cp] 26)).heap.size = B + 1 := by simp [hB]
  go_enter Tryd.func7, Tryd.ntmps7
  go_upto_region 2 with fail
  have bb : Bf ((w.alloc (.cells #[.bool j.cl, .int .i64 j.a, .int .i64 j.b, .int .i64 j.c, .slice ai j.inp.length ci, .slice ap j.pk.length cp] 26)).alloc (.cells #[.pointer none, .slice none 0 0] 39)) B (B + 1) [] := by have := Bf.new (w := (w.alloc (.cells #[.bool j.cl, .int .i64 j.a, .int .i64 j.b, .int .i64 j.c, .slice ai j.inp.length ci, .slice ap j.pk.length cp] 26))) (B := B) (by omega); rw [sj] at this; exact this
  have hbe : Below B w ((w.alloc (.cells #[.bool j.cl, .int .i64 j.a, .int .i64 j.b, .int .i64 j.c, .slice ai j.inp.length ci, .slice ap j.pk.length cp] 26)).alloc (.cells #[.pointer none, .slice none 0 0] 39)) := ((Below.refl B w).alloc (by omega) _).alloc (by omega) _
  have bj2 : Blk ((w.alloc (.cells #[.bool j.cl, .int .i64 j.a, .int .i64 j.b, .int .i64 j.c, .slice ai j.inp.length ci, .slice ap j.pk.length cp] 26)).alloc (.cells #[.pointer none, .slice none 0 0] 39)) B #[.bool j.cl, .int .i64 j.a, .int .i64 j.b, .int .i64 j.c, .slice ai j.inp.length ci, .slice ap j.pk.length cp] 26 := bj.alloc _
  obtain ⟨w1, hw1⟩ : ∃ x, ((w.alloc (.cells #[.bool j.cl, .int .i64 j.a, .int .i64 j.b, .int .i64 j.c, .slice ai j.inp.length ci, .slice ap j.pk.length cp] 26)).alloc (.cells #[.pointer none, .slice none 0 0] 39)) = x := ⟨_, rfl⟩
  rw [hw1] at bb hbe bj2 ⊢
  have HB1 : Hid (Bf w1 w.heap.size (B + 1) []) := Lib.hid (by rw [HBB.out]; exact bb)
  have HE1 : Hid (Below w.heap.size w w1) := Lib.hid (by rw [HBB.out]; exact hbe)
  have HJ1 := Lib.hid bj2
  have x0 := bj2.cell (i := 0) rfl
  clear bj tj sj bb hbe bj2 hw1 hv hj
  have HL0 : Hid (l0T j = if j.cl then wCl else wUn) := Lib.hid rfl
  obtain ⟨m, hm⟩ : ∃ m : ByteArray, m.data.toList = l0T j ++ [10] ∧ m = ⟨(l0T j ++ [10]).toArray⟩ := ⟨⟨(l0T j ++ [10]).toArray⟩, by simp, rfl⟩
  have HM := Lib.hid hm
  have hml : m.size ≤ 100 := by rw [hm.2]; unfold l0T; split <;> decide
  clear hm
  have hmode : True := trivial
  cases hcl : j.cl
  case' false =>
    rw [hcl] at x0
    have hmm : m = ⟨#[117, 110, 99, 108, 97, 105, 109, 101, 100, 10]⟩ := by rw [HM.out.2, HL0.out, hcl]; rfl
    have HMM := Lib.hid hmm
    clear hmm
    go_wp2_with fail
    clear x0
    have hq := wstr_any (B + 1) [] m w w1 HB1.out HE1.out (by simp) (by omega)
    rw [HMM.out] at hq
    refine hq.mono ?_
    clear hq
    rintro e w2 ⟨rfl, h1, h2, h3⟩
    have h1 : Bf w2 w.heap.size (B + 1) ([] ++ (l0T j ++ [10])) := by rw [← HM.out.1, HMM.out]; exact h1
  case' true =>
    rw [hcl] at x0
    have hmm : m = ⟨#[99, 108, 97, 105, 109, 101, 100, 10]⟩ := by rw [HM.out.2, HL0.out, hcl]; rfl
    have HMM := Lib.hid hmm
    clear hmm
    go_wp2_with fail
    clear x0
    have hq := wstr_any (B + 1) [] m w w1 HB1.out HE1.out (by simp) (by omega)
    rw [HMM.out] at hq
    refine hq.mono ?_
    clear hq
    rintro e w2 ⟨rfl, h1, h2, h3⟩
    have h1 : Bf w2 w.heap.size (B + 1) ([] ++ (l0T j ++ [10])) := by rw [← HM.out.1, HMM.out]; exact h1
  all_goals
    have HB2 := Lib.hid h1
    have HE2 := Lib.hid h2
    have HJ2 := Lib.hid (HJ1.out.kb h3 (by omega) (by decide))
    clear h1 h2 h3
    have x1 := HJ2.out.cell (i := 1) rfl
    have x2 := HJ2.out.cell (i := 2) rfl
    have x3 := HJ2.out.cell (i := 3) rfl
    have sz2 : w2.heap.size = w2.heap.size := rfl
    have bl : Blk (w2.alloc (.cells #[.int .i64 j.a, .int .i64 j.b, .int .i64 j.c] 3)) w2.heap.size #[.int .i64 j.a, .int .i64 j.b, .int .i64 j.c] 3 := Blk.new rfl
    have tl : Touch [] w2 (w2.alloc (.cells #[.int .i64 j.a, .int .i64 j.b, .int .i64 j.c] 3)) := (Touch.refl [] w2).alloc _
    obtain ⟨w3, hw3⟩ : ∃ x, w2.alloc (.cells #[.int .i64 j.a, .int .i64 j.b, .int .i64 j.c] 3) = x := ⟨_, rfl⟩
    have hlt2 : B + 1 < w2.heap.size := by
      rcases HB2.out with h | h <;> exact (Array.getElem?_eq_some_iff.1 h.2.choose_spec.1).1
    obtain ⟨S, hS⟩ : ∃ S, w2.heap.size = S := ⟨_, rfl⟩
    rw [hS] at bl hlt2
    have HS := Lib.hid hS
    have HW3 := Lib.hid hw3
    rw [hw3] at bl tl
    have HB3 := Lib.hid (HB2.out.touch tl)
    have HE3 := Lib.hid (HE2.out.trans (tl.below (Nat.le_refl _) (by simp) |>.mono HE2.out.size))
    have HJ3 := Lib.hid (HJ2.out.touch tl (by simp))
    have HL3 := Lib.hid bl
    clear bl tl hS hw3 sz2
    go_wp2_with fail
    rw [HW3.out, HS.out]
    have hs3 : ∀ w', Below w.heap.size w w' → Kb (B + 1) w3 w' → Sl w' (.slice (some ⟨S, 0, none⟩) 3 3) [j.a, j.b, j.c] := fun w' _ hk => by
      have hb := HL3.out.kb hk (by omega) (by decide)
      refine ⟨_, 3, rfl, .inr ⟨S, 0, rfl, hb.lt, fun i hi => ?_⟩⟩
      rw [Nat.zero_add]
      simp at hi
      rcases (by omega : i = 0 ∨ i = 1 ∨ i = 2) with rfl | rfl | rfl <;> exact hb.cell rfl
    have hla : ∀ x ∈ [j.a, j.b, j.c], InI x := fun x hx => by
      simp only [List.mem_cons, List.not_mem_nil, or_false] at hx
      rcases hx with rfl | rfl | rfl
      · exact HJ.out.a
      · exact HJ.out.b
      · exact HJ.out.c
    have hll : ([] ++ (l0T j ++ [10])).length ≤ 100 := by rw [HL0.out]; split <;> decide
    have HLL := Lib.hid hll
    refine (write_any (B + 1) _ ⟨#[108, 105, 109, 105, 116, 115]⟩ _ _ w w3 HV.out HB3.out HE3.out hs3 hla (by have := HLL.out; omega) (by decide) (by simp)).mono ?_
    clear hs3 hla hll
    rintro e w4 ⟨rfl, h1, h2, h3⟩
    have HB4 : Hid (Bf w4 w.heap.size (B + 1) (([] ++ (l0T j ++ [10])) ++ (wLim ++ (numsT [j.a, j.b, j.c] ++ [10])))) := Lib.hid h1
    have HE4 := Lib.hid h2
    have HJ4 := Lib.hid (HJ3.out.kb h3 (by omega) (by decide))
    clear h1 h2 h3 x1 x2 x3
    have x4 := HJ4.out.cell (i := 4) rfl
    have HN4 : Hid ((([] ++ (l0T j ++ [10])) ++ (wLim ++ (numsT [j.a, j.b, j.c] ++ [10]))).length ≤ 1000) := Lib.hid (by
      have h1 := HLL.out
      have h2 := numsT_len (xs := [j.a, j.b, j.c]) (fun x hx => by
        simp only [List.mem_cons, List.not_mem_nil, or_false] at hx
        rcases hx with rfl | rfl | rfl
        · exact HJ.out.a
        · exact HJ.out.b
        · exact HJ.out.c)
      have h3 : wLim.length = 6 := rfl
      simp only [List.length_append, List.length_cons, List.length_nil] at h1 h2 ⊢
      omega)
    go_wp2_with fail
    refine (write_any (B + 1) _ ⟨#[105, 110, 112, 117, 116]⟩ _ j.inp w w4 HV.out HB4.out HE4.out (fun w' hb _ => HI.out.touch (Touch.of_below hb) (by simp)) HJ.out.inp (by have := HN4.out; omega) (by decide) (by omega)).mono ?_
    rintro e w5 ⟨rfl, h1, h2, h3⟩
    have HB5 : Hid (Bf w5 w.heap.size (B + 1) (([] ++ (l0T j ++ [10])) ++ (wLim ++ (numsT [j.a, j.b, j.c] ++ [10])) ++ (wInp ++ (numsT j.inp ++ [10])))) := Lib.hid h1
    have HE5 := Lib.hid h2
    have HJ5 := Lib.hid (HJ4.out.kb h3 (by omega) (by decide))
    clear h1 h2 h3 x4
    have x5 := HJ5.out.cell (i := 5) rfl
    have HN5 : Hid ((([] ++ (l0T j ++ [10])) ++ (wLim ++ (numsT [j.a, j.b, j.c] ++ [10])) ++ (wInp ++ (numsT j.inp ++ [10]))).length ≤ 30000) := Lib.hid (by
      have h1 := HN4.out
      have h2 := numsT_len HJ.out.inp
      have h3 : wInp.length = 5 := rfl
      simp only [List.length_append, List.length_cons, List.length_nil] at h1 ⊢
      omega)
    go_wp2_with fail
    refine (write_any (B + 1) _ ⟨#[112, 105, 99, 107, 115]⟩ _ j.pk w w5 HV.out HB5.out HE5.out (fun w' hb _ => HP.out.touch (Touch.of_below hb) (by simp)) HJ.out.pk (by have := HN5.out; omega) (by decide) (by omega)).mono ?_
    rintro e w6 ⟨rfl, h1, h2, h3⟩
    have HB6 : Hid (Bf w6 w.heap.size (B + 1) (textJ j)) := Lib.hid (by rw [HTJ.out]; exact h1)
    have HE6 := Lib.hid h2
    clear h1 h2 h3 x5
    go_wp2_with fail
    refine (bstr_any (B + 1) _ w w6 HB6.out HE6.out).mono ?_
    rintro e w7 ⟨rfl, h2⟩
    have HE7 := Lib.hid h2
    clear h2
    go_wp2_with fail
    go_ret
    exact ⟨rfl, Touch.of_below HE7.out⟩
end Go.Proofs.YtnhbnggkaomfcaaDoor
