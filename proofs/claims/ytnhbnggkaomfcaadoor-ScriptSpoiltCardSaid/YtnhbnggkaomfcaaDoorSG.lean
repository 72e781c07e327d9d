/-
  Jobs as texts: the reference's ScriptText.
-/
import Derived.Test.YtnhbnggkaomfcaaDoorSF
import Derived.Deep.RegionHeld3
set_option linter.unusedVariables false
namespace Go.Proofs.YtnhbnggkaomfcaaDoor
open Go Go.RowKit

theorem mk_app (a b : List UInt8) : mk a ++ mk b = mk (a ++ b) := bytes_eq (by rw [mk_list]; simp [mk])
theorem mk_size (l : List UInt8) : (mk l).size = l.length := by simp [mk]; rfl
set_option maxHeartbeats 8000000 in
set_option maxRecDepth 100000 in
theorem rnums_any (v : Value) (xs : List Int) (w : World) (hv : Vs w) (hs : Sl w v xs) (hi : ∀ x ∈ xs, InI x) (hx : xs.length ≤ 1000000) :
    Calls Tryd.prog 15 #[v] w (StrP (mk (numsT xs ++ [10])) w) := by
  have HV := Lib.hid hv
  have HS := Lib.hid hs
  have HI := Lib.hid hi
  obtain ⟨a, c, rfl, _⟩ := hs
  obtain ⟨n, hn⟩ : ∃ n, xs.length = n := ⟨_, rfl⟩
  have HN := Lib.hid hn
  rw [hn] at hx ⊢
  clear hv hi hn
  go_enter Tryd.func15, Tryd.ntmps15
  go_wp2_with fail
  go_loopw [3, 4] (fun sv iv wr => ∃ k : Nat, k ≤ n ∧ iv = .int .i64 (k : Int) ∧ sv = .string (mk (numsT (xs.take k))) ∧ Touch [] w wr) (fun _ iv _ => n + 1 - (intOf iv).toNat)
  case atStart => exact ⟨0, by omega, rfl, rfl, Touch.refl _ _⟩
  case round =>
    obtain ⟨k, hk, rfl, rfl, ht⟩ := hrel
    have HT := Lib.hid ht
    have hsz : (mk (numsT (xs.take k))).size ≤ 30000000 := by
      have h4 := numsT_len (xs := xs.take k) (fun x hx => HI.out x (List.mem_of_mem_take hx))
      rw [List.length_take] at h4
      rw [mk_size]
      omega
    obtain ⟨S, hS⟩ : ∃ S, mk (numsT (xs.take k)) = S := ⟨_, rfl⟩
    have HSS := Lib.hid hS
    rw [hS] at hsz ⊢
    clear hS
    by_cases hlt : k < n
    · obtain ⟨a', c', he, hs⟩ := HS.out.touch ht (by simp)
      cases he
      obtain ⟨g, off, rfl, hg, hx0⟩ := (show ∃ g off, a = some ⟨g, off, none⟩ ∧ g < wr.heap.size ∧ wr.cell? ⟨g, off + k, none⟩ = some (.int .i64 (xs[k]?.getD 0)) from by
        rcases hs with h0 | ⟨g, off, rfl, hg, hr⟩
        · rw [h0] at HN; have := HN.out; simp at this; omega
        · exact ⟨g, off, rfl, hg, by have := hr k (by rw [HN.out]; exact hlt); rw [this]; simp [List.getElem?_eq_getElem (show k < xs.length by rw [HN.out]; exact hlt)]⟩)
      obtain ⟨x, hxe⟩ : ∃ x, xs[k]?.getD 0 = x := ⟨_, rfl⟩
      rw [hxe] at hx0
      have hxk : xs[k]'(by rw [HN.out]; exact hlt) = x := by rw [← hxe, List.getElem?_eq_getElem (show k < xs.length by rw [HN.out]; exact hlt)]; rfl
      have HXI : Hid (InI x) := Lib.hid (by rw [← hxk]; exact HI.out _ (List.getElem_mem _))
      have htz := itoa_len HXI.out
      obtain ⟨t, htt⟩ : ∃ t, mk (Lib.itoa x) = t := ⟨_, rfl⟩
      have HTT := Lib.hid htt
      rw [htt] at htz
      have HTK : Hid (S ++ ⟨#[32]⟩ ++ t = mk (numsT (xs.take (k + 1)))) := Lib.hid (by
        rw [← HTT.out, ← HSS.out, numsT_take (show k < xs.length by rw [HN.out]; exact hlt), hxk, show (⟨#[32]⟩ : ByteArray) = mk [32] from rfl, mk_app, mk_app]; simp)
      clear hs hxe hxk ht htt
      go_wp2_with fail
      refine (itoa_any x HXI.out wr (HV.out.touch HT.out)).mono ?_
      rintro e w3 ⟨rfl, ht⟩
      rw [HTT.out]
      have HT3 := Lib.hid (HT.out.trans ht)
      clear ht
      go_wp2_with fail
      go_roundw
      case rel => exact ⟨k + 1, by omega, by go_num, by rw [← HTK.out], HT3.out⟩
      case measure => simp [intOf]; omega
    · obtain rfl : n = k := by omega
      have HTE : Hid (S ++ ⟨#[10]⟩ = mk (numsT xs ++ [10])) := Lib.hid (by rw [← HSS.out, ← HN.out, List.take_length, show (⟨#[10]⟩ : ByteArray) = mk [10] from rfl, mk_app])
      clear ht
      go_wp2_with fail
      go_ret
      exact ⟨by rw [← HTE.out]; rfl, HT.out⟩
theorem sl3 {w : World} {g : Nat} {a b c : Int} {T : TypeId} (h : Blk w g #[.int .i64 a, .int .i64 b, .int .i64 c] T) : Sl w (.slice (some ⟨g, 0, none⟩) 3 3) [a, b, c] := by
  refine ⟨_, 3, rfl, .inr ⟨g, 0, rfl, h.lt, fun i hi => ?_⟩⟩
  rw [Nat.zero_add]
  simp at hi
  rcases (by omega : i = 0 ∨ i = 1 ∨ i = 2) with rfl | rfl | rfl <;> exact h.cell rfl

theorem text_mk (j : Jb) : (mk (l0T j ++ [10]) ++ mk wLim ++ mk (numsT [j.a, j.b, j.c] ++ [10]) ++ mk wInp ++ mk (numsT j.inp ++ [10]) ++ mk wPk ++ mk (numsT j.pk ++ [10])) = mk (textJ j) := by
  rw [text_list]; simp only [mk_app]; simp
theorem in3 {j : Jb} (hj : InJ j) : ∀ x ∈ [j.a, j.b, j.c], InI x := fun x hx => by
  simp only [List.mem_cons, List.not_mem_nil, or_false] at hx
  rcases hx with rfl | rfl | rfl
  · exact hj.a
  · exact hj.b
  · exact hj.c
set_option maxHeartbeats 8000000 in
set_option maxRecDepth 100000 in
theorem rtext_any (v : Value) (j : Jb) (w : World) (hv : Vs w) (h : JobV w v j) (hj : InJ j) (l1 : j.inp.length ≤ 1000) (l2 : j.pk.length ≤ 1000) :
    Calls Tryd.prog 8 #[v] w (StrP (mk (textJ j)) w) := by
  obtain ⟨vi, vp, rfl, hvi, hvp⟩ := h
  have HV := Lib.hid hv
  have HI := Lib.hid hvi
  have HP := Lib.hid hvp
  have HJ := Lib.hid hj
  have HTJ := Lib.hid (text_mk j)
  obtain ⟨ai, ci, rfl, _⟩ := hvi
  obtain ⟨ap, cp, rfl, _⟩ := hvp
  obtain ⟨B, hB⟩ : ∃ B, w.heap.size = B := ⟨_, rfl⟩
  have bj : Blk (w.alloc (.cells #[.bool j.cl, .int .i64 j.a, .int .i64 j.b, .int .i64 j.c, .slice ai j.inp.length ci, .slice ap j.pk.length cp] 26)) B #[.bool j.cl, .int .i64 j.a, .int .i64 j.b, .int .i64 j.c, .slice ai j.inp.length ci, .slice ap j.pk.length cp] 26 := Blk.new hB.symm
  have tj : Touch [] w (w.alloc (.cells #[.bool j.cl, .int .i64 j.a, .int .i64 j.b, .int .i64 j.c, .slice ai j.inp.length ci, .slice ap j.pk.length cp] 26)) := (Touch.refl [] w).alloc _
  have x0 := bj.cell (i := 0) rfl
  have s1 := numsT_len (in3 hj)
  have s2 := numsT_len hj.inp
  have s3 := numsT_len hj.pk
  have z1 : (mk (numsT [j.a, j.b, j.c] ++ [10])).size ≤ 100 := by rw [mk_size]; simp at s1 ⊢; omega
  have z2 : (mk (numsT j.inp ++ [10])).size ≤ 30000 := by rw [mk_size]; simp; omega
  have z3 : (mk (numsT j.pk ++ [10])).size ≤ 30000 := by rw [mk_size]; simp; omega
  obtain ⟨t1, ht1⟩ : ∃ t, mk (numsT [j.a, j.b, j.c] ++ [10]) = t := ⟨_, rfl⟩
  obtain ⟨t2, ht2⟩ : ∃ t, mk (numsT j.inp ++ [10]) = t := ⟨_, rfl⟩
  obtain ⟨t3, ht3⟩ : ∃ t, mk (numsT j.pk ++ [10]) = t := ⟨_, rfl⟩
  rw [ht1] at z1
  rw [ht2] at z2
  rw [ht3] at z3
  have H1 := Lib.hid ht1
  have H2 := Lib.hid ht2
  have H3 := Lib.hid ht3
  have HBJ := Lib.hid bj
  have HT1 := Lib.hid tj
  have HL0 : Hid (l0T j = if j.cl then wCl else wUn) := Lib.hid rfl
  clear s1 s2 s3 ht1 ht2 ht3 hv hj bj tj
  go_enter Tryd.func8, Tryd.ntmps8
  go_upto_region 1 with fail
  obtain ⟨w1, hw1⟩ : ∃ x, (w.alloc (.cells #[.bool j.cl, .int .i64 j.a, .int .i64 j.b, .int .i64 j.c, .slice ai j.inp.length ci, .slice ap j.pk.length cp] 26)) = x := ⟨_, rfl⟩
  rw [hw1] at HBJ HT1 x0 ⊢
  clear hw1 hB
  cases hcl : j.cl
  case false =>
    rw [hcl] at x0
    have HM : Hid (mk (l0T j ++ [10]) = ⟨#[117, 110, 99, 108, 97, 105, 109, 101, 100, 10]⟩) := Lib.hid (by rw [HL0.out, hcl]; rfl)
    go_wp2_with fail
    have y1 := HBJ.out.cell (i := 1) rfl
    have y2 := HBJ.out.cell (i := 2) rfl
    have y3 := HBJ.out.cell (i := 3) rfl
    have y4 := HBJ.out.cell (i := 4) rfl
    have y5 := HBJ.out.cell (i := 5) rfl
    have HTD : Hid (Touch [] w1 (World.drew (w1.alloc (.cells #[.int .i64 j.a, .int .i64 j.b, .int .i64 j.c] 3)))) := Lib.hid (((Touch.refl [] w1).alloc _).drew)
    have HC1 : Hid (Calls Tryd.prog 15 #[.slice (some ⟨w1.heap.size, 0, none⟩) 3 3] (World.drew (w1.alloc (.cells #[.int .i64 j.a, .int .i64 j.b, .int .i64 j.c] 3))) (StrP t1 (World.drew (w1.alloc (.cells #[.int .i64 j.a, .int .i64 j.b, .int .i64 j.c] 3))))) := Lib.hid (by
      rw [← H1.out]
      exact rnums_any _ [j.a, j.b, j.c] _ (HV.out.touch (HT1.out.trans HTD.out)) (sl3 (Blk.drew (Blk.new rfl))) (in3 HJ.out) (by simp))
    have HC2 : Hid (∀ wa, Touch [] w1 wa → Calls Tryd.prog 15 #[.slice ai j.inp.length ci] wa (StrP t2 wa)) := Lib.hid (fun wa h => by
      rw [← H2.out]
      exact rnums_any _ j.inp _ (HV.out.touch (HT1.out.trans h)) (HI.out.touch (HT1.out.trans h) (by simp)) HJ.out.inp (by omega))
    have HC3 : Hid (∀ wa, Touch [] w1 wa → Calls Tryd.prog 15 #[.slice ap j.pk.length cp] wa (StrP t3 wa)) := Lib.hid (fun wa h => by
      rw [← H3.out]
      exact rnums_any _ j.pk _ (HV.out.touch (HT1.out.trans h)) (HP.out.touch (HT1.out.trans h) (by simp)) HJ.out.pk (by omega))
    have HKP : Hid (∀ w', Touch [] w1 w' → w'.cell? ⟨B, 1, none⟩ = some (.int .i64 j.a) ∧ w'.cell? ⟨B, 2, none⟩ = some (.int .i64 j.b) ∧ w'.cell? ⟨B, 3, none⟩ = some (.int .i64 j.c) ∧ w'.cell? ⟨B, 4, none⟩ = some (.slice ai j.inp.length ci) ∧ w'.cell? ⟨B, 5, none⟩ = some (.slice ap j.pk.length cp)) := Lib.hid (fun w' h => by
      have hb := HBJ.out.touch h (by simp)
      exact ⟨hb.cell rfl, hb.cell rfl, hb.cell rfl, hb.cell rfl, hb.cell rfl⟩)
    have n1 : ¬ 9223372036854775807 < 16 + t1.size := by omega
    have n2 : ¬ 9223372036854775802 < 16 + t1.size := by omega
    have n3 : ¬ 9223372036854775807 < 16 + t1.size + 5 := by omega
    have n4 : ¬ 9223372036854775807 < 16 + t1.size + 5 + t2.size := by omega
    have n5 : ¬ 9223372036854775802 < 16 + t1.size + 5 + t2.size := by omega
    have n6 : ¬ 9223372036854775807 < 16 + t1.size + 5 + t2.size + 5 := by omega
    have n7 : ¬ 9223372036854775807 < 16 + t1.size + 5 + t2.size + 5 + t3.size := by omega
    go_region_held3 (fun w' => w'.cell? ⟨B, 1, none⟩ = some (.int .i64 j.a) ∧ w'.cell? ⟨B, 2, none⟩ = some (.int .i64 j.b) ∧ w'.cell? ⟨B, 3, none⟩ = some (.int .i64 j.c) ∧ w'.cell? ⟨B, 4, none⟩ = some (.slice ai j.inp.length ci) ∧ w'.cell? ⟨B, 5, none⟩ = some (.slice ap j.pk.length cp))
      (first | go_keep | exact HKP.out _ HTA.out)
      ((first
        | (go_at_call 15
           with_reducible refine HC1.out.mono ?_
           rintro e wa ⟨rfl, hta⟩
           have HTA := Lib.hid (HTD.out.trans hta)
           clear hta)
        | (go_at_call 15
           with_reducible refine (HC2.out _ HTA.out).mono ?_
           rintro e wb ⟨rfl, hta⟩
           have HTA := Lib.hid (HTA.out.trans hta)
           clear hta)
        | (go_at_call 15
           with_reducible refine (HC3.out _ HTA.out).mono ?_
           rintro e wc ⟨rfl, hta⟩
           have HTA := Lib.hid (HTA.out.trans hta)
           clear hta)))
    all_goals (try go_wp2_with fail)
    all_goals go_ret
    all_goals exact ⟨by rw [← HTJ.out, HM.out, H1.out, H2.out, H3.out]; rfl, HT1.out.trans HTA.out⟩
  case true =>
    rw [hcl] at x0
    have HM : Hid (mk (l0T j ++ [10]) = ⟨#[99, 108, 97, 105, 109, 101, 100, 10]⟩) := Lib.hid (by rw [HL0.out, hcl]; rfl)
    go_wp2_with fail
    have y1 := HBJ.out.cell (i := 1) rfl
    have y2 := HBJ.out.cell (i := 2) rfl
    have y3 := HBJ.out.cell (i := 3) rfl
    have y4 := HBJ.out.cell (i := 4) rfl
    have y5 := HBJ.out.cell (i := 5) rfl
    have HTD : Hid (Touch [] w1 (World.drew (w1.alloc (.cells #[.int .i64 j.a, .int .i64 j.b, .int .i64 j.c] 3)))) := Lib.hid (((Touch.refl [] w1).alloc _).drew)
    have HC1 : Hid (Calls Tryd.prog 15 #[.slice (some ⟨w1.heap.size, 0, none⟩) 3 3] (World.drew (w1.alloc (.cells #[.int .i64 j.a, .int .i64 j.b, .int .i64 j.c] 3))) (StrP t1 (World.drew (w1.alloc (.cells #[.int .i64 j.a, .int .i64 j.b, .int .i64 j.c] 3))))) := Lib.hid (by
      rw [← H1.out]
      exact rnums_any _ [j.a, j.b, j.c] _ (HV.out.touch (HT1.out.trans HTD.out)) (sl3 (Blk.drew (Blk.new rfl))) (in3 HJ.out) (by simp))
    have HC2 : Hid (∀ wa, Touch [] w1 wa → Calls Tryd.prog 15 #[.slice ai j.inp.length ci] wa (StrP t2 wa)) := Lib.hid (fun wa h => by
      rw [← H2.out]
      exact rnums_any _ j.inp _ (HV.out.touch (HT1.out.trans h)) (HI.out.touch (HT1.out.trans h) (by simp)) HJ.out.inp (by omega))
    have HC3 : Hid (∀ wa, Touch [] w1 wa → Calls Tryd.prog 15 #[.slice ap j.pk.length cp] wa (StrP t3 wa)) := Lib.hid (fun wa h => by
      rw [← H3.out]
      exact rnums_any _ j.pk _ (HV.out.touch (HT1.out.trans h)) (HP.out.touch (HT1.out.trans h) (by simp)) HJ.out.pk (by omega))
    have HKP : Hid (∀ w', Touch [] w1 w' → w'.cell? ⟨B, 1, none⟩ = some (.int .i64 j.a) ∧ w'.cell? ⟨B, 2, none⟩ = some (.int .i64 j.b) ∧ w'.cell? ⟨B, 3, none⟩ = some (.int .i64 j.c) ∧ w'.cell? ⟨B, 4, none⟩ = some (.slice ai j.inp.length ci) ∧ w'.cell? ⟨B, 5, none⟩ = some (.slice ap j.pk.length cp)) := Lib.hid (fun w' h => by
      have hb := HBJ.out.touch h (by simp)
      exact ⟨hb.cell rfl, hb.cell rfl, hb.cell rfl, hb.cell rfl, hb.cell rfl⟩)
    have n1 : ¬ 9223372036854775807 < 14 + t1.size := by omega
    have n2 : ¬ 9223372036854775802 < 14 + t1.size := by omega
    have n3 : ¬ 9223372036854775807 < 14 + t1.size + 5 := by omega
    have n4 : ¬ 9223372036854775807 < 14 + t1.size + 5 + t2.size := by omega
    have n5 : ¬ 9223372036854775802 < 14 + t1.size + 5 + t2.size := by omega
    have n6 : ¬ 9223372036854775807 < 14 + t1.size + 5 + t2.size + 5 := by omega
    have n7 : ¬ 9223372036854775807 < 14 + t1.size + 5 + t2.size + 5 + t3.size := by omega
    go_region_held3 (fun w' => w'.cell? ⟨B, 1, none⟩ = some (.int .i64 j.a) ∧ w'.cell? ⟨B, 2, none⟩ = some (.int .i64 j.b) ∧ w'.cell? ⟨B, 3, none⟩ = some (.int .i64 j.c) ∧ w'.cell? ⟨B, 4, none⟩ = some (.slice ai j.inp.length ci) ∧ w'.cell? ⟨B, 5, none⟩ = some (.slice ap j.pk.length cp))
      (first | go_keep | exact HKP.out _ HTA.out)
      ((first
        | (go_at_call 15
           with_reducible refine HC1.out.mono ?_
           rintro e wa ⟨rfl, hta⟩
           have HTA := Lib.hid (HTD.out.trans hta)
           clear hta)
        | (go_at_call 15
           with_reducible refine (HC2.out _ HTA.out).mono ?_
           rintro e wb ⟨rfl, hta⟩
           have HTA := Lib.hid (HTA.out.trans hta)
           clear hta)
        | (go_at_call 15
           with_reducible refine (HC3.out _ HTA.out).mono ?_
           rintro e wc ⟨rfl, hta⟩
           have HTA := Lib.hid (HTA.out.trans hta)
           clear hta)))
    all_goals (try go_wp2_with fail)
    all_goals go_ret
    all_goals exact ⟨by rw [← HTJ.out, HM.out, H1.out, H2.out, H3.out]; rfl, HT1.out.trans HTA.out⟩
end Go.Proofs.YtnhbnggkaomfcaaDoor
