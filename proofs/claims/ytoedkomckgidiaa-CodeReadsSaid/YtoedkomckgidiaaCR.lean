/-
  The program's Decode: the walk.
-/
import Derived.Test.YtoedkomckgidiaaCP
import Derived.Deep.Cut
set_option linter.unusedVariables false
namespace Go.Proofs.Ytoedkomckgidiaa
open Go Go.RowKit

theorem strB_sb : strB [83, 66] = ⟨#[83, 66]⟩ := rfl
set_option maxHeartbeats 64000000 in
set_option maxRecDepth 100000 in
theorem dec_any (D : List Nat) (v : Value) (w : World) (hv : Bs w v D) (hD : D.length ≤ 9223372036854775807) (hDb : ∀ x ∈ D, x < 256) :
    Calls Try.prog 14 #[v] w (DecR D w) := by
  have HD := Lib.hid hD
  have HDB := Lib.hid hDb
  obtain ⟨a, c, rfl⟩ := hv.form
  have HBS := Lib.hid hv
  have hcap : D.length ≤ c := by
    obtain ⟨a', c', he, hc, _⟩ := hv
    cases he; exact hc
  obtain ⟨L, hL⟩ : ∃ L, D.length = L := ⟨_, rfl⟩
  have HL := Lib.hid hL
  have hown : 2 ≤ L → ∀ k, (Value.slice a L c).ownBlock = some k → k < w.heap.size := by
    intro h2
    obtain ⟨a', c', he, hc, h | ⟨g, off, rfl, hg, _⟩⟩ := hv
    · subst h; simp at hL; omega
    · cases he; intro k hk; simp [Value.ownBlock] at hk; subst hk; exact hg
  have HOWN := Lib.hid hown
  rw [hL] at HBS hcap ⊢
  have ht0 : Touch [] w (w.alloc (.cells #[.slice none 0 0, .slice none 0 0, .slice none 0 0, .int .i64 0, .slice none 0 0, .slice none 0 0, .slice none 0 0, .slice none 0 0, .int .i64 0] 29)) := (Touch.refl [] w).alloc _
  have hb0 : Blk (w.alloc (.cells #[.slice none 0 0, .slice none 0 0, .slice none 0 0, .int .i64 0, .slice none 0 0, .slice none 0 0, .slice none 0 0, .slice none 0 0, .int .i64 0] 29)) w.heap.size #[.slice none 0 0, .slice none 0 0, .slice none 0 0, .int .i64 0, .slice none 0 0, .slice none 0 0, .slice none 0 0, .slice none 0 0, .int .i64 0] 29 := Blk.new rfl
  obtain ⟨RB, hRB⟩ : ∃ b, w.heap.size = b := ⟨_, rfl⟩
  have hs1 : (w.alloc (.cells #[.slice none 0 0, .slice none 0 0, .slice none 0 0, .int .i64 0, .slice none 0 0, .slice none 0 0, .slice none 0 0, .slice none 0 0, .int .i64 0] 29)).heap.size = RB + 1 := by rw [← hRB]; simp
  obtain ⟨w1, hw1⟩ : ∃ x, w.alloc (.cells #[.slice none 0 0, .slice none 0 0, .slice none 0 0, .int .i64 0, .slice none 0 0, .slice none 0 0, .slice none 0 0, .slice none 0 0, .int .i64 0] 29) = x := ⟨_, rfl⟩
  rw [hw1, hRB] at hb0
  rw [hw1] at ht0 hs1
  have HRB := Lib.hid hRB
  have HB0 := Lib.hid hb0
  have HT0 := Lib.hid ht0
  have HV1 : Hid (Bs w1 (.slice a L c) D) := Lib.hid (HBS.out.touch ht0 (by simp))
  clear hv hD hDb hL hown hb0 ht0
  by_cases hl2 : L < 2
  · skip
    have HNO : Hid (¬ DecOk D) := Lib.hid (fun h => by have := congrArg List.length h.1; rw [List.length_take, HL.out] at this; simp at this; omega)
    have zz := HB0.out
    have r0_ := zz.cell (i := 0) rfl
    have g0_ := zz.free 0
    have r1_ := zz.cell (i := 1) rfl
    have g1_ := zz.free 1
    have r2_ := zz.cell (i := 2) rfl
    have g2_ := zz.free 2
    have r3_ := zz.cell (i := 3) rfl
    have g3_ := zz.free 3
    have r4_ := zz.cell (i := 4) rfl
    have g4_ := zz.free 4
    have r5_ := zz.cell (i := 5) rfl
    have g5_ := zz.free 5
    have r6_ := zz.cell (i := 6) rfl
    have g6_ := zz.free 6
    have r7_ := zz.cell (i := 7) rfl
    have g7_ := zz.free 7
    have r8_ := zz.cell (i := 8) rfl
    have g8_ := zz.free 8
    have HTT : Hid (Touch [RB, RB + 1, RB + 1 + 1] w w1) := Lib.hid (HT0.out.mono (by simp))
    (try clear HK1); (try clear HK2); (try clear HK3); (try clear HK5); (try clear HK6); (try clear HK7); (try clear HK8); (try clear HE1); (try clear HE2); (try clear HE3); (try clear HE5); (try clear HE6); (try clear HE7); (try clear HE8); (try clear HL1); (try clear HL2); (try clear HL3); (try clear HL5); (try clear HL6); (try clear HL7); (try clear HL8); (try clear HZ1); (try clear HZ2); (try clear HZ3); (try clear HZ5); (try clear HZ6); (try clear HZ7); (try clear HZ8); (try clear HN3); (try clear HN8); (try clear HRX); (try clear HPX); (try clear HCC); (try clear HCH); (try clear HO9); (try clear HD); (try clear HDB); (try clear HBS); (try clear HL); (try clear HOWN); (try clear HV1); (try clear HOW); (try clear HSB); (try clear HPG); (try clear HPM); (try clear hc2); (try clear hoL); (try clear hst); (try clear HTX); (try clear HTW); (try clear HB1); (try clear HB0); (try clear HT0); (try clear HBM); (try clear HTM); (try clear hmay); (try clear hown)
    go_enter Try.func14, Try.ntmps14
    go_wp2_with fail
    have hbF : Blk _ RB #[.slice none 0 0, .slice none 0 0, .slice none 0 0, .int .i64 0, .slice none 0 0, .slice none 0 0, .slice none 0 0, .slice none 0 0, .int .i64 0] 29 := (((((((((zz.set 0 (.slice none 0 0)).set 1 (.slice none 0 0)).set 2 (.slice none 0 0)).set 3 (.int .i64 0)).set 4 (.slice none 0 0)).set 5 (.slice none 0 0)).set 6 (.slice none 0 0)).set 7 (.slice none 0 0)).set 8 (.int .i64 0))
    have htF : Touch [] w _ := Touch.fresh (S := [RB, RB + 1, RB + 1 + 1]) (HTT.out.trans (((((((((((Touch.refl [RB] w1).setCell (p := ⟨RB, 0, none⟩) (by simp) (.slice none 0 0)).setCell (p := ⟨RB, 1, none⟩) (by simp) (.slice none 0 0)).setCell (p := ⟨RB, 2, none⟩) (by simp) (.slice none 0 0)).setCell (p := ⟨RB, 3, none⟩) (by simp) (.int .i64 0)).setCell (p := ⟨RB, 4, none⟩) (by simp) (.slice none 0 0)).setCell (p := ⟨RB, 5, none⟩) (by simp) (.slice none 0 0)).setCell (p := ⟨RB, 6, none⟩) (by simp) (.slice none 0 0)).setCell (p := ⟨RB, 7, none⟩) (by simp) (.slice none 0 0)).setCell (p := ⟨RB, 8, none⟩) (by simp) (.int .i64 0)).mono (by simp))) (fun k hk hlt => by have := HRB.out; simp at hk; omega)
    obtain ⟨W, hW⟩ : ∃ W, (((((((((w1.setCell ⟨RB, 0, none⟩ (.slice none 0 0)).setCell ⟨RB, 1, none⟩ (.slice none 0 0)).setCell ⟨RB, 2, none⟩ (.slice none 0 0)).setCell ⟨RB, 3, none⟩ (.int .i64 0)).setCell ⟨RB, 4, none⟩ (.slice none 0 0)).setCell ⟨RB, 5, none⟩ (.slice none 0 0)).setCell ⟨RB, 6, none⟩ (.slice none 0 0)).setCell ⟨RB, 7, none⟩ (.slice none 0 0)).setCell ⟨RB, 8, none⟩ (.int .i64 0)) = W := ⟨_, rfl⟩
    rw [hW] at hbF htF ⊢
    have HTF := Lib.hid htF
    have q0_ := hbF.cell (i := 0) rfl
    have q1_ := hbF.cell (i := 1) rfl
    have q2_ := hbF.cell (i := 2) rfl
    have q3_ := hbF.cell (i := 3) rfl
    have q4_ := hbF.cell (i := 4) rfl
    have q5_ := hbF.cell (i := 5) rfl
    have q6_ := hbF.cell (i := 6) rfl
    have q7_ := hbF.cell (i := 7) rfl
    have q8_ := hbF.cell (i := 8) rfl
    clear r0_ g0_ r1_ g1_ r2_ g2_ r3_ g3_ r4_ g4_ r5_ g5_ r6_ g6_ r7_ g7_ r8_ g8_ zz hbF htF hW
    (try simp only [Exit.inBlock, Exit.then]); refine bodyPost_ret (by simp [results, Try.results14, go_sem, q0_, q1_, q2_, q3_, q4_, q5_, q6_, q7_, q8_]; try rfl) rfl ?_
    exact ⟨_, 5, rfl, HTF.out, .inr ⟨HNO.out, rfl, zero_pg _⟩⟩
  have hs := (HV1.out.first (k := 2) (by rw [HL.out]; omega)).str
  have HOW := Lib.hid (HOWN.out (by omega))
  have h2i : (2 : Int) ≤ (L : Int) := by omega
  have h2c : (2 : Int) ≤ (c : Int) := by omega
  have h2d : ¬ (L : Int) < 2 := by omega
  by_cases hsb : D.take 2 = [83, 66]
  case neg =>
    have hne : ¬ strB (D.take 2) = ⟨#[83, 66]⟩ := fun h => hsb (strB_inj (fun b hb => HDB.out b (List.mem_of_mem_take hb)) (by decide) (h.trans strB_sb.symm))
    obtain ⟨S, hS⟩ : ∃ S, strB (D.take 2) = S := ⟨_, rfl⟩
    rw [hS] at hs hne
    have hnb : (S.toList == [83, 66]) = false := by
      rw [beq_eq_false_iff_ne]
      intro h
      apply hne
      rw [ByteArray.toList_eq] at h
      cases S with | mk d =>
      have h2 : d = #[83, 66] := by apply Array.ext'; simpa using h
      rw [h2]
    clear hS
    have HNO : Hid (¬ DecOk D) := Lib.hid (fun h => hsb h.1)
    have zz := HB0.out
    have r0_ := zz.cell (i := 0) rfl
    have g0_ := zz.free 0
    have r1_ := zz.cell (i := 1) rfl
    have g1_ := zz.free 1
    have r2_ := zz.cell (i := 2) rfl
    have g2_ := zz.free 2
    have r3_ := zz.cell (i := 3) rfl
    have g3_ := zz.free 3
    have r4_ := zz.cell (i := 4) rfl
    have g4_ := zz.free 4
    have r5_ := zz.cell (i := 5) rfl
    have g5_ := zz.free 5
    have r6_ := zz.cell (i := 6) rfl
    have g6_ := zz.free 6
    have r7_ := zz.cell (i := 7) rfl
    have g7_ := zz.free 7
    have r8_ := zz.cell (i := 8) rfl
    have g8_ := zz.free 8
    have HTT : Hid (Touch [RB, RB + 1, RB + 1 + 1] w w1) := Lib.hid (HT0.out.mono (by simp))
    (try clear HK1); (try clear HK2); (try clear HK3); (try clear HK5); (try clear HK6); (try clear HK7); (try clear HK8); (try clear HE1); (try clear HE2); (try clear HE3); (try clear HE5); (try clear HE6); (try clear HE7); (try clear HE8); (try clear HL1); (try clear HL2); (try clear HL3); (try clear HL5); (try clear HL6); (try clear HL7); (try clear HL8); (try clear HZ1); (try clear HZ2); (try clear HZ3); (try clear HZ5); (try clear HZ6); (try clear HZ7); (try clear HZ8); (try clear HN3); (try clear HN8); (try clear HRX); (try clear HPX); (try clear HCC); (try clear HCH); (try clear HO9); (try clear HD); (try clear HDB); (try clear HBS); (try clear HL); (try clear HOWN); (try clear HV1); (try clear HOW); (try clear HSB); (try clear HPG); (try clear HPM); (try clear hc2); (try clear hoL); (try clear hst); (try clear HTX); (try clear HTW); (try clear HB1); (try clear HB0); (try clear HT0); (try clear HBM); (try clear HTM); (try clear hmay); (try clear hown)
    go_enter Try.func14, Try.ntmps14
    go_wp2_with fail
    have hbF : Blk _ RB #[.slice none 0 0, .slice none 0 0, .slice none 0 0, .int .i64 0, .slice none 0 0, .slice none 0 0, .slice none 0 0, .slice none 0 0, .int .i64 0] 29 := (((((((((zz.set 0 (.slice none 0 0)).set 1 (.slice none 0 0)).set 2 (.slice none 0 0)).set 3 (.int .i64 0)).set 4 (.slice none 0 0)).set 5 (.slice none 0 0)).set 6 (.slice none 0 0)).set 7 (.slice none 0 0)).set 8 (.int .i64 0))
    have htF : Touch [] w _ := Touch.fresh (S := [RB, RB + 1, RB + 1 + 1]) (HTT.out.trans (((((((((((Touch.refl [RB] w1).setCell (p := ⟨RB, 0, none⟩) (by simp) (.slice none 0 0)).setCell (p := ⟨RB, 1, none⟩) (by simp) (.slice none 0 0)).setCell (p := ⟨RB, 2, none⟩) (by simp) (.slice none 0 0)).setCell (p := ⟨RB, 3, none⟩) (by simp) (.int .i64 0)).setCell (p := ⟨RB, 4, none⟩) (by simp) (.slice none 0 0)).setCell (p := ⟨RB, 5, none⟩) (by simp) (.slice none 0 0)).setCell (p := ⟨RB, 6, none⟩) (by simp) (.slice none 0 0)).setCell (p := ⟨RB, 7, none⟩) (by simp) (.slice none 0 0)).setCell (p := ⟨RB, 8, none⟩) (by simp) (.int .i64 0)).mono (by simp))) (fun k hk hlt => by have := HRB.out; simp at hk; omega)
    obtain ⟨W, hW⟩ : ∃ W, (((((((((w1.setCell ⟨RB, 0, none⟩ (.slice none 0 0)).setCell ⟨RB, 1, none⟩ (.slice none 0 0)).setCell ⟨RB, 2, none⟩ (.slice none 0 0)).setCell ⟨RB, 3, none⟩ (.int .i64 0)).setCell ⟨RB, 4, none⟩ (.slice none 0 0)).setCell ⟨RB, 5, none⟩ (.slice none 0 0)).setCell ⟨RB, 6, none⟩ (.slice none 0 0)).setCell ⟨RB, 7, none⟩ (.slice none 0 0)).setCell ⟨RB, 8, none⟩ (.int .i64 0)) = W := ⟨_, rfl⟩
    rw [hW] at hbF htF ⊢
    have HTF := Lib.hid htF
    have q0_ := hbF.cell (i := 0) rfl
    have q1_ := hbF.cell (i := 1) rfl
    have q2_ := hbF.cell (i := 2) rfl
    have q3_ := hbF.cell (i := 3) rfl
    have q4_ := hbF.cell (i := 4) rfl
    have q5_ := hbF.cell (i := 5) rfl
    have q6_ := hbF.cell (i := 6) rfl
    have q7_ := hbF.cell (i := 7) rfl
    have q8_ := hbF.cell (i := 8) rfl
    clear r0_ g0_ r1_ g1_ r2_ g2_ r3_ g3_ r4_ g4_ r5_ g5_ r6_ g6_ r7_ g7_ r8_ g8_ zz hbF htF hW
    (try simp only [Exit.inBlock, Exit.then]); refine bodyPost_ret (by simp [results, Try.results14, go_sem, q0_, q1_, q2_, q3_, q4_, q5_, q6_, q7_, q8_]; try rfl) rfl ?_
    exact ⟨_, 5, rfl, HTF.out, .inr ⟨HNO.out, rfl, zero_pg _⟩⟩
  rw [hsb, strB_sb] at hs
  have HSB := Lib.hid hsb
  clear hsb
  by_cases hc2 : c = 2
  case pos =>
    subst hc2
    obtain rfl : L = 2 := by omega
    have hv2 : Bs w1 (.slice a 0 0) (D.drop 2) := by have := HV1.out.cut (k := 2) (by rw [HL.out]; omega); rw [if_pos rfl] at this; exact this
    have ho2 : ∀ k, (Value.slice a 0 0).ownBlock = some k → k < RB + 1 := fun k hk => by have := HOW.out k ((own_addr _ _ _ _ _).trans hk); have := HRB.out; omega
    have hb : Blk (w1.alloc (.cells #[.slice a 0 0, .int .i64 0, .bool false] 70)) (RB + 1) #[.slice a 0 0, .int .i64 0, .bool false] 70 := Blk.new hs1.symm
    have tb : Touch [] w1 (w1.alloc (.cells #[.slice a 0 0, .int .i64 0, .bool false] 70)) := (Touch.refl [] w1).alloc _
    have hs2 : (w1.alloc (.cells #[.slice a 0 0, .int .i64 0, .bool false] 70)).heap.size = RB + 1 + 1 := by simp [hs1]
    have hp : Blk ((w1.alloc (.cells #[.slice a 0 0, .int .i64 0, .bool false] 70)).alloc (.cells #[.slice none 0 0, .slice none 0 0, .slice none 0 0, .int .i64 0, .slice none 0 0, .slice none 0 0, .slice none 0 0, .slice none 0 0, .int .i64 0] 29)) (RB + 1 + 1) #[.slice none 0 0, .slice none 0 0, .slice none 0 0, .int .i64 0, .slice none 0 0, .slice none 0 0, .slice none 0 0, .slice none 0 0, .int .i64 0] 29 := Blk.new hs2.symm
    have tp : Touch [] (w1.alloc (.cells #[.slice a 0 0, .int .i64 0, .bool false] 70)) ((w1.alloc (.cells #[.slice a 0 0, .int .i64 0, .bool false] 70)).alloc (.cells #[.slice none 0 0, .slice none 0 0, .slice none 0 0, .int .i64 0, .slice none 0 0, .slice none 0 0, .slice none 0 0, .slice none 0 0, .int .i64 0] 29)) := (Touch.refl [] _).alloc _
    have HRX : Hid (Rd D 0 ((w1.alloc (.cells #[.slice a 0 0, .int .i64 0, .bool false] 70)).alloc (.cells #[.slice none 0 0, .slice none 0 0, .slice none 0 0, .int .i64 0, .slice none 0 0, .slice none 0 0, .slice none 0 0, .slice none 0 0, .int .i64 0] 29)) (RB + 1) (some 2)) := Lib.hid ⟨by have := HL.out; omega, _, hb.touch tp (by simp), (hv2.touch tb (by simp)).touch tp (by simp), ho2⟩
    have HPX := Lib.hid hp
    have HB1 := Lib.hid ((HB0.out.touch tb (by simp)).touch tp (by simp))
    have HTX : Hid (Touch [RB + 1, RB + 1 + 1] ((w1.alloc (.cells #[.slice a 0 0, .int .i64 0, .bool false] 70)).alloc (.cells #[.slice none 0 0, .slice none 0 0, .slice none 0 0, .int .i64 0, .slice none 0 0, .slice none 0 0, .slice none 0 0, .slice none 0 0, .int .i64 0] 29)) ((w1.alloc (.cells #[.slice a 0 0, .int .i64 0, .bool false] 70)).alloc (.cells #[.slice none 0 0, .slice none 0 0, .slice none 0 0, .int .i64 0, .slice none 0 0, .slice none 0 0, .slice none 0 0, .slice none 0 0, .int .i64 0] 29))) := Lib.hid (Touch.refl _ _)
    have HTW : Hid (Touch [] w ((w1.alloc (.cells #[.slice a 0 0, .int .i64 0, .bool false] 70)).alloc (.cells #[.slice none 0 0, .slice none 0 0, .slice none 0 0, .int .i64 0, .slice none 0 0, .slice none 0 0, .slice none 0 0, .slice none 0 0, .int .i64 0] 29))) := Lib.hid ((HT0.out.trans tb).trans tp)
    clear hb tb hp tp hv2 ho2
    go_enter Try.func14, Try.ntmps14
    go_wp2_with fail
    clear hs hs1 hs2 h2i h2c h2d hw1
    obtain ⟨wA, hwA⟩ : ∃ x, (w1.alloc (.cells #[.slice a 0 0, .int .i64 0, .bool false] 70)).alloc (.cells #[.slice none 0 0, .slice none 0 0, .slice none 0 0, .int .i64 0, .slice none 0 0, .slice none 0 0, .slice none 0 0, .slice none 0 0, .int .i64 0] 29) = x := ⟨_, rfl⟩
    rw [hwA] at HRX HPX HB1 HTX HTW ⊢
    clear hwA
    refine (rlist_instr D 0 (RB + 1) 5000 (some 2) _ HRX.out (by omega) HD.out HDB.out).mono ?_
    rintro e wE0 ⟨v1, l1, rfl, hA, hl1, hR, ht, he1⟩
    have HZ1 : Hid (RB + 1 + 1 < (wA).heap.size) := Lib.hid HPX.out.lt
    replace HRX := Lib.hid hR
    have hpx := HPX.out.touch ht (by simp)
    replace HPX := Lib.hid hpx
    replace HTX := Lib.hid (HTX.out.trans (ht.mono (by simp) : Touch [RB + 1, RB + 1 + 1] _ _))
    have HK1 := Lib.hid hA
    have HE1 := Lib.hid he1
    have HL1 := Lib.hid hl1
    obtain ⟨b1, c1, rfl, _⟩ := hA.form
    clear hA he1 hl1
    clear hR ht
    have p_ := hpx.cell (i := 0) rfl
    have f_ := hpx.free 0
    have tt : Touch [RB + 1 + 1] wE0 (wE0.setCell ⟨RB + 1 + 1, 0, none⟩ (.slice b1 l1 c1)) := (Touch.refl [RB + 1 + 1] wE0).setCell (by simp) _
    have HRY := Lib.hid (HRX.out.grown tt (by simp))
    have HPY : Hid (Blk (wE0.setCell ⟨RB + 1 + 1, 0, none⟩ (.slice b1 l1 c1)) (RB + 1 + 1) #[.slice b1 l1 c1, .slice none 0 0, .slice none 0 0, .int .i64 0, .slice none 0 0, .slice none 0 0, .slice none 0 0, .slice none 0 0, .int .i64 0] 29) := Lib.hid (by have := hpx.set 0 (.slice b1 l1 c1); simpa using this)
    have HTY := Lib.hid (HTX.out.trans (tt.mono (by simp) : Touch [RB + 1, RB + 1 + 1] _ _))
    clear hpx HRX HPX HTX
    replace HK1 := Lib.hid (HK1.out.touch tt (fun k hk => by have := (HK1.out.own k hk).1; have := HZ1.out; simp; omega))
    clear tt
    have HRX := HRY
    have HPX := HPY
    have HTX := HTY
    clear HRY HPY HTY
    go_wp2_with fail
    clear p_ f_
    refine (rlist_entry D 0 (RB + 1) 13 (s1_ D) _ HRX.out (by omega) HD.out HDB.out).mono ?_
    rintro e wE1 ⟨v2, l2, rfl, hA, hl2, hR, ht, he2⟩
    have HZ2 : Hid (RB + 1 + 1 < ((wE0.setCell ⟨RB + 1 + 1, 0, none⟩ (.slice b1 l1 c1))).heap.size) := Lib.hid HPX.out.lt
    replace HRX := Lib.hid hR
    have hpx := HPX.out.touch ht (by simp)
    replace HPX := Lib.hid hpx
    replace HTX := Lib.hid (HTX.out.trans (ht.mono (by simp) : Touch [RB + 1, RB + 1 + 1] _ _))
    replace HK1 := Lib.hid (HK1.out.touch ht (fun k hk => by have := (HK1.out.own k hk).1; have := HZ1.out; simp; omega))
    have HK2 := Lib.hid hA
    have HE2 := Lib.hid he2
    have HL2 := Lib.hid hl2
    obtain ⟨b2, c2, rfl, _⟩ := hA.form
    clear hA he2 hl2
    clear hR ht
    have p_ := hpx.cell (i := 1) rfl
    have f_ := hpx.free 1
    have tt : Touch [RB + 1 + 1] wE1 (wE1.setCell ⟨RB + 1 + 1, 1, none⟩ (.slice b2 l2 c2)) := (Touch.refl [RB + 1 + 1] wE1).setCell (by simp) _
    have HRY := Lib.hid (HRX.out.grown tt (by simp))
    have HPY : Hid (Blk (wE1.setCell ⟨RB + 1 + 1, 1, none⟩ (.slice b2 l2 c2)) (RB + 1 + 1) #[.slice b1 l1 c1, .slice b2 l2 c2, .slice none 0 0, .int .i64 0, .slice none 0 0, .slice none 0 0, .slice none 0 0, .slice none 0 0, .int .i64 0] 29) := Lib.hid (by have := hpx.set 1 (.slice b2 l2 c2); simpa using this)
    have HTY := Lib.hid (HTX.out.trans (tt.mono (by simp) : Touch [RB + 1, RB + 1 + 1] _ _))
    clear hpx HRX HPX HTX
    replace HK1 := Lib.hid (HK1.out.touch tt (fun k hk => by have := (HK1.out.own k hk).1; have := HZ1.out; simp; omega))
    replace HK2 := Lib.hid (HK2.out.touch tt (fun k hk => by have := (HK2.out.own k hk).1; have := HZ2.out; simp; omega))
    clear tt
    have HRX := HRY
    have HPX := HPY
    have HTX := HTY
    clear HRY HPY HTY
    go_wp2_with fail
    clear p_ f_
    refine (rlist_cell D 0 (RB + 1) 16 (s2_ D) _ HRX.out (by omega) HD.out HDB.out).mono ?_
    rintro e wE2 ⟨v3, l3, rfl, hA, hl3, hR, ht, he3⟩
    have HZ3 : Hid (RB + 1 + 1 < ((wE1.setCell ⟨RB + 1 + 1, 1, none⟩ (.slice b2 l2 c2))).heap.size) := Lib.hid HPX.out.lt
    replace HRX := Lib.hid hR
    have hpx := HPX.out.touch ht (by simp)
    replace HPX := Lib.hid hpx
    replace HTX := Lib.hid (HTX.out.trans (ht.mono (by simp) : Touch [RB + 1, RB + 1 + 1] _ _))
    replace HK1 := Lib.hid (HK1.out.touch ht (fun k hk => by have := (HK1.out.own k hk).1; have := HZ1.out; simp; omega))
    replace HK2 := Lib.hid (HK2.out.touch ht (fun k hk => by have := (HK2.out.own k hk).1; have := HZ2.out; simp; omega))
    have HK3 := Lib.hid hA
    have HE3 := Lib.hid he3
    have HL3 := Lib.hid hl3
    obtain ⟨b3, c3, rfl, _⟩ := hA.form
    clear hA he3 hl3
    clear hR ht
    have p_ := hpx.cell (i := 2) rfl
    have f_ := hpx.free 2
    have tt : Touch [RB + 1 + 1] wE2 (wE2.setCell ⟨RB + 1 + 1, 2, none⟩ (.slice b3 l3 c3)) := (Touch.refl [RB + 1 + 1] wE2).setCell (by simp) _
    have HRY := Lib.hid (HRX.out.grown tt (by simp))
    have HPY : Hid (Blk (wE2.setCell ⟨RB + 1 + 1, 2, none⟩ (.slice b3 l3 c3)) (RB + 1 + 1) #[.slice b1 l1 c1, .slice b2 l2 c2, .slice b3 l3 c3, .int .i64 0, .slice none 0 0, .slice none 0 0, .slice none 0 0, .slice none 0 0, .int .i64 0] 29) := Lib.hid (by have := hpx.set 2 (.slice b3 l3 c3); simpa using this)
    have HTY := Lib.hid (HTX.out.trans (tt.mono (by simp) : Touch [RB + 1, RB + 1 + 1] _ _))
    clear hpx HRX HPX HTX
    replace HK1 := Lib.hid (HK1.out.touch tt (fun k hk => by have := (HK1.out.own k hk).1; have := HZ1.out; simp; omega))
    replace HK2 := Lib.hid (HK2.out.touch tt (fun k hk => by have := (HK2.out.own k hk).1; have := HZ2.out; simp; omega))
    replace HK3 := Lib.hid (HK3.out.touch tt (fun k hk => by have := (HK3.out.own k hk).1; have := HZ3.out; simp; omega))
    clear tt
    have HRX := HRY
    have HPX := HPY
    have HTX := HTY
    clear HRY HPY HTY
    go_wp2_with fail
    clear p_ f_
    refine (num_any D 0 (RB + 1) (s3_ D) _ HRX.out HD.out HDB.out).mono ?_
    rintro e wE3 ⟨rfl, hR, ht⟩
    replace HRX := Lib.hid hR
    have hpx := HPX.out.touch ht (by simp)
    replace HPX := Lib.hid hpx
    replace HTX := Lib.hid (HTX.out.trans (ht.mono (by simp) : Touch [RB + 1, RB + 1 + 1] _ _))
    replace HK1 := Lib.hid (HK1.out.touch ht (fun k hk => by have := (HK1.out.own k hk).1; have := HZ1.out; simp; omega))
    replace HK2 := Lib.hid (HK2.out.touch ht (fun k hk => by have := (HK2.out.own k hk).1; have := HZ2.out; simp; omega))
    replace HK3 := Lib.hid (HK3.out.touch ht (fun k hk => by have := (HK3.out.own k hk).1; have := HZ3.out; simp; omega))
    obtain ⟨n3, hn3⟩ : ∃ x, nv D (s3_ D) = x := ⟨_, rfl⟩
    rw [hn3]
    have HN3 := Lib.hid hn3
    clear hn3
    clear hR ht
    have p_ := hpx.cell (i := 3) rfl
    have f_ := hpx.free 3
    have tt : Touch [RB + 1 + 1] wE3 (wE3.setCell ⟨RB + 1 + 1, 3, none⟩ (.int .i64 n3)) := (Touch.refl [RB + 1 + 1] wE3).setCell (by simp) _
    have HRY := Lib.hid (HRX.out.grown tt (by simp))
    have HPY : Hid (Blk (wE3.setCell ⟨RB + 1 + 1, 3, none⟩ (.int .i64 n3)) (RB + 1 + 1) #[.slice b1 l1 c1, .slice b2 l2 c2, .slice b3 l3 c3, .int .i64 n3, .slice none 0 0, .slice none 0 0, .slice none 0 0, .slice none 0 0, .int .i64 0] 29) := Lib.hid (by have := hpx.set 3 (.int .i64 n3); simpa using this)
    have HTY := Lib.hid (HTX.out.trans (tt.mono (by simp) : Touch [RB + 1, RB + 1 + 1] _ _))
    clear hpx HRX HPX HTX
    replace HK1 := Lib.hid (HK1.out.touch tt (fun k hk => by have := (HK1.out.own k hk).1; have := HZ1.out; simp; omega))
    replace HK2 := Lib.hid (HK2.out.touch tt (fun k hk => by have := (HK2.out.own k hk).1; have := HZ2.out; simp; omega))
    replace HK3 := Lib.hid (HK3.out.touch tt (fun k hk => by have := (HK3.out.own k hk).1; have := HZ3.out; simp; omega))
    clear tt
    have HRX := HRY
    have HPX := HPY
    have HTX := HTY
    clear HRY HPY HTY
    go_wp2_with fail
    clear p_ f_
    refine (rlist_int D 0 (RB + 1) 8 (s4_ D) _ HRX.out (by omega) HD.out HDB.out).mono ?_
    rintro e wE4 ⟨v5, l5, rfl, hA, hl5, hR, ht, he5⟩
    have HZ5 : Hid (RB + 1 + 1 < ((wE3.setCell ⟨RB + 1 + 1, 3, none⟩ (.int .i64 n3))).heap.size) := Lib.hid HPX.out.lt
    replace HRX := Lib.hid hR
    have hpx := HPX.out.touch ht (by simp)
    replace HPX := Lib.hid hpx
    replace HTX := Lib.hid (HTX.out.trans (ht.mono (by simp) : Touch [RB + 1, RB + 1 + 1] _ _))
    replace HK1 := Lib.hid (HK1.out.touch ht (fun k hk => by have := (HK1.out.own k hk).1; have := HZ1.out; simp; omega))
    replace HK2 := Lib.hid (HK2.out.touch ht (fun k hk => by have := (HK2.out.own k hk).1; have := HZ2.out; simp; omega))
    replace HK3 := Lib.hid (HK3.out.touch ht (fun k hk => by have := (HK3.out.own k hk).1; have := HZ3.out; simp; omega))
    have HK5 := Lib.hid hA
    have HE5 := Lib.hid he5
    have HL5 := Lib.hid hl5
    obtain ⟨b5, c5, hform, _⟩ := Qu.shape hA
    rw [List.length_map, nums_len] at hform
    subst hform
    clear hA he5 hl5
    clear hR ht
    have p_ := hpx.cell (i := 4) rfl
    have f_ := hpx.free 4
    have tt : Touch [RB + 1 + 1] wE4 (wE4.setCell ⟨RB + 1 + 1, 4, none⟩ (.slice b5 l5 c5)) := (Touch.refl [RB + 1 + 1] wE4).setCell (by simp) _
    have HRY := Lib.hid (HRX.out.grown tt (by simp))
    have HPY : Hid (Blk (wE4.setCell ⟨RB + 1 + 1, 4, none⟩ (.slice b5 l5 c5)) (RB + 1 + 1) #[.slice b1 l1 c1, .slice b2 l2 c2, .slice b3 l3 c3, .int .i64 n3, .slice b5 l5 c5, .slice none 0 0, .slice none 0 0, .slice none 0 0, .int .i64 0] 29) := Lib.hid (by have := hpx.set 4 (.slice b5 l5 c5); simpa using this)
    have HTY := Lib.hid (HTX.out.trans (tt.mono (by simp) : Touch [RB + 1, RB + 1 + 1] _ _))
    clear hpx HRX HPX HTX
    replace HK1 := Lib.hid (HK1.out.touch tt (fun k hk => by have := (HK1.out.own k hk).1; have := HZ1.out; simp; omega))
    replace HK2 := Lib.hid (HK2.out.touch tt (fun k hk => by have := (HK2.out.own k hk).1; have := HZ2.out; simp; omega))
    replace HK3 := Lib.hid (HK3.out.touch tt (fun k hk => by have := (HK3.out.own k hk).1; have := HZ3.out; simp; omega))
    replace HK5 := Lib.hid (Qu.touch HK5.out tt (fun k hk => by have := (Qu.own HK5.out k hk).1; have := HZ5.out; simp; omega))
    clear tt
    have HRX := HRY
    have HPX := HPY
    have HTX := HTY
    clear HRY HPY HTY
    go_wp2_with fail
    clear p_ f_
    refine (rlist_int D 0 (RB + 1) 6 (s5_ D) _ HRX.out (by omega) HD.out HDB.out).mono ?_
    rintro e wE5 ⟨v6, l6, rfl, hA, hl6, hR, ht, he6⟩
    have HZ6 : Hid (RB + 1 + 1 < ((wE4.setCell ⟨RB + 1 + 1, 4, none⟩ (.slice b5 l5 c5))).heap.size) := Lib.hid HPX.out.lt
    replace HRX := Lib.hid hR
    have hpx := HPX.out.touch ht (by simp)
    replace HPX := Lib.hid hpx
    replace HTX := Lib.hid (HTX.out.trans (ht.mono (by simp) : Touch [RB + 1, RB + 1 + 1] _ _))
    replace HK1 := Lib.hid (HK1.out.touch ht (fun k hk => by have := (HK1.out.own k hk).1; have := HZ1.out; simp; omega))
    replace HK2 := Lib.hid (HK2.out.touch ht (fun k hk => by have := (HK2.out.own k hk).1; have := HZ2.out; simp; omega))
    replace HK3 := Lib.hid (HK3.out.touch ht (fun k hk => by have := (HK3.out.own k hk).1; have := HZ3.out; simp; omega))
    replace HK5 := Lib.hid (Qu.touch HK5.out ht (fun k hk => by have := (Qu.own HK5.out k hk).1; have := HZ5.out; simp; omega))
    have HK6 := Lib.hid hA
    have HE6 := Lib.hid he6
    have HL6 := Lib.hid hl6
    obtain ⟨b6, c6, hform, _⟩ := Qu.shape hA
    rw [List.length_map, nums_len] at hform
    subst hform
    clear hA he6 hl6
    clear hR ht
    have p_ := hpx.cell (i := 5) rfl
    have f_ := hpx.free 5
    have tt : Touch [RB + 1 + 1] wE5 (wE5.setCell ⟨RB + 1 + 1, 5, none⟩ (.slice b6 l6 c6)) := (Touch.refl [RB + 1 + 1] wE5).setCell (by simp) _
    have HRY := Lib.hid (HRX.out.grown tt (by simp))
    have HPY : Hid (Blk (wE5.setCell ⟨RB + 1 + 1, 5, none⟩ (.slice b6 l6 c6)) (RB + 1 + 1) #[.slice b1 l1 c1, .slice b2 l2 c2, .slice b3 l3 c3, .int .i64 n3, .slice b5 l5 c5, .slice b6 l6 c6, .slice none 0 0, .slice none 0 0, .int .i64 0] 29) := Lib.hid (by have := hpx.set 5 (.slice b6 l6 c6); simpa using this)
    have HTY := Lib.hid (HTX.out.trans (tt.mono (by simp) : Touch [RB + 1, RB + 1 + 1] _ _))
    clear hpx HRX HPX HTX
    replace HK1 := Lib.hid (HK1.out.touch tt (fun k hk => by have := (HK1.out.own k hk).1; have := HZ1.out; simp; omega))
    replace HK2 := Lib.hid (HK2.out.touch tt (fun k hk => by have := (HK2.out.own k hk).1; have := HZ2.out; simp; omega))
    replace HK3 := Lib.hid (HK3.out.touch tt (fun k hk => by have := (HK3.out.own k hk).1; have := HZ3.out; simp; omega))
    replace HK5 := Lib.hid (Qu.touch HK5.out tt (fun k hk => by have := (Qu.own HK5.out k hk).1; have := HZ5.out; simp; omega))
    replace HK6 := Lib.hid (Qu.touch HK6.out tt (fun k hk => by have := (Qu.own HK6.out k hk).1; have := HZ6.out; simp; omega))
    clear tt
    have p2_ := HPY.out.cell (i := 5) rfl
    have r2_ := HRY.out.class
    have g2_ := HRY.out.free 1
    have tt : Touch [RB + 1] (wE5.setCell ⟨RB + 1 + 1, 5, none⟩ (.slice b6 l6 c6)) ((wE5.setCell ⟨RB + 1 + 1, 5, none⟩ (.slice b6 l6 c6)).setCell ⟨RB + 1, 1, none⟩ (.int .i64 (l6 : Int))) := (Touch.refl [RB + 1] _).setCell (by simp) _
    replace HRY : Hid (Rd D l6 ((wE5.setCell ⟨RB + 1 + 1, 5, none⟩ (.slice b6 l6 c6)).setCell ⟨RB + 1, 1, none⟩ (.int .i64 (l6 : Int))) (RB + 1) (s6_ D)) := Lib.hid (HRY.out.setcl l6)
    replace HPY := Lib.hid (HPY.out.touch tt (by simp))
    replace HTY := Lib.hid (HTY.out.trans (tt.mono (by simp) : Touch [RB + 1, RB + 1 + 1] _ _))
    replace HK1 := Lib.hid (HK1.out.touch tt (fun k hk => by have := (HK1.out.own k hk).1; have := HZ1.out; simp; omega))
    replace HK2 := Lib.hid (HK2.out.touch tt (fun k hk => by have := (HK2.out.own k hk).1; have := HZ2.out; simp; omega))
    replace HK3 := Lib.hid (HK3.out.touch tt (fun k hk => by have := (HK3.out.own k hk).1; have := HZ3.out; simp; omega))
    replace HK5 := Lib.hid (Qu.touch HK5.out tt (fun k hk => by have := (Qu.own HK5.out k hk).1; have := HZ5.out; simp; omega))
    replace HK6 := Lib.hid (Qu.touch HK6.out tt (fun k hk => by have := (Qu.own HK6.out k hk).1; have := HZ6.out; simp; omega))
    clear tt
    have HRX := HRY
    have HPX := HPY
    have HTX := HTY
    clear HRY HPY HTY
    go_wp2_with fail
    clear p_ f_
    clear p2_ r2_ g2_
    refine (rlist_rows D l6 (RB + 1) 1000 (s6_ D) _ HRX.out (by omega) (by have := HL6.out; omega) HD.out HDB.out).mono ?_
    rintro e wE6 ⟨v7, l7, rfl, hA, hl7, hR, ht, he7⟩
    have HZ7 : Hid (RB + 1 + 1 < (((wE5.setCell ⟨RB + 1 + 1, 5, none⟩ (.slice b6 l6 c6)).setCell ⟨RB + 1, 1, none⟩ (.int .i64 (l6 : Int)))).heap.size) := Lib.hid HPX.out.lt
    replace HRX := Lib.hid hR
    have hpx := HPX.out.touch ht (by simp)
    replace HPX := Lib.hid hpx
    replace HTX := Lib.hid (HTX.out.trans (ht.mono (by simp) : Touch [RB + 1, RB + 1 + 1] _ _))
    replace HK1 := Lib.hid (HK1.out.touch ht (fun k hk => by have := (HK1.out.own k hk).1; have := HZ1.out; simp; omega))
    replace HK2 := Lib.hid (HK2.out.touch ht (fun k hk => by have := (HK2.out.own k hk).1; have := HZ2.out; simp; omega))
    replace HK3 := Lib.hid (HK3.out.touch ht (fun k hk => by have := (HK3.out.own k hk).1; have := HZ3.out; simp; omega))
    replace HK5 := Lib.hid (Qu.touch HK5.out ht (fun k hk => by have := (Qu.own HK5.out k hk).1; have := HZ5.out; simp; omega))
    replace HK6 := Lib.hid (Qu.touch HK6.out ht (fun k hk => by have := (Qu.own HK6.out k hk).1; have := HZ6.out; simp; omega))
    have HK7 := Lib.hid hA
    have HE7 := Lib.hid he7
    have HL7 := Lib.hid hl7
    obtain ⟨b7, c7, hform⟩ := hA.rws.form
    rw [rows_len] at hform
    subst hform
    clear hA he7 hl7
    clear hR ht
    have p_ := hpx.cell (i := 6) rfl
    have f_ := hpx.free 6
    have tt : Touch [RB + 1 + 1] wE6 (wE6.setCell ⟨RB + 1 + 1, 6, none⟩ (.slice b7 l7 c7)) := (Touch.refl [RB + 1 + 1] wE6).setCell (by simp) _
    have HRY := Lib.hid (HRX.out.grown tt (by simp))
    have HPY : Hid (Blk (wE6.setCell ⟨RB + 1 + 1, 6, none⟩ (.slice b7 l7 c7)) (RB + 1 + 1) #[.slice b1 l1 c1, .slice b2 l2 c2, .slice b3 l3 c3, .int .i64 n3, .slice b5 l5 c5, .slice b6 l6 c6, .slice b7 l7 c7, .slice none 0 0, .int .i64 0] 29) := Lib.hid (by have := hpx.set 6 (.slice b7 l7 c7); simpa using this)
    have HTY := Lib.hid (HTX.out.trans (tt.mono (by simp) : Touch [RB + 1, RB + 1 + 1] _ _))
    clear hpx HRX HPX HTX
    replace HK1 := Lib.hid (HK1.out.touch tt (fun k hk => by have := (HK1.out.own k hk).1; have := HZ1.out; simp; omega))
    replace HK2 := Lib.hid (HK2.out.touch tt (fun k hk => by have := (HK2.out.own k hk).1; have := HZ2.out; simp; omega))
    replace HK3 := Lib.hid (HK3.out.touch tt (fun k hk => by have := (HK3.out.own k hk).1; have := HZ3.out; simp; omega))
    replace HK5 := Lib.hid (Qu.touch HK5.out tt (fun k hk => by have := (Qu.own HK5.out k hk).1; have := HZ5.out; simp; omega))
    replace HK6 := Lib.hid (Qu.touch HK6.out tt (fun k hk => by have := (Qu.own HK6.out k hk).1; have := HZ6.out; simp; omega))
    replace HK7 := Lib.hid (HK7.out.touch tt (fun k hk => by have := HZ7.out; simp only [List.mem_singleton] at hk; omega))
    clear tt
    have HRX := HRY
    have HPX := HPY
    have HTX := HTY
    clear HRY HPY HTY
    go_wp2_with fail
    clear p_ f_
    refine (rlist_spawn D l6 (RB + 1) 1000 (s7_ D l6) _ HRX.out (by omega) HD.out HDB.out).mono ?_
    rintro e wE7 ⟨v8, l8, rfl, hA, hl8, hR, ht, he8⟩
    have HZ8 : Hid (RB + 1 + 1 < ((wE6.setCell ⟨RB + 1 + 1, 6, none⟩ (.slice b7 l7 c7))).heap.size) := Lib.hid HPX.out.lt
    replace HRX := Lib.hid hR
    have hpx := HPX.out.touch ht (by simp)
    replace HPX := Lib.hid hpx
    replace HTX := Lib.hid (HTX.out.trans (ht.mono (by simp) : Touch [RB + 1, RB + 1 + 1] _ _))
    replace HK1 := Lib.hid (HK1.out.touch ht (fun k hk => by have := (HK1.out.own k hk).1; have := HZ1.out; simp; omega))
    replace HK2 := Lib.hid (HK2.out.touch ht (fun k hk => by have := (HK2.out.own k hk).1; have := HZ2.out; simp; omega))
    replace HK3 := Lib.hid (HK3.out.touch ht (fun k hk => by have := (HK3.out.own k hk).1; have := HZ3.out; simp; omega))
    replace HK5 := Lib.hid (Qu.touch HK5.out ht (fun k hk => by have := (Qu.own HK5.out k hk).1; have := HZ5.out; simp; omega))
    replace HK6 := Lib.hid (Qu.touch HK6.out ht (fun k hk => by have := (Qu.own HK6.out k hk).1; have := HZ6.out; simp; omega))
    replace HK7 := Lib.hid (HK7.out.touch ht (fun k hk => by have := HZ7.out; simp only [List.mem_singleton] at hk; omega))
    have HK8 := Lib.hid hA
    have HE8 := Lib.hid he8
    have HL8 := Lib.hid hl8
    obtain ⟨b8, c8, rfl, _⟩ := hA.form
    clear hA he8 hl8
    clear hR ht
    have p_ := hpx.cell (i := 7) rfl
    have f_ := hpx.free 7
    have tt : Touch [RB + 1 + 1] wE7 (wE7.setCell ⟨RB + 1 + 1, 7, none⟩ (.slice b8 l8 c8)) := (Touch.refl [RB + 1 + 1] wE7).setCell (by simp) _
    have HRY := Lib.hid (HRX.out.grown tt (by simp))
    have HPY : Hid (Blk (wE7.setCell ⟨RB + 1 + 1, 7, none⟩ (.slice b8 l8 c8)) (RB + 1 + 1) #[.slice b1 l1 c1, .slice b2 l2 c2, .slice b3 l3 c3, .int .i64 n3, .slice b5 l5 c5, .slice b6 l6 c6, .slice b7 l7 c7, .slice b8 l8 c8, .int .i64 0] 29) := Lib.hid (by have := hpx.set 7 (.slice b8 l8 c8); simpa using this)
    have HTY := Lib.hid (HTX.out.trans (tt.mono (by simp) : Touch [RB + 1, RB + 1 + 1] _ _))
    clear hpx HRX HPX HTX
    replace HK1 := Lib.hid (HK1.out.touch tt (fun k hk => by have := (HK1.out.own k hk).1; have := HZ1.out; simp; omega))
    replace HK2 := Lib.hid (HK2.out.touch tt (fun k hk => by have := (HK2.out.own k hk).1; have := HZ2.out; simp; omega))
    replace HK3 := Lib.hid (HK3.out.touch tt (fun k hk => by have := (HK3.out.own k hk).1; have := HZ3.out; simp; omega))
    replace HK5 := Lib.hid (Qu.touch HK5.out tt (fun k hk => by have := (Qu.own HK5.out k hk).1; have := HZ5.out; simp; omega))
    replace HK6 := Lib.hid (Qu.touch HK6.out tt (fun k hk => by have := (Qu.own HK6.out k hk).1; have := HZ6.out; simp; omega))
    replace HK7 := Lib.hid (HK7.out.touch tt (fun k hk => by have := HZ7.out; simp only [List.mem_singleton] at hk; omega))
    replace HK8 := Lib.hid (HK8.out.touch tt (fun k hk => by have := (HK8.out.own k hk).1; have := HZ8.out; simp; omega))
    clear tt
    have HRX := HRY
    have HPX := HPY
    have HTX := HTY
    clear HRY HPY HTY
    go_wp2_with fail
    clear p_ f_
    refine (num_any D l6 (RB + 1) (s8_ D l6) _ HRX.out HD.out HDB.out).mono ?_
    rintro e wE8 ⟨rfl, hR, ht⟩
    replace HRX := Lib.hid hR
    have hpx := HPX.out.touch ht (by simp)
    replace HPX := Lib.hid hpx
    replace HTX := Lib.hid (HTX.out.trans (ht.mono (by simp) : Touch [RB + 1, RB + 1 + 1] _ _))
    replace HK1 := Lib.hid (HK1.out.touch ht (fun k hk => by have := (HK1.out.own k hk).1; have := HZ1.out; simp; omega))
    replace HK2 := Lib.hid (HK2.out.touch ht (fun k hk => by have := (HK2.out.own k hk).1; have := HZ2.out; simp; omega))
    replace HK3 := Lib.hid (HK3.out.touch ht (fun k hk => by have := (HK3.out.own k hk).1; have := HZ3.out; simp; omega))
    replace HK5 := Lib.hid (Qu.touch HK5.out ht (fun k hk => by have := (Qu.own HK5.out k hk).1; have := HZ5.out; simp; omega))
    replace HK6 := Lib.hid (Qu.touch HK6.out ht (fun k hk => by have := (Qu.own HK6.out k hk).1; have := HZ6.out; simp; omega))
    replace HK7 := Lib.hid (HK7.out.touch ht (fun k hk => by have := HZ7.out; simp only [List.mem_singleton] at hk; omega))
    replace HK8 := Lib.hid (HK8.out.touch ht (fun k hk => by have := (HK8.out.own k hk).1; have := HZ8.out; simp; omega))
    obtain ⟨n8, hn8⟩ : ∃ x, nv D (s8_ D l6) = x := ⟨_, rfl⟩
    rw [hn8]
    have HN8 := Lib.hid hn8
    clear hn8
    clear hR ht
    have p_ := hpx.cell (i := 8) rfl
    have f_ := hpx.free 8
    have tt : Touch [RB + 1 + 1] wE8 (wE8.setCell ⟨RB + 1 + 1, 8, none⟩ (.int .i64 n8)) := (Touch.refl [RB + 1 + 1] wE8).setCell (by simp) _
    have HRY := Lib.hid (HRX.out.grown tt (by simp))
    have HPY : Hid (Blk (wE8.setCell ⟨RB + 1 + 1, 8, none⟩ (.int .i64 n8)) (RB + 1 + 1) #[.slice b1 l1 c1, .slice b2 l2 c2, .slice b3 l3 c3, .int .i64 n3, .slice b5 l5 c5, .slice b6 l6 c6, .slice b7 l7 c7, .slice b8 l8 c8, .int .i64 n8] 29) := Lib.hid (by have := hpx.set 8 (.int .i64 n8); simpa using this)
    have HTY := Lib.hid (HTX.out.trans (tt.mono (by simp) : Touch [RB + 1, RB + 1 + 1] _ _))
    clear hpx HRX HPX HTX
    replace HK1 := Lib.hid (HK1.out.touch tt (fun k hk => by have := (HK1.out.own k hk).1; have := HZ1.out; simp; omega))
    replace HK2 := Lib.hid (HK2.out.touch tt (fun k hk => by have := (HK2.out.own k hk).1; have := HZ2.out; simp; omega))
    replace HK3 := Lib.hid (HK3.out.touch tt (fun k hk => by have := (HK3.out.own k hk).1; have := HZ3.out; simp; omega))
    replace HK5 := Lib.hid (Qu.touch HK5.out tt (fun k hk => by have := (Qu.own HK5.out k hk).1; have := HZ5.out; simp; omega))
    replace HK6 := Lib.hid (Qu.touch HK6.out tt (fun k hk => by have := (Qu.own HK6.out k hk).1; have := HZ6.out; simp; omega))
    replace HK7 := Lib.hid (HK7.out.touch tt (fun k hk => by have := HZ7.out; simp only [List.mem_singleton] at hk; omega))
    replace HK8 := Lib.hid (HK8.out.touch tt (fun k hk => by have := (HK8.out.own k hk).1; have := HZ8.out; simp; omega))
    clear tt
    have HRX := HRY
    have HPX := HPY
    have HTX := HTY
    clear HRY HPY HTY
    go_upto_region 15 with fail
    clear p_ f_
    obtain ⟨wX, hX⟩ : ∃ x, (wE8.setCell ⟨RB + 1 + 1, 8, none⟩ (.int .i64 n8)) = x := ⟨_, rfl⟩
    rw [hX] at HRX HPX HTX HK1 HK2 HK3 HK5 HK6 HK7 HK8 ⊢
    clear hX
    have HCC : Hid (∀ q, s6_ D = some q → l6 = un_ D 2 (s5_ D)) := Lib.hid HE6.out
    cases hst : s9_ D l6 with
    | none =>
      have hrx := HRX.out
      rw [show go_ D 8 (s8_ D l6) = none from hst] at hrx
      obtain ⟨v, R, hbk, hbs, hrl, hown⟩ := hrx
      have x2_ := hbk.cell (i := 2) rfl
      clear hbk hbs hrl hown
      have HNO : Hid (¬ DecOk D) := Lib.hid (fun h => by have := chain_dec HCC.out h; rw [hst] at this; cases this)
      have zz := HB1.out.touch HTX.out (by simp; omega)
      have r0_ := zz.cell (i := 0) rfl
      have g0_ := zz.free 0
      have r1_ := zz.cell (i := 1) rfl
      have g1_ := zz.free 1
      have r2_ := zz.cell (i := 2) rfl
      have g2_ := zz.free 2
      have r3_ := zz.cell (i := 3) rfl
      have g3_ := zz.free 3
      have r4_ := zz.cell (i := 4) rfl
      have g4_ := zz.free 4
      have r5_ := zz.cell (i := 5) rfl
      have g5_ := zz.free 5
      have r6_ := zz.cell (i := 6) rfl
      have g6_ := zz.free 6
      have r7_ := zz.cell (i := 7) rfl
      have g7_ := zz.free 7
      have r8_ := zz.cell (i := 8) rfl
      have g8_ := zz.free 8
      have HTT : Hid (Touch [RB, RB + 1, RB + 1 + 1] w wX) := Lib.hid ((HTW.out.mono (by simp)).trans (HTX.out.mono (by simp)))
      (try clear HK1); (try clear HK2); (try clear HK3); (try clear HK5); (try clear HK6); (try clear HK7); (try clear HK8); (try clear HE1); (try clear HE2); (try clear HE3); (try clear HE5); (try clear HE6); (try clear HE7); (try clear HE8); (try clear HL1); (try clear HL2); (try clear HL3); (try clear HL5); (try clear HL6); (try clear HL7); (try clear HL8); (try clear HZ1); (try clear HZ2); (try clear HZ3); (try clear HZ5); (try clear HZ6); (try clear HZ7); (try clear HZ8); (try clear HN3); (try clear HN8); (try clear HRX); (try clear HPX); (try clear HCC); (try clear HCH); (try clear HO9); (try clear HD); (try clear HDB); (try clear HBS); (try clear HL); (try clear HOWN); (try clear HV1); (try clear HOW); (try clear HSB); (try clear HPG); (try clear HPM); (try clear hl2); (try clear hs); (try clear h2i); (try clear h2c); (try clear h2d); (try clear hc2); (try clear hcap); (try clear hoL); (try clear hst); (try clear HTX); (try clear HTW); (try clear HB1); (try clear HB0); (try clear HT0); (try clear HBM); (try clear HTM); (try clear hmay); (try clear hown)
      go_wp2_with fail
      have hbF : Blk _ RB #[.slice none 0 0, .slice none 0 0, .slice none 0 0, .int .i64 0, .slice none 0 0, .slice none 0 0, .slice none 0 0, .slice none 0 0, .int .i64 0] 29 := (((((((((zz.set 0 (.slice none 0 0)).set 1 (.slice none 0 0)).set 2 (.slice none 0 0)).set 3 (.int .i64 0)).set 4 (.slice none 0 0)).set 5 (.slice none 0 0)).set 6 (.slice none 0 0)).set 7 (.slice none 0 0)).set 8 (.int .i64 0))
      have htF : Touch [] w _ := Touch.fresh (S := [RB, RB + 1, RB + 1 + 1]) (HTT.out.trans (((((((((((Touch.refl [RB] wX).setCell (p := ⟨RB, 0, none⟩) (by simp) (.slice none 0 0)).setCell (p := ⟨RB, 1, none⟩) (by simp) (.slice none 0 0)).setCell (p := ⟨RB, 2, none⟩) (by simp) (.slice none 0 0)).setCell (p := ⟨RB, 3, none⟩) (by simp) (.int .i64 0)).setCell (p := ⟨RB, 4, none⟩) (by simp) (.slice none 0 0)).setCell (p := ⟨RB, 5, none⟩) (by simp) (.slice none 0 0)).setCell (p := ⟨RB, 6, none⟩) (by simp) (.slice none 0 0)).setCell (p := ⟨RB, 7, none⟩) (by simp) (.slice none 0 0)).setCell (p := ⟨RB, 8, none⟩) (by simp) (.int .i64 0)).mono (by simp))) (fun k hk hlt => by have := HRB.out; simp at hk; omega)
      obtain ⟨W, hW⟩ : ∃ W, (((((((((wX.setCell ⟨RB, 0, none⟩ (.slice none 0 0)).setCell ⟨RB, 1, none⟩ (.slice none 0 0)).setCell ⟨RB, 2, none⟩ (.slice none 0 0)).setCell ⟨RB, 3, none⟩ (.int .i64 0)).setCell ⟨RB, 4, none⟩ (.slice none 0 0)).setCell ⟨RB, 5, none⟩ (.slice none 0 0)).setCell ⟨RB, 6, none⟩ (.slice none 0 0)).setCell ⟨RB, 7, none⟩ (.slice none 0 0)).setCell ⟨RB, 8, none⟩ (.int .i64 0)) = W := ⟨_, rfl⟩
      rw [hW] at hbF htF ⊢
      have HTF := Lib.hid htF
      have q0_ := hbF.cell (i := 0) rfl
      have q1_ := hbF.cell (i := 1) rfl
      have q2_ := hbF.cell (i := 2) rfl
      have q3_ := hbF.cell (i := 3) rfl
      have q4_ := hbF.cell (i := 4) rfl
      have q5_ := hbF.cell (i := 5) rfl
      have q6_ := hbF.cell (i := 6) rfl
      have q7_ := hbF.cell (i := 7) rfl
      have q8_ := hbF.cell (i := 8) rfl
      clear r0_ g0_ r1_ g1_ r2_ g2_ r3_ g3_ r4_ g4_ r5_ g5_ r6_ g6_ r7_ g7_ r8_ g8_ zz hbF htF hW
      (try simp only [Exit.inBlock, Exit.then]); refine bodyPost_ret (by simp [results, Try.results14, go_sem, q0_, q1_, q2_, q3_, q4_, q5_, q6_, q7_, q8_]; try rfl) rfl ?_
      exact ⟨_, 5, rfl, HTF.out, .inr ⟨HNO.out, rfl, zero_pg _⟩⟩
    | some o =>
      obtain ⟨ho9, hch⟩ := chain_of HCC.out hst
      have HCH := Lib.hid hch
      have hrx := HRX.out
      rw [show go_ D 8 (s8_ D l6) = some o from hst] at hrx
      obtain ⟨hol, v, hbk, hbs, hown⟩ := hrx
      obtain ⟨ra, rc, rfl⟩ := hbs.form
      rw [List.length_drop, HL.out] at hbk
      have HO9 := Lib.hid ho9
      have x2_ := hbk.cell (i := 2) rfl
      have x0_ := hbk.cell (i := 0) rfl
      have hoL : o ≤ 2 := by have := HL.out; omega
      clear hbk hbs hown hst hch ho9
      by_cases hrest : o < 2
      case pos =>
        have hr0 : ¬ 2 - o = 0 := by omega
        have hr1 : 0 < 2 - o := by omega
        have hr2 : decide ((0 : Int) < ((2 - o : Nat) : Int)) = true := dT (by omega)
        have HNO : Hid (¬ DecOk D) := Lib.hid (fun h => by have h1 := h.2.1; have h2 := HO9.out; have h3 := HL.out; omega)
        have zz := HB1.out.touch HTX.out (by simp; omega)
        have r0_ := zz.cell (i := 0) rfl
        have g0_ := zz.free 0
        have r1_ := zz.cell (i := 1) rfl
        have g1_ := zz.free 1
        have r2_ := zz.cell (i := 2) rfl
        have g2_ := zz.free 2
        have r3_ := zz.cell (i := 3) rfl
        have g3_ := zz.free 3
        have r4_ := zz.cell (i := 4) rfl
        have g4_ := zz.free 4
        have r5_ := zz.cell (i := 5) rfl
        have g5_ := zz.free 5
        have r6_ := zz.cell (i := 6) rfl
        have g6_ := zz.free 6
        have r7_ := zz.cell (i := 7) rfl
        have g7_ := zz.free 7
        have r8_ := zz.cell (i := 8) rfl
        have g8_ := zz.free 8
        have HTT : Hid (Touch [RB, RB + 1, RB + 1 + 1] w wX) := Lib.hid ((HTW.out.mono (by simp)).trans (HTX.out.mono (by simp)))
        (try clear HK1); (try clear HK2); (try clear HK3); (try clear HK5); (try clear HK6); (try clear HK7); (try clear HK8); (try clear HE1); (try clear HE2); (try clear HE3); (try clear HE5); (try clear HE6); (try clear HE7); (try clear HE8); (try clear HL1); (try clear HL2); (try clear HL3); (try clear HL5); (try clear HL6); (try clear HL7); (try clear HL8); (try clear HZ1); (try clear HZ2); (try clear HZ3); (try clear HZ5); (try clear HZ6); (try clear HZ7); (try clear HZ8); (try clear HN3); (try clear HN8); (try clear HRX); (try clear HPX); (try clear HCC); (try clear HCH); (try clear HO9); (try clear HD); (try clear HDB); (try clear HBS); (try clear HL); (try clear HOWN); (try clear HV1); (try clear HOW); (try clear HSB); (try clear HPG); (try clear HPM); (try clear hl2); (try clear hs); (try clear h2i); (try clear h2c); (try clear h2d); (try clear hc2); (try clear hcap); (try clear hoL); (try clear hst); (try clear HTX); (try clear HTW); (try clear HB1); (try clear HB0); (try clear HT0); (try clear HBM); (try clear HTM); (try clear hmay); (try clear hown)
        go_wp2_with fail
        have hbF : Blk _ RB #[.slice none 0 0, .slice none 0 0, .slice none 0 0, .int .i64 0, .slice none 0 0, .slice none 0 0, .slice none 0 0, .slice none 0 0, .int .i64 0] 29 := (((((((((zz.set 0 (.slice none 0 0)).set 1 (.slice none 0 0)).set 2 (.slice none 0 0)).set 3 (.int .i64 0)).set 4 (.slice none 0 0)).set 5 (.slice none 0 0)).set 6 (.slice none 0 0)).set 7 (.slice none 0 0)).set 8 (.int .i64 0))
        have htF : Touch [] w _ := Touch.fresh (S := [RB, RB + 1, RB + 1 + 1]) (HTT.out.trans (((((((((((Touch.refl [RB] wX).setCell (p := ⟨RB, 0, none⟩) (by simp) (.slice none 0 0)).setCell (p := ⟨RB, 1, none⟩) (by simp) (.slice none 0 0)).setCell (p := ⟨RB, 2, none⟩) (by simp) (.slice none 0 0)).setCell (p := ⟨RB, 3, none⟩) (by simp) (.int .i64 0)).setCell (p := ⟨RB, 4, none⟩) (by simp) (.slice none 0 0)).setCell (p := ⟨RB, 5, none⟩) (by simp) (.slice none 0 0)).setCell (p := ⟨RB, 6, none⟩) (by simp) (.slice none 0 0)).setCell (p := ⟨RB, 7, none⟩) (by simp) (.slice none 0 0)).setCell (p := ⟨RB, 8, none⟩) (by simp) (.int .i64 0)).mono (by simp))) (fun k hk hlt => by have := HRB.out; simp at hk; omega)
        obtain ⟨W, hW⟩ : ∃ W, (((((((((wX.setCell ⟨RB, 0, none⟩ (.slice none 0 0)).setCell ⟨RB, 1, none⟩ (.slice none 0 0)).setCell ⟨RB, 2, none⟩ (.slice none 0 0)).setCell ⟨RB, 3, none⟩ (.int .i64 0)).setCell ⟨RB, 4, none⟩ (.slice none 0 0)).setCell ⟨RB, 5, none⟩ (.slice none 0 0)).setCell ⟨RB, 6, none⟩ (.slice none 0 0)).setCell ⟨RB, 7, none⟩ (.slice none 0 0)).setCell ⟨RB, 8, none⟩ (.int .i64 0)) = W := ⟨_, rfl⟩
        rw [hW] at hbF htF ⊢
        have HTF := Lib.hid htF
        have q0_ := hbF.cell (i := 0) rfl
        have q1_ := hbF.cell (i := 1) rfl
        have q2_ := hbF.cell (i := 2) rfl
        have q3_ := hbF.cell (i := 3) rfl
        have q4_ := hbF.cell (i := 4) rfl
        have q5_ := hbF.cell (i := 5) rfl
        have q6_ := hbF.cell (i := 6) rfl
        have q7_ := hbF.cell (i := 7) rfl
        have q8_ := hbF.cell (i := 8) rfl
        clear r0_ g0_ r1_ g1_ r2_ g2_ r3_ g3_ r4_ g4_ r5_ g5_ r6_ g6_ r7_ g7_ r8_ g8_ zz hbF htF hW
        (try simp only [Exit.inBlock, Exit.then]); refine bodyPost_ret (by simp [results, Try.results14, go_sem, q0_, q1_, q2_, q3_, q4_, q5_, q6_, q7_, q8_]; try rfl) rfl ?_
        exact ⟨_, 5, rfl, HTF.out, .inr ⟨HNO.out, rfl, zero_pg _⟩⟩
      obtain rfl : o = 2 := by omega
      rw [Nat.sub_self] at x0_
      have p0_ := HPX.out.cell (i := 0) rfl
      have p1_ := HPX.out.cell (i := 1) rfl
      have p2_ := HPX.out.cell (i := 2) rfl
      have p3_ := HPX.out.cell (i := 3) rfl
      have p4_ := HPX.out.cell (i := 4) rfl
      have p5_ := HPX.out.cell (i := 5) rfl
      have p6_ := HPX.out.cell (i := 6) rfl
      have p7_ := HPX.out.cell (i := 7) rfl
      have p8_ := HPX.out.cell (i := 8) rfl
      have hpg := pg_of HCH.out HK1.out HK2.out HK3.out HK5.out HK6.out HK7.out HK8.out HE1.out HE2.out HE3.out HE5.out HE6.out HE7.out HE8.out
      rw [HN3.out, HN8.out] at hpg
      have HPG := Lib.hid hpg
      clear hpg
      go_wp2_with fail
      refine (may_any _ (decP D) _ HPG.out).mono ?_
      rintro e wM ⟨rfl, htM⟩
      have HPM := Lib.hid (HPX.out.touch htM (by simp))
      have HBM := Lib.hid ((HB1.out.touch HTX.out (by simp; omega)).touch htM (by simp))
      have HTM : Hid (Touch [RB, RB + 1, RB + 1 + 1] w wM) := Lib.hid (((HTW.out.mono (by simp)).trans (HTX.out.mono (by simp))).trans (htM.mono (by simp)))
      replace HK1 := Lib.hid (HK1.out.touch htM (by simp))
      replace HK2 := Lib.hid (HK2.out.touch htM (by simp))
      replace HK3 := Lib.hid (HK3.out.touch htM (by simp))
      replace HK5 := Lib.hid (Qu.touch HK5.out htM (by simp))
      replace HK6 := Lib.hid (Qu.touch HK6.out htM (by simp))
      replace HK7 := Lib.hid (HK7.out.touch htM (by simp))
      replace HK8 := Lib.hid (HK8.out.touch htM (by simp))
      clear htM x0_ x2_ p0_ p1_ p2_ p3_ p4_ p5_ p6_ p7_ p8_
      by_cases hmay : MayP (decP D)
      case neg =>
        rw [show decide (MayP (decP D)) = false from decide_eq_false hmay]
        have HNO : Hid (¬ DecOk D) := Lib.hid (fun h => hmay h.2.2)
        have zz := HBM.out
        have r0_ := zz.cell (i := 0) rfl
        have g0_ := zz.free 0
        have r1_ := zz.cell (i := 1) rfl
        have g1_ := zz.free 1
        have r2_ := zz.cell (i := 2) rfl
        have g2_ := zz.free 2
        have r3_ := zz.cell (i := 3) rfl
        have g3_ := zz.free 3
        have r4_ := zz.cell (i := 4) rfl
        have g4_ := zz.free 4
        have r5_ := zz.cell (i := 5) rfl
        have g5_ := zz.free 5
        have r6_ := zz.cell (i := 6) rfl
        have g6_ := zz.free 6
        have r7_ := zz.cell (i := 7) rfl
        have g7_ := zz.free 7
        have r8_ := zz.cell (i := 8) rfl
        have g8_ := zz.free 8
        have HTT : Hid (Touch [RB, RB + 1, RB + 1 + 1] w wM) := Lib.hid (HTM.out)
        (try clear HK1); (try clear HK2); (try clear HK3); (try clear HK5); (try clear HK6); (try clear HK7); (try clear HK8); (try clear HE1); (try clear HE2); (try clear HE3); (try clear HE5); (try clear HE6); (try clear HE7); (try clear HE8); (try clear HL1); (try clear HL2); (try clear HL3); (try clear HL5); (try clear HL6); (try clear HL7); (try clear HL8); (try clear HZ1); (try clear HZ2); (try clear HZ3); (try clear HZ5); (try clear HZ6); (try clear HZ7); (try clear HZ8); (try clear HN3); (try clear HN8); (try clear HRX); (try clear HPX); (try clear HCC); (try clear HCH); (try clear HO9); (try clear HD); (try clear HDB); (try clear HBS); (try clear HL); (try clear HOWN); (try clear HV1); (try clear HOW); (try clear HSB); (try clear HPG); (try clear HPM); (try clear hl2); (try clear hs); (try clear h2i); (try clear h2c); (try clear h2d); (try clear hc2); (try clear hcap); (try clear hoL); (try clear hst); (try clear HTX); (try clear HTW); (try clear HB1); (try clear HB0); (try clear HT0); (try clear HBM); (try clear HTM); (try clear hmay); (try clear hown)
        go_wp2_with fail
        have hbF : Blk _ RB #[.slice none 0 0, .slice none 0 0, .slice none 0 0, .int .i64 0, .slice none 0 0, .slice none 0 0, .slice none 0 0, .slice none 0 0, .int .i64 0] 29 := (((((((((zz.set 0 (.slice none 0 0)).set 1 (.slice none 0 0)).set 2 (.slice none 0 0)).set 3 (.int .i64 0)).set 4 (.slice none 0 0)).set 5 (.slice none 0 0)).set 6 (.slice none 0 0)).set 7 (.slice none 0 0)).set 8 (.int .i64 0))
        have htF : Touch [] w _ := Touch.fresh (S := [RB, RB + 1, RB + 1 + 1]) (HTT.out.trans (((((((((((Touch.refl [RB] wM).setCell (p := ⟨RB, 0, none⟩) (by simp) (.slice none 0 0)).setCell (p := ⟨RB, 1, none⟩) (by simp) (.slice none 0 0)).setCell (p := ⟨RB, 2, none⟩) (by simp) (.slice none 0 0)).setCell (p := ⟨RB, 3, none⟩) (by simp) (.int .i64 0)).setCell (p := ⟨RB, 4, none⟩) (by simp) (.slice none 0 0)).setCell (p := ⟨RB, 5, none⟩) (by simp) (.slice none 0 0)).setCell (p := ⟨RB, 6, none⟩) (by simp) (.slice none 0 0)).setCell (p := ⟨RB, 7, none⟩) (by simp) (.slice none 0 0)).setCell (p := ⟨RB, 8, none⟩) (by simp) (.int .i64 0)).mono (by simp))) (fun k hk hlt => by have := HRB.out; simp at hk; omega)
        obtain ⟨W, hW⟩ : ∃ W, (((((((((wM.setCell ⟨RB, 0, none⟩ (.slice none 0 0)).setCell ⟨RB, 1, none⟩ (.slice none 0 0)).setCell ⟨RB, 2, none⟩ (.slice none 0 0)).setCell ⟨RB, 3, none⟩ (.int .i64 0)).setCell ⟨RB, 4, none⟩ (.slice none 0 0)).setCell ⟨RB, 5, none⟩ (.slice none 0 0)).setCell ⟨RB, 6, none⟩ (.slice none 0 0)).setCell ⟨RB, 7, none⟩ (.slice none 0 0)).setCell ⟨RB, 8, none⟩ (.int .i64 0)) = W := ⟨_, rfl⟩
        rw [hW] at hbF htF ⊢
        have HTF := Lib.hid htF
        have q0_ := hbF.cell (i := 0) rfl
        have q1_ := hbF.cell (i := 1) rfl
        have q2_ := hbF.cell (i := 2) rfl
        have q3_ := hbF.cell (i := 3) rfl
        have q4_ := hbF.cell (i := 4) rfl
        have q5_ := hbF.cell (i := 5) rfl
        have q6_ := hbF.cell (i := 6) rfl
        have q7_ := hbF.cell (i := 7) rfl
        have q8_ := hbF.cell (i := 8) rfl
        clear r0_ g0_ r1_ g1_ r2_ g2_ r3_ g3_ r4_ g4_ r5_ g5_ r6_ g6_ r7_ g7_ r8_ g8_ zz hbF htF hW
        (try simp only [Exit.inBlock, Exit.then]); refine bodyPost_ret (by simp [results, Try.results14, go_sem, q0_, q1_, q2_, q3_, q4_, q5_, q6_, q7_, q8_]; try rfl) rfl ?_
        exact ⟨_, 5, rfl, HTF.out, .inr ⟨HNO.out, rfl, zero_pg _⟩⟩
      rw [show decide (MayP (decP D)) = true from decide_eq_true hmay]
      have HOK : Hid (DecOk D) := Lib.hid ⟨HSB.out, by rw [← HO9.out]; exact HL.out.symm, hmay⟩
      clear hmay
      have p0_ := HPM.out.cell (i := 0) rfl
      have p1_ := HPM.out.cell (i := 1) rfl
      have p2_ := HPM.out.cell (i := 2) rfl
      have p3_ := HPM.out.cell (i := 3) rfl
      have p4_ := HPM.out.cell (i := 4) rfl
      have p5_ := HPM.out.cell (i := 5) rfl
      have p6_ := HPM.out.cell (i := 6) rfl
      have p7_ := HPM.out.cell (i := 7) rfl
      have p8_ := HPM.out.cell (i := 8) rfl
      have zz := HBM.out
      have r0_ := zz.cell (i := 0) rfl
      have g0_ := zz.free 0
      have r1_ := zz.cell (i := 1) rfl
      have g1_ := zz.free 1
      have r2_ := zz.cell (i := 2) rfl
      have g2_ := zz.free 2
      have r3_ := zz.cell (i := 3) rfl
      have g3_ := zz.free 3
      have r4_ := zz.cell (i := 4) rfl
      have g4_ := zz.free 4
      have r5_ := zz.cell (i := 5) rfl
      have g5_ := zz.free 5
      have r6_ := zz.cell (i := 6) rfl
      have g6_ := zz.free 6
      have r7_ := zz.cell (i := 7) rfl
      have g7_ := zz.free 7
      have r8_ := zz.cell (i := 8) rfl
      have g8_ := zz.free 8
      go_wp2_with fail
      have hbF : Blk (((((((((wM.setCell ⟨RB, 0, none⟩ (.slice b1 l1 c1)).setCell ⟨RB, 1, none⟩ (.slice b2 l2 c2)).setCell ⟨RB, 2, none⟩ (.slice b3 l3 c3)).setCell ⟨RB, 3, none⟩ (.int .i64 n3)).setCell ⟨RB, 4, none⟩ (.slice b5 l5 c5)).setCell ⟨RB, 5, none⟩ (.slice b6 l6 c6)).setCell ⟨RB, 6, none⟩ (.slice b7 l7 c7)).setCell ⟨RB, 7, none⟩ (.slice b8 l8 c8)).setCell ⟨RB, 8, none⟩ (.int .i64 n8)) RB #[.slice b1 l1 c1, .slice b2 l2 c2, .slice b3 l3 c3, .int .i64 n3, .slice b5 l5 c5, .slice b6 l6 c6, .slice b7 l7 c7, .slice b8 l8 c8, .int .i64 n8] 29 := by have := (((((((((zz.set 0 (.slice b1 l1 c1)).set 1 (.slice b2 l2 c2)).set 2 (.slice b3 l3 c3)).set 3 (.int .i64 n3)).set 4 (.slice b5 l5 c5)).set 5 (.slice b6 l6 c6)).set 6 (.slice b7 l7 c7)).set 7 (.slice b8 l8 c8)).set 8 (.int .i64 n8)); simpa using this
      have ttF : Touch [RB] wM _ := ((((((((((Touch.refl [RB] wM).setCell (p := ⟨RB, 0, none⟩) (by simp) (.slice b1 l1 c1)).setCell (p := ⟨RB, 1, none⟩) (by simp) (.slice b2 l2 c2)).setCell (p := ⟨RB, 2, none⟩) (by simp) (.slice b3 l3 c3)).setCell (p := ⟨RB, 3, none⟩) (by simp) (.int .i64 n3)).setCell (p := ⟨RB, 4, none⟩) (by simp) (.slice b5 l5 c5)).setCell (p := ⟨RB, 5, none⟩) (by simp) (.slice b6 l6 c6)).setCell (p := ⟨RB, 6, none⟩) (by simp) (.slice b7 l7 c7)).setCell (p := ⟨RB, 7, none⟩) (by simp) (.slice b8 l8 c8)).setCell (p := ⟨RB, 8, none⟩) (by simp) (.int .i64 n8))
      have htF : Touch [] w _ := Touch.fresh (S := [RB, RB + 1, RB + 1 + 1]) (HTM.out.trans (ttF.mono (by simp))) (fun k hk hlt => by have := HRB.out; simp at hk; omega)
      obtain ⟨W, hW⟩ : ∃ W, (((((((((wM.setCell ⟨RB, 0, none⟩ (.slice b1 l1 c1)).setCell ⟨RB, 1, none⟩ (.slice b2 l2 c2)).setCell ⟨RB, 2, none⟩ (.slice b3 l3 c3)).setCell ⟨RB, 3, none⟩ (.int .i64 n3)).setCell ⟨RB, 4, none⟩ (.slice b5 l5 c5)).setCell ⟨RB, 5, none⟩ (.slice b6 l6 c6)).setCell ⟨RB, 6, none⟩ (.slice b7 l7 c7)).setCell ⟨RB, 7, none⟩ (.slice b8 l8 c8)).setCell ⟨RB, 8, none⟩ (.int .i64 n8)) = W := ⟨_, rfl⟩
      rw [hW] at hbF htF ttF ⊢
      have HTF := Lib.hid htF
      replace HK1 := Lib.hid (HK1.out.touch ttF (fun k hk => by have := (HK1.out.own k hk).1; have := HZ1.out; simp; omega))
      replace HK2 := Lib.hid (HK2.out.touch ttF (fun k hk => by have := (HK2.out.own k hk).1; have := HZ2.out; simp; omega))
      replace HK3 := Lib.hid (HK3.out.touch ttF (fun k hk => by have := (HK3.out.own k hk).1; have := HZ3.out; simp; omega))
      replace HK5 := Lib.hid (Qu.touch HK5.out ttF (fun k hk => by have := (Qu.own HK5.out k hk).1; have := HZ5.out; simp; omega))
      replace HK6 := Lib.hid (Qu.touch HK6.out ttF (fun k hk => by have := (Qu.own HK6.out k hk).1; have := HZ6.out; simp; omega))
      replace HK7 := Lib.hid (HK7.out.touch ttF (fun k hk => by have := HZ7.out; simp only [List.mem_singleton] at hk; omega))
      replace HK8 := Lib.hid (HK8.out.touch ttF (fun k hk => by have := (HK8.out.own k hk).1; have := HZ8.out; simp; omega))
      have hpg := pg_of HCH.out HK1.out HK2.out HK3.out HK5.out HK6.out HK7.out HK8.out HE1.out HE2.out HE3.out HE5.out HE6.out HE7.out HE8.out
      rw [HN3.out, HN8.out] at hpg
      have HPG := Lib.hid hpg
      have q0_ := hbF.cell (i := 0) rfl
      have q1_ := hbF.cell (i := 1) rfl
      have q2_ := hbF.cell (i := 2) rfl
      have q3_ := hbF.cell (i := 3) rfl
      have q4_ := hbF.cell (i := 4) rfl
      have q5_ := hbF.cell (i := 5) rfl
      have q6_ := hbF.cell (i := 6) rfl
      have q7_ := hbF.cell (i := 7) rfl
      have q8_ := hbF.cell (i := 8) rfl
      clear r0_ g0_ p0_ r1_ g1_ p1_ r2_ g2_ p2_ r3_ g3_ p3_ r4_ g4_ p4_ r5_ g5_ p5_ r6_ g6_ p6_ r7_ g7_ p7_ r8_ g8_ p8_ zz hbF htF hW hpg ttF
      (try simp only [Exit.inBlock, Exit.then]); refine bodyPost_ret (by simp [results, Try.results14, go_sem, q0_, q1_, q2_, q3_, q4_, q5_, q6_, q7_, q8_]; try rfl) rfl ?_
      exact ⟨_, 0, rfl, HTF.out, .inl ⟨HOK.out, rfl, HPG.out⟩⟩
  have hv2 : Bs w1 (.slice (a.map (fun x => (⟨x.block, x.off + 2, none⟩ : Addr))) (L - 2) (c - 2)) (D.drop 2) := by have := HV1.out.cut (k := 2) (by rw [HL.out]; omega); rw [if_neg hc2] at this; exact (show (a.map (·.add 2)) = a.map (fun x => (⟨x.block, x.off + 2, none⟩ : Addr)) from by cases a <;> rfl) ▸ this
  have ho2 : ∀ k, (Value.slice (a.map (fun x => (⟨x.block, x.off + 2, none⟩ : Addr))) (L - 2) (c - 2)).ownBlock = some k → k < RB + 1 := fun k hk => by have : (Value.slice a L c).ownBlock = some k := (by cases a <;> exact hk); have := HOW.out k this; have := HRB.out; omega
  have hb : Blk (w1.alloc (.cells #[.slice (a.map (fun x => (⟨x.block, x.off + 2, none⟩ : Addr))) (L - 2) (c - 2), .int .i64 0, .bool false] 70)) (RB + 1) #[.slice (a.map (fun x => (⟨x.block, x.off + 2, none⟩ : Addr))) (L - 2) (c - 2), .int .i64 0, .bool false] 70 := Blk.new hs1.symm
  have tb : Touch [] w1 (w1.alloc (.cells #[.slice (a.map (fun x => (⟨x.block, x.off + 2, none⟩ : Addr))) (L - 2) (c - 2), .int .i64 0, .bool false] 70)) := (Touch.refl [] w1).alloc _
  have hs2 : (w1.alloc (.cells #[.slice (a.map (fun x => (⟨x.block, x.off + 2, none⟩ : Addr))) (L - 2) (c - 2), .int .i64 0, .bool false] 70)).heap.size = RB + 1 + 1 := by simp [hs1]
  have hp : Blk ((w1.alloc (.cells #[.slice (a.map (fun x => (⟨x.block, x.off + 2, none⟩ : Addr))) (L - 2) (c - 2), .int .i64 0, .bool false] 70)).alloc (.cells #[.slice none 0 0, .slice none 0 0, .slice none 0 0, .int .i64 0, .slice none 0 0, .slice none 0 0, .slice none 0 0, .slice none 0 0, .int .i64 0] 29)) (RB + 1 + 1) #[.slice none 0 0, .slice none 0 0, .slice none 0 0, .int .i64 0, .slice none 0 0, .slice none 0 0, .slice none 0 0, .slice none 0 0, .int .i64 0] 29 := Blk.new hs2.symm
  have tp : Touch [] (w1.alloc (.cells #[.slice (a.map (fun x => (⟨x.block, x.off + 2, none⟩ : Addr))) (L - 2) (c - 2), .int .i64 0, .bool false] 70)) ((w1.alloc (.cells #[.slice (a.map (fun x => (⟨x.block, x.off + 2, none⟩ : Addr))) (L - 2) (c - 2), .int .i64 0, .bool false] 70)).alloc (.cells #[.slice none 0 0, .slice none 0 0, .slice none 0 0, .int .i64 0, .slice none 0 0, .slice none 0 0, .slice none 0 0, .slice none 0 0, .int .i64 0] 29)) := (Touch.refl [] _).alloc _
  have HRX : Hid (Rd D 0 ((w1.alloc (.cells #[.slice (a.map (fun x => (⟨x.block, x.off + 2, none⟩ : Addr))) (L - 2) (c - 2), .int .i64 0, .bool false] 70)).alloc (.cells #[.slice none 0 0, .slice none 0 0, .slice none 0 0, .int .i64 0, .slice none 0 0, .slice none 0 0, .slice none 0 0, .slice none 0 0, .int .i64 0] 29)) (RB + 1) (some 2)) := Lib.hid ⟨by have := HL.out; omega, _, hb.touch tp (by simp), (hv2.touch tb (by simp)).touch tp (by simp), ho2⟩
  have HPX := Lib.hid hp
  have HB1 := Lib.hid ((HB0.out.touch tb (by simp)).touch tp (by simp))
  have HTX : Hid (Touch [RB + 1, RB + 1 + 1] ((w1.alloc (.cells #[.slice (a.map (fun x => (⟨x.block, x.off + 2, none⟩ : Addr))) (L - 2) (c - 2), .int .i64 0, .bool false] 70)).alloc (.cells #[.slice none 0 0, .slice none 0 0, .slice none 0 0, .int .i64 0, .slice none 0 0, .slice none 0 0, .slice none 0 0, .slice none 0 0, .int .i64 0] 29)) ((w1.alloc (.cells #[.slice (a.map (fun x => (⟨x.block, x.off + 2, none⟩ : Addr))) (L - 2) (c - 2), .int .i64 0, .bool false] 70)).alloc (.cells #[.slice none 0 0, .slice none 0 0, .slice none 0 0, .int .i64 0, .slice none 0 0, .slice none 0 0, .slice none 0 0, .slice none 0 0, .int .i64 0] 29))) := Lib.hid (Touch.refl _ _)
  have HTW : Hid (Touch [] w ((w1.alloc (.cells #[.slice (a.map (fun x => (⟨x.block, x.off + 2, none⟩ : Addr))) (L - 2) (c - 2), .int .i64 0, .bool false] 70)).alloc (.cells #[.slice none 0 0, .slice none 0 0, .slice none 0 0, .int .i64 0, .slice none 0 0, .slice none 0 0, .slice none 0 0, .slice none 0 0, .int .i64 0] 29))) := Lib.hid ((HT0.out.trans tb).trans tp)
  clear hb tb hp tp hv2 ho2
  go_enter Try.func14, Try.ntmps14
  go_wp2_with fail
  clear hs hs1 hs2 h2i h2c h2d hw1
  obtain ⟨wA, hwA⟩ : ∃ x, (w1.alloc (.cells #[.slice (a.map (fun x => (⟨x.block, x.off + 2, none⟩ : Addr))) (L - 2) (c - 2), .int .i64 0, .bool false] 70)).alloc (.cells #[.slice none 0 0, .slice none 0 0, .slice none 0 0, .int .i64 0, .slice none 0 0, .slice none 0 0, .slice none 0 0, .slice none 0 0, .int .i64 0] 29) = x := ⟨_, rfl⟩
  rw [hwA] at HRX HPX HB1 HTX HTW ⊢
  clear hwA
  refine (rlist_instr D 0 (RB + 1) 5000 (some 2) _ HRX.out (by omega) HD.out HDB.out).mono ?_
  rintro e wE0 ⟨v1, l1, rfl, hA, hl1, hR, ht, he1⟩
  have HZ1 : Hid (RB + 1 + 1 < (wA).heap.size) := Lib.hid HPX.out.lt
  replace HRX := Lib.hid hR
  have hpx := HPX.out.touch ht (by simp)
  replace HPX := Lib.hid hpx
  replace HTX := Lib.hid (HTX.out.trans (ht.mono (by simp) : Touch [RB + 1, RB + 1 + 1] _ _))
  have HK1 := Lib.hid hA
  have HE1 := Lib.hid he1
  have HL1 := Lib.hid hl1
  obtain ⟨b1, c1, rfl, _⟩ := hA.form
  clear hA he1 hl1
  clear hR ht
  have p_ := hpx.cell (i := 0) rfl
  have f_ := hpx.free 0
  have tt : Touch [RB + 1 + 1] wE0 (wE0.setCell ⟨RB + 1 + 1, 0, none⟩ (.slice b1 l1 c1)) := (Touch.refl [RB + 1 + 1] wE0).setCell (by simp) _
  have HRY := Lib.hid (HRX.out.grown tt (by simp))
  have HPY : Hid (Blk (wE0.setCell ⟨RB + 1 + 1, 0, none⟩ (.slice b1 l1 c1)) (RB + 1 + 1) #[.slice b1 l1 c1, .slice none 0 0, .slice none 0 0, .int .i64 0, .slice none 0 0, .slice none 0 0, .slice none 0 0, .slice none 0 0, .int .i64 0] 29) := Lib.hid (by have := hpx.set 0 (.slice b1 l1 c1); simpa using this)
  have HTY := Lib.hid (HTX.out.trans (tt.mono (by simp) : Touch [RB + 1, RB + 1 + 1] _ _))
  clear hpx HRX HPX HTX
  replace HK1 := Lib.hid (HK1.out.touch tt (fun k hk => by have := (HK1.out.own k hk).1; have := HZ1.out; simp; omega))
  clear tt
  have HRX := HRY
  have HPX := HPY
  have HTX := HTY
  clear HRY HPY HTY
  go_wp2_with fail
  clear p_ f_
  refine (rlist_entry D 0 (RB + 1) 13 (s1_ D) _ HRX.out (by omega) HD.out HDB.out).mono ?_
  rintro e wE1 ⟨v2, l2, rfl, hA, hl2, hR, ht, he2⟩
  have HZ2 : Hid (RB + 1 + 1 < ((wE0.setCell ⟨RB + 1 + 1, 0, none⟩ (.slice b1 l1 c1))).heap.size) := Lib.hid HPX.out.lt
  replace HRX := Lib.hid hR
  have hpx := HPX.out.touch ht (by simp)
  replace HPX := Lib.hid hpx
  replace HTX := Lib.hid (HTX.out.trans (ht.mono (by simp) : Touch [RB + 1, RB + 1 + 1] _ _))
  replace HK1 := Lib.hid (HK1.out.touch ht (fun k hk => by have := (HK1.out.own k hk).1; have := HZ1.out; simp; omega))
  have HK2 := Lib.hid hA
  have HE2 := Lib.hid he2
  have HL2 := Lib.hid hl2
  obtain ⟨b2, c2, rfl, _⟩ := hA.form
  clear hA he2 hl2
  clear hR ht
  have p_ := hpx.cell (i := 1) rfl
  have f_ := hpx.free 1
  have tt : Touch [RB + 1 + 1] wE1 (wE1.setCell ⟨RB + 1 + 1, 1, none⟩ (.slice b2 l2 c2)) := (Touch.refl [RB + 1 + 1] wE1).setCell (by simp) _
  have HRY := Lib.hid (HRX.out.grown tt (by simp))
  have HPY : Hid (Blk (wE1.setCell ⟨RB + 1 + 1, 1, none⟩ (.slice b2 l2 c2)) (RB + 1 + 1) #[.slice b1 l1 c1, .slice b2 l2 c2, .slice none 0 0, .int .i64 0, .slice none 0 0, .slice none 0 0, .slice none 0 0, .slice none 0 0, .int .i64 0] 29) := Lib.hid (by have := hpx.set 1 (.slice b2 l2 c2); simpa using this)
  have HTY := Lib.hid (HTX.out.trans (tt.mono (by simp) : Touch [RB + 1, RB + 1 + 1] _ _))
  clear hpx HRX HPX HTX
  replace HK1 := Lib.hid (HK1.out.touch tt (fun k hk => by have := (HK1.out.own k hk).1; have := HZ1.out; simp; omega))
  replace HK2 := Lib.hid (HK2.out.touch tt (fun k hk => by have := (HK2.out.own k hk).1; have := HZ2.out; simp; omega))
  clear tt
  have HRX := HRY
  have HPX := HPY
  have HTX := HTY
  clear HRY HPY HTY
  go_wp2_with fail
  clear p_ f_
  refine (rlist_cell D 0 (RB + 1) 16 (s2_ D) _ HRX.out (by omega) HD.out HDB.out).mono ?_
  rintro e wE2 ⟨v3, l3, rfl, hA, hl3, hR, ht, he3⟩
  have HZ3 : Hid (RB + 1 + 1 < ((wE1.setCell ⟨RB + 1 + 1, 1, none⟩ (.slice b2 l2 c2))).heap.size) := Lib.hid HPX.out.lt
  replace HRX := Lib.hid hR
  have hpx := HPX.out.touch ht (by simp)
  replace HPX := Lib.hid hpx
  replace HTX := Lib.hid (HTX.out.trans (ht.mono (by simp) : Touch [RB + 1, RB + 1 + 1] _ _))
  replace HK1 := Lib.hid (HK1.out.touch ht (fun k hk => by have := (HK1.out.own k hk).1; have := HZ1.out; simp; omega))
  replace HK2 := Lib.hid (HK2.out.touch ht (fun k hk => by have := (HK2.out.own k hk).1; have := HZ2.out; simp; omega))
  have HK3 := Lib.hid hA
  have HE3 := Lib.hid he3
  have HL3 := Lib.hid hl3
  obtain ⟨b3, c3, rfl, _⟩ := hA.form
  clear hA he3 hl3
  clear hR ht
  have p_ := hpx.cell (i := 2) rfl
  have f_ := hpx.free 2
  have tt : Touch [RB + 1 + 1] wE2 (wE2.setCell ⟨RB + 1 + 1, 2, none⟩ (.slice b3 l3 c3)) := (Touch.refl [RB + 1 + 1] wE2).setCell (by simp) _
  have HRY := Lib.hid (HRX.out.grown tt (by simp))
  have HPY : Hid (Blk (wE2.setCell ⟨RB + 1 + 1, 2, none⟩ (.slice b3 l3 c3)) (RB + 1 + 1) #[.slice b1 l1 c1, .slice b2 l2 c2, .slice b3 l3 c3, .int .i64 0, .slice none 0 0, .slice none 0 0, .slice none 0 0, .slice none 0 0, .int .i64 0] 29) := Lib.hid (by have := hpx.set 2 (.slice b3 l3 c3); simpa using this)
  have HTY := Lib.hid (HTX.out.trans (tt.mono (by simp) : Touch [RB + 1, RB + 1 + 1] _ _))
  clear hpx HRX HPX HTX
  replace HK1 := Lib.hid (HK1.out.touch tt (fun k hk => by have := (HK1.out.own k hk).1; have := HZ1.out; simp; omega))
  replace HK2 := Lib.hid (HK2.out.touch tt (fun k hk => by have := (HK2.out.own k hk).1; have := HZ2.out; simp; omega))
  replace HK3 := Lib.hid (HK3.out.touch tt (fun k hk => by have := (HK3.out.own k hk).1; have := HZ3.out; simp; omega))
  clear tt
  have HRX := HRY
  have HPX := HPY
  have HTX := HTY
  clear HRY HPY HTY
  go_wp2_with fail
  clear p_ f_
  refine (num_any D 0 (RB + 1) (s3_ D) _ HRX.out HD.out HDB.out).mono ?_
  rintro e wE3 ⟨rfl, hR, ht⟩
  replace HRX := Lib.hid hR
  have hpx := HPX.out.touch ht (by simp)
  replace HPX := Lib.hid hpx
  replace HTX := Lib.hid (HTX.out.trans (ht.mono (by simp) : Touch [RB + 1, RB + 1 + 1] _ _))
  replace HK1 := Lib.hid (HK1.out.touch ht (fun k hk => by have := (HK1.out.own k hk).1; have := HZ1.out; simp; omega))
  replace HK2 := Lib.hid (HK2.out.touch ht (fun k hk => by have := (HK2.out.own k hk).1; have := HZ2.out; simp; omega))
  replace HK3 := Lib.hid (HK3.out.touch ht (fun k hk => by have := (HK3.out.own k hk).1; have := HZ3.out; simp; omega))
  obtain ⟨n3, hn3⟩ : ∃ x, nv D (s3_ D) = x := ⟨_, rfl⟩
  rw [hn3]
  have HN3 := Lib.hid hn3
  clear hn3
  clear hR ht
  have p_ := hpx.cell (i := 3) rfl
  have f_ := hpx.free 3
  have tt : Touch [RB + 1 + 1] wE3 (wE3.setCell ⟨RB + 1 + 1, 3, none⟩ (.int .i64 n3)) := (Touch.refl [RB + 1 + 1] wE3).setCell (by simp) _
  have HRY := Lib.hid (HRX.out.grown tt (by simp))
  have HPY : Hid (Blk (wE3.setCell ⟨RB + 1 + 1, 3, none⟩ (.int .i64 n3)) (RB + 1 + 1) #[.slice b1 l1 c1, .slice b2 l2 c2, .slice b3 l3 c3, .int .i64 n3, .slice none 0 0, .slice none 0 0, .slice none 0 0, .slice none 0 0, .int .i64 0] 29) := Lib.hid (by have := hpx.set 3 (.int .i64 n3); simpa using this)
  have HTY := Lib.hid (HTX.out.trans (tt.mono (by simp) : Touch [RB + 1, RB + 1 + 1] _ _))
  clear hpx HRX HPX HTX
  replace HK1 := Lib.hid (HK1.out.touch tt (fun k hk => by have := (HK1.out.own k hk).1; have := HZ1.out; simp; omega))
  replace HK2 := Lib.hid (HK2.out.touch tt (fun k hk => by have := (HK2.out.own k hk).1; have := HZ2.out; simp; omega))
  replace HK3 := Lib.hid (HK3.out.touch tt (fun k hk => by have := (HK3.out.own k hk).1; have := HZ3.out; simp; omega))
  clear tt
  have HRX := HRY
  have HPX := HPY
  have HTX := HTY
  clear HRY HPY HTY
  go_wp2_with fail
  clear p_ f_
  refine (rlist_int D 0 (RB + 1) 8 (s4_ D) _ HRX.out (by omega) HD.out HDB.out).mono ?_
  rintro e wE4 ⟨v5, l5, rfl, hA, hl5, hR, ht, he5⟩
  have HZ5 : Hid (RB + 1 + 1 < ((wE3.setCell ⟨RB + 1 + 1, 3, none⟩ (.int .i64 n3))).heap.size) := Lib.hid HPX.out.lt
  replace HRX := Lib.hid hR
  have hpx := HPX.out.touch ht (by simp)
  replace HPX := Lib.hid hpx
  replace HTX := Lib.hid (HTX.out.trans (ht.mono (by simp) : Touch [RB + 1, RB + 1 + 1] _ _))
  replace HK1 := Lib.hid (HK1.out.touch ht (fun k hk => by have := (HK1.out.own k hk).1; have := HZ1.out; simp; omega))
  replace HK2 := Lib.hid (HK2.out.touch ht (fun k hk => by have := (HK2.out.own k hk).1; have := HZ2.out; simp; omega))
  replace HK3 := Lib.hid (HK3.out.touch ht (fun k hk => by have := (HK3.out.own k hk).1; have := HZ3.out; simp; omega))
  have HK5 := Lib.hid hA
  have HE5 := Lib.hid he5
  have HL5 := Lib.hid hl5
  obtain ⟨b5, c5, hform, _⟩ := Qu.shape hA
  rw [List.length_map, nums_len] at hform
  subst hform
  clear hA he5 hl5
  clear hR ht
  have p_ := hpx.cell (i := 4) rfl
  have f_ := hpx.free 4
  have tt : Touch [RB + 1 + 1] wE4 (wE4.setCell ⟨RB + 1 + 1, 4, none⟩ (.slice b5 l5 c5)) := (Touch.refl [RB + 1 + 1] wE4).setCell (by simp) _
  have HRY := Lib.hid (HRX.out.grown tt (by simp))
  have HPY : Hid (Blk (wE4.setCell ⟨RB + 1 + 1, 4, none⟩ (.slice b5 l5 c5)) (RB + 1 + 1) #[.slice b1 l1 c1, .slice b2 l2 c2, .slice b3 l3 c3, .int .i64 n3, .slice b5 l5 c5, .slice none 0 0, .slice none 0 0, .slice none 0 0, .int .i64 0] 29) := Lib.hid (by have := hpx.set 4 (.slice b5 l5 c5); simpa using this)
  have HTY := Lib.hid (HTX.out.trans (tt.mono (by simp) : Touch [RB + 1, RB + 1 + 1] _ _))
  clear hpx HRX HPX HTX
  replace HK1 := Lib.hid (HK1.out.touch tt (fun k hk => by have := (HK1.out.own k hk).1; have := HZ1.out; simp; omega))
  replace HK2 := Lib.hid (HK2.out.touch tt (fun k hk => by have := (HK2.out.own k hk).1; have := HZ2.out; simp; omega))
  replace HK3 := Lib.hid (HK3.out.touch tt (fun k hk => by have := (HK3.out.own k hk).1; have := HZ3.out; simp; omega))
  replace HK5 := Lib.hid (Qu.touch HK5.out tt (fun k hk => by have := (Qu.own HK5.out k hk).1; have := HZ5.out; simp; omega))
  clear tt
  have HRX := HRY
  have HPX := HPY
  have HTX := HTY
  clear HRY HPY HTY
  go_wp2_with fail
  clear p_ f_
  refine (rlist_int D 0 (RB + 1) 6 (s5_ D) _ HRX.out (by omega) HD.out HDB.out).mono ?_
  rintro e wE5 ⟨v6, l6, rfl, hA, hl6, hR, ht, he6⟩
  have HZ6 : Hid (RB + 1 + 1 < ((wE4.setCell ⟨RB + 1 + 1, 4, none⟩ (.slice b5 l5 c5))).heap.size) := Lib.hid HPX.out.lt
  replace HRX := Lib.hid hR
  have hpx := HPX.out.touch ht (by simp)
  replace HPX := Lib.hid hpx
  replace HTX := Lib.hid (HTX.out.trans (ht.mono (by simp) : Touch [RB + 1, RB + 1 + 1] _ _))
  replace HK1 := Lib.hid (HK1.out.touch ht (fun k hk => by have := (HK1.out.own k hk).1; have := HZ1.out; simp; omega))
  replace HK2 := Lib.hid (HK2.out.touch ht (fun k hk => by have := (HK2.out.own k hk).1; have := HZ2.out; simp; omega))
  replace HK3 := Lib.hid (HK3.out.touch ht (fun k hk => by have := (HK3.out.own k hk).1; have := HZ3.out; simp; omega))
  replace HK5 := Lib.hid (Qu.touch HK5.out ht (fun k hk => by have := (Qu.own HK5.out k hk).1; have := HZ5.out; simp; omega))
  have HK6 := Lib.hid hA
  have HE6 := Lib.hid he6
  have HL6 := Lib.hid hl6
  obtain ⟨b6, c6, hform, _⟩ := Qu.shape hA
  rw [List.length_map, nums_len] at hform
  subst hform
  clear hA he6 hl6
  clear hR ht
  have p_ := hpx.cell (i := 5) rfl
  have f_ := hpx.free 5
  have tt : Touch [RB + 1 + 1] wE5 (wE5.setCell ⟨RB + 1 + 1, 5, none⟩ (.slice b6 l6 c6)) := (Touch.refl [RB + 1 + 1] wE5).setCell (by simp) _
  have HRY := Lib.hid (HRX.out.grown tt (by simp))
  have HPY : Hid (Blk (wE5.setCell ⟨RB + 1 + 1, 5, none⟩ (.slice b6 l6 c6)) (RB + 1 + 1) #[.slice b1 l1 c1, .slice b2 l2 c2, .slice b3 l3 c3, .int .i64 n3, .slice b5 l5 c5, .slice b6 l6 c6, .slice none 0 0, .slice none 0 0, .int .i64 0] 29) := Lib.hid (by have := hpx.set 5 (.slice b6 l6 c6); simpa using this)
  have HTY := Lib.hid (HTX.out.trans (tt.mono (by simp) : Touch [RB + 1, RB + 1 + 1] _ _))
  clear hpx HRX HPX HTX
  replace HK1 := Lib.hid (HK1.out.touch tt (fun k hk => by have := (HK1.out.own k hk).1; have := HZ1.out; simp; omega))
  replace HK2 := Lib.hid (HK2.out.touch tt (fun k hk => by have := (HK2.out.own k hk).1; have := HZ2.out; simp; omega))
  replace HK3 := Lib.hid (HK3.out.touch tt (fun k hk => by have := (HK3.out.own k hk).1; have := HZ3.out; simp; omega))
  replace HK5 := Lib.hid (Qu.touch HK5.out tt (fun k hk => by have := (Qu.own HK5.out k hk).1; have := HZ5.out; simp; omega))
  replace HK6 := Lib.hid (Qu.touch HK6.out tt (fun k hk => by have := (Qu.own HK6.out k hk).1; have := HZ6.out; simp; omega))
  clear tt
  have p2_ := HPY.out.cell (i := 5) rfl
  have r2_ := HRY.out.class
  have g2_ := HRY.out.free 1
  have tt : Touch [RB + 1] (wE5.setCell ⟨RB + 1 + 1, 5, none⟩ (.slice b6 l6 c6)) ((wE5.setCell ⟨RB + 1 + 1, 5, none⟩ (.slice b6 l6 c6)).setCell ⟨RB + 1, 1, none⟩ (.int .i64 (l6 : Int))) := (Touch.refl [RB + 1] _).setCell (by simp) _
  replace HRY : Hid (Rd D l6 ((wE5.setCell ⟨RB + 1 + 1, 5, none⟩ (.slice b6 l6 c6)).setCell ⟨RB + 1, 1, none⟩ (.int .i64 (l6 : Int))) (RB + 1) (s6_ D)) := Lib.hid (HRY.out.setcl l6)
  replace HPY := Lib.hid (HPY.out.touch tt (by simp))
  replace HTY := Lib.hid (HTY.out.trans (tt.mono (by simp) : Touch [RB + 1, RB + 1 + 1] _ _))
  replace HK1 := Lib.hid (HK1.out.touch tt (fun k hk => by have := (HK1.out.own k hk).1; have := HZ1.out; simp; omega))
  replace HK2 := Lib.hid (HK2.out.touch tt (fun k hk => by have := (HK2.out.own k hk).1; have := HZ2.out; simp; omega))
  replace HK3 := Lib.hid (HK3.out.touch tt (fun k hk => by have := (HK3.out.own k hk).1; have := HZ3.out; simp; omega))
  replace HK5 := Lib.hid (Qu.touch HK5.out tt (fun k hk => by have := (Qu.own HK5.out k hk).1; have := HZ5.out; simp; omega))
  replace HK6 := Lib.hid (Qu.touch HK6.out tt (fun k hk => by have := (Qu.own HK6.out k hk).1; have := HZ6.out; simp; omega))
  clear tt
  have HRX := HRY
  have HPX := HPY
  have HTX := HTY
  clear HRY HPY HTY
  go_wp2_with fail
  clear p_ f_
  clear p2_ r2_ g2_
  refine (rlist_rows D l6 (RB + 1) 1000 (s6_ D) _ HRX.out (by omega) (by have := HL6.out; omega) HD.out HDB.out).mono ?_
  rintro e wE6 ⟨v7, l7, rfl, hA, hl7, hR, ht, he7⟩
  have HZ7 : Hid (RB + 1 + 1 < (((wE5.setCell ⟨RB + 1 + 1, 5, none⟩ (.slice b6 l6 c6)).setCell ⟨RB + 1, 1, none⟩ (.int .i64 (l6 : Int)))).heap.size) := Lib.hid HPX.out.lt
  replace HRX := Lib.hid hR
  have hpx := HPX.out.touch ht (by simp)
  replace HPX := Lib.hid hpx
  replace HTX := Lib.hid (HTX.out.trans (ht.mono (by simp) : Touch [RB + 1, RB + 1 + 1] _ _))
  replace HK1 := Lib.hid (HK1.out.touch ht (fun k hk => by have := (HK1.out.own k hk).1; have := HZ1.out; simp; omega))
  replace HK2 := Lib.hid (HK2.out.touch ht (fun k hk => by have := (HK2.out.own k hk).1; have := HZ2.out; simp; omega))
  replace HK3 := Lib.hid (HK3.out.touch ht (fun k hk => by have := (HK3.out.own k hk).1; have := HZ3.out; simp; omega))
  replace HK5 := Lib.hid (Qu.touch HK5.out ht (fun k hk => by have := (Qu.own HK5.out k hk).1; have := HZ5.out; simp; omega))
  replace HK6 := Lib.hid (Qu.touch HK6.out ht (fun k hk => by have := (Qu.own HK6.out k hk).1; have := HZ6.out; simp; omega))
  have HK7 := Lib.hid hA
  have HE7 := Lib.hid he7
  have HL7 := Lib.hid hl7
  obtain ⟨b7, c7, hform⟩ := hA.rws.form
  rw [rows_len] at hform
  subst hform
  clear hA he7 hl7
  clear hR ht
  have p_ := hpx.cell (i := 6) rfl
  have f_ := hpx.free 6
  have tt : Touch [RB + 1 + 1] wE6 (wE6.setCell ⟨RB + 1 + 1, 6, none⟩ (.slice b7 l7 c7)) := (Touch.refl [RB + 1 + 1] wE6).setCell (by simp) _
  have HRY := Lib.hid (HRX.out.grown tt (by simp))
  have HPY : Hid (Blk (wE6.setCell ⟨RB + 1 + 1, 6, none⟩ (.slice b7 l7 c7)) (RB + 1 + 1) #[.slice b1 l1 c1, .slice b2 l2 c2, .slice b3 l3 c3, .int .i64 n3, .slice b5 l5 c5, .slice b6 l6 c6, .slice b7 l7 c7, .slice none 0 0, .int .i64 0] 29) := Lib.hid (by have := hpx.set 6 (.slice b7 l7 c7); simpa using this)
  have HTY := Lib.hid (HTX.out.trans (tt.mono (by simp) : Touch [RB + 1, RB + 1 + 1] _ _))
  clear hpx HRX HPX HTX
  replace HK1 := Lib.hid (HK1.out.touch tt (fun k hk => by have := (HK1.out.own k hk).1; have := HZ1.out; simp; omega))
  replace HK2 := Lib.hid (HK2.out.touch tt (fun k hk => by have := (HK2.out.own k hk).1; have := HZ2.out; simp; omega))
  replace HK3 := Lib.hid (HK3.out.touch tt (fun k hk => by have := (HK3.out.own k hk).1; have := HZ3.out; simp; omega))
  replace HK5 := Lib.hid (Qu.touch HK5.out tt (fun k hk => by have := (Qu.own HK5.out k hk).1; have := HZ5.out; simp; omega))
  replace HK6 := Lib.hid (Qu.touch HK6.out tt (fun k hk => by have := (Qu.own HK6.out k hk).1; have := HZ6.out; simp; omega))
  replace HK7 := Lib.hid (HK7.out.touch tt (fun k hk => by have := HZ7.out; simp only [List.mem_singleton] at hk; omega))
  clear tt
  have HRX := HRY
  have HPX := HPY
  have HTX := HTY
  clear HRY HPY HTY
  go_wp2_with fail
  clear p_ f_
  refine (rlist_spawn D l6 (RB + 1) 1000 (s7_ D l6) _ HRX.out (by omega) HD.out HDB.out).mono ?_
  rintro e wE7 ⟨v8, l8, rfl, hA, hl8, hR, ht, he8⟩
  have HZ8 : Hid (RB + 1 + 1 < ((wE6.setCell ⟨RB + 1 + 1, 6, none⟩ (.slice b7 l7 c7))).heap.size) := Lib.hid HPX.out.lt
  replace HRX := Lib.hid hR
  have hpx := HPX.out.touch ht (by simp)
  replace HPX := Lib.hid hpx
  replace HTX := Lib.hid (HTX.out.trans (ht.mono (by simp) : Touch [RB + 1, RB + 1 + 1] _ _))
  replace HK1 := Lib.hid (HK1.out.touch ht (fun k hk => by have := (HK1.out.own k hk).1; have := HZ1.out; simp; omega))
  replace HK2 := Lib.hid (HK2.out.touch ht (fun k hk => by have := (HK2.out.own k hk).1; have := HZ2.out; simp; omega))
  replace HK3 := Lib.hid (HK3.out.touch ht (fun k hk => by have := (HK3.out.own k hk).1; have := HZ3.out; simp; omega))
  replace HK5 := Lib.hid (Qu.touch HK5.out ht (fun k hk => by have := (Qu.own HK5.out k hk).1; have := HZ5.out; simp; omega))
  replace HK6 := Lib.hid (Qu.touch HK6.out ht (fun k hk => by have := (Qu.own HK6.out k hk).1; have := HZ6.out; simp; omega))
  replace HK7 := Lib.hid (HK7.out.touch ht (fun k hk => by have := HZ7.out; simp only [List.mem_singleton] at hk; omega))
  have HK8 := Lib.hid hA
  have HE8 := Lib.hid he8
  have HL8 := Lib.hid hl8
  obtain ⟨b8, c8, rfl, _⟩ := hA.form
  clear hA he8 hl8
  clear hR ht
  have p_ := hpx.cell (i := 7) rfl
  have f_ := hpx.free 7
  have tt : Touch [RB + 1 + 1] wE7 (wE7.setCell ⟨RB + 1 + 1, 7, none⟩ (.slice b8 l8 c8)) := (Touch.refl [RB + 1 + 1] wE7).setCell (by simp) _
  have HRY := Lib.hid (HRX.out.grown tt (by simp))
  have HPY : Hid (Blk (wE7.setCell ⟨RB + 1 + 1, 7, none⟩ (.slice b8 l8 c8)) (RB + 1 + 1) #[.slice b1 l1 c1, .slice b2 l2 c2, .slice b3 l3 c3, .int .i64 n3, .slice b5 l5 c5, .slice b6 l6 c6, .slice b7 l7 c7, .slice b8 l8 c8, .int .i64 0] 29) := Lib.hid (by have := hpx.set 7 (.slice b8 l8 c8); simpa using this)
  have HTY := Lib.hid (HTX.out.trans (tt.mono (by simp) : Touch [RB + 1, RB + 1 + 1] _ _))
  clear hpx HRX HPX HTX
  replace HK1 := Lib.hid (HK1.out.touch tt (fun k hk => by have := (HK1.out.own k hk).1; have := HZ1.out; simp; omega))
  replace HK2 := Lib.hid (HK2.out.touch tt (fun k hk => by have := (HK2.out.own k hk).1; have := HZ2.out; simp; omega))
  replace HK3 := Lib.hid (HK3.out.touch tt (fun k hk => by have := (HK3.out.own k hk).1; have := HZ3.out; simp; omega))
  replace HK5 := Lib.hid (Qu.touch HK5.out tt (fun k hk => by have := (Qu.own HK5.out k hk).1; have := HZ5.out; simp; omega))
  replace HK6 := Lib.hid (Qu.touch HK6.out tt (fun k hk => by have := (Qu.own HK6.out k hk).1; have := HZ6.out; simp; omega))
  replace HK7 := Lib.hid (HK7.out.touch tt (fun k hk => by have := HZ7.out; simp only [List.mem_singleton] at hk; omega))
  replace HK8 := Lib.hid (HK8.out.touch tt (fun k hk => by have := (HK8.out.own k hk).1; have := HZ8.out; simp; omega))
  clear tt
  have HRX := HRY
  have HPX := HPY
  have HTX := HTY
  clear HRY HPY HTY
  go_wp2_with fail
  clear p_ f_
  refine (num_any D l6 (RB + 1) (s8_ D l6) _ HRX.out HD.out HDB.out).mono ?_
  rintro e wE8 ⟨rfl, hR, ht⟩
  replace HRX := Lib.hid hR
  have hpx := HPX.out.touch ht (by simp)
  replace HPX := Lib.hid hpx
  replace HTX := Lib.hid (HTX.out.trans (ht.mono (by simp) : Touch [RB + 1, RB + 1 + 1] _ _))
  replace HK1 := Lib.hid (HK1.out.touch ht (fun k hk => by have := (HK1.out.own k hk).1; have := HZ1.out; simp; omega))
  replace HK2 := Lib.hid (HK2.out.touch ht (fun k hk => by have := (HK2.out.own k hk).1; have := HZ2.out; simp; omega))
  replace HK3 := Lib.hid (HK3.out.touch ht (fun k hk => by have := (HK3.out.own k hk).1; have := HZ3.out; simp; omega))
  replace HK5 := Lib.hid (Qu.touch HK5.out ht (fun k hk => by have := (Qu.own HK5.out k hk).1; have := HZ5.out; simp; omega))
  replace HK6 := Lib.hid (Qu.touch HK6.out ht (fun k hk => by have := (Qu.own HK6.out k hk).1; have := HZ6.out; simp; omega))
  replace HK7 := Lib.hid (HK7.out.touch ht (fun k hk => by have := HZ7.out; simp only [List.mem_singleton] at hk; omega))
  replace HK8 := Lib.hid (HK8.out.touch ht (fun k hk => by have := (HK8.out.own k hk).1; have := HZ8.out; simp; omega))
  obtain ⟨n8, hn8⟩ : ∃ x, nv D (s8_ D l6) = x := ⟨_, rfl⟩
  rw [hn8]
  have HN8 := Lib.hid hn8
  clear hn8
  clear hR ht
  have p_ := hpx.cell (i := 8) rfl
  have f_ := hpx.free 8
  have tt : Touch [RB + 1 + 1] wE8 (wE8.setCell ⟨RB + 1 + 1, 8, none⟩ (.int .i64 n8)) := (Touch.refl [RB + 1 + 1] wE8).setCell (by simp) _
  have HRY := Lib.hid (HRX.out.grown tt (by simp))
  have HPY : Hid (Blk (wE8.setCell ⟨RB + 1 + 1, 8, none⟩ (.int .i64 n8)) (RB + 1 + 1) #[.slice b1 l1 c1, .slice b2 l2 c2, .slice b3 l3 c3, .int .i64 n3, .slice b5 l5 c5, .slice b6 l6 c6, .slice b7 l7 c7, .slice b8 l8 c8, .int .i64 n8] 29) := Lib.hid (by have := hpx.set 8 (.int .i64 n8); simpa using this)
  have HTY := Lib.hid (HTX.out.trans (tt.mono (by simp) : Touch [RB + 1, RB + 1 + 1] _ _))
  clear hpx HRX HPX HTX
  replace HK1 := Lib.hid (HK1.out.touch tt (fun k hk => by have := (HK1.out.own k hk).1; have := HZ1.out; simp; omega))
  replace HK2 := Lib.hid (HK2.out.touch tt (fun k hk => by have := (HK2.out.own k hk).1; have := HZ2.out; simp; omega))
  replace HK3 := Lib.hid (HK3.out.touch tt (fun k hk => by have := (HK3.out.own k hk).1; have := HZ3.out; simp; omega))
  replace HK5 := Lib.hid (Qu.touch HK5.out tt (fun k hk => by have := (Qu.own HK5.out k hk).1; have := HZ5.out; simp; omega))
  replace HK6 := Lib.hid (Qu.touch HK6.out tt (fun k hk => by have := (Qu.own HK6.out k hk).1; have := HZ6.out; simp; omega))
  replace HK7 := Lib.hid (HK7.out.touch tt (fun k hk => by have := HZ7.out; simp only [List.mem_singleton] at hk; omega))
  replace HK8 := Lib.hid (HK8.out.touch tt (fun k hk => by have := (HK8.out.own k hk).1; have := HZ8.out; simp; omega))
  clear tt
  have HRX := HRY
  have HPX := HPY
  have HTX := HTY
  clear HRY HPY HTY
  go_upto_region 15 with fail
  clear p_ f_
  obtain ⟨wX, hX⟩ : ∃ x, (wE8.setCell ⟨RB + 1 + 1, 8, none⟩ (.int .i64 n8)) = x := ⟨_, rfl⟩
  rw [hX] at HRX HPX HTX HK1 HK2 HK3 HK5 HK6 HK7 HK8 ⊢
  clear hX
  have HCC : Hid (∀ q, s6_ D = some q → l6 = un_ D 2 (s5_ D)) := Lib.hid HE6.out
  cases hst : s9_ D l6 with
  | none =>
    have hrx := HRX.out
    rw [show go_ D 8 (s8_ D l6) = none from hst] at hrx
    obtain ⟨v, R, hbk, hbs, hrl, hown⟩ := hrx
    have x2_ := hbk.cell (i := 2) rfl
    clear hbk hbs hrl hown
    have HNO : Hid (¬ DecOk D) := Lib.hid (fun h => by have := chain_dec HCC.out h; rw [hst] at this; cases this)
    have zz := HB1.out.touch HTX.out (by simp; omega)
    have r0_ := zz.cell (i := 0) rfl
    have g0_ := zz.free 0
    have r1_ := zz.cell (i := 1) rfl
    have g1_ := zz.free 1
    have r2_ := zz.cell (i := 2) rfl
    have g2_ := zz.free 2
    have r3_ := zz.cell (i := 3) rfl
    have g3_ := zz.free 3
    have r4_ := zz.cell (i := 4) rfl
    have g4_ := zz.free 4
    have r5_ := zz.cell (i := 5) rfl
    have g5_ := zz.free 5
    have r6_ := zz.cell (i := 6) rfl
    have g6_ := zz.free 6
    have r7_ := zz.cell (i := 7) rfl
    have g7_ := zz.free 7
    have r8_ := zz.cell (i := 8) rfl
    have g8_ := zz.free 8
    have HTT : Hid (Touch [RB, RB + 1, RB + 1 + 1] w wX) := Lib.hid ((HTW.out.mono (by simp)).trans (HTX.out.mono (by simp)))
    (try clear HK1); (try clear HK2); (try clear HK3); (try clear HK5); (try clear HK6); (try clear HK7); (try clear HK8); (try clear HE1); (try clear HE2); (try clear HE3); (try clear HE5); (try clear HE6); (try clear HE7); (try clear HE8); (try clear HL1); (try clear HL2); (try clear HL3); (try clear HL5); (try clear HL6); (try clear HL7); (try clear HL8); (try clear HZ1); (try clear HZ2); (try clear HZ3); (try clear HZ5); (try clear HZ6); (try clear HZ7); (try clear HZ8); (try clear HN3); (try clear HN8); (try clear HRX); (try clear HPX); (try clear HCC); (try clear HCH); (try clear HO9); (try clear HD); (try clear HDB); (try clear HBS); (try clear HL); (try clear HOWN); (try clear HV1); (try clear HOW); (try clear HSB); (try clear HPG); (try clear HPM); (try clear hl2); (try clear hs); (try clear h2i); (try clear h2c); (try clear h2d); (try clear hc2); (try clear hcap); (try clear hoL); (try clear hst); (try clear HTX); (try clear HTW); (try clear HB1); (try clear HB0); (try clear HT0); (try clear HBM); (try clear HTM); (try clear hmay); (try clear hown)
    go_wp2_with fail
    have hbF : Blk _ RB #[.slice none 0 0, .slice none 0 0, .slice none 0 0, .int .i64 0, .slice none 0 0, .slice none 0 0, .slice none 0 0, .slice none 0 0, .int .i64 0] 29 := (((((((((zz.set 0 (.slice none 0 0)).set 1 (.slice none 0 0)).set 2 (.slice none 0 0)).set 3 (.int .i64 0)).set 4 (.slice none 0 0)).set 5 (.slice none 0 0)).set 6 (.slice none 0 0)).set 7 (.slice none 0 0)).set 8 (.int .i64 0))
    have htF : Touch [] w _ := Touch.fresh (S := [RB, RB + 1, RB + 1 + 1]) (HTT.out.trans (((((((((((Touch.refl [RB] wX).setCell (p := ⟨RB, 0, none⟩) (by simp) (.slice none 0 0)).setCell (p := ⟨RB, 1, none⟩) (by simp) (.slice none 0 0)).setCell (p := ⟨RB, 2, none⟩) (by simp) (.slice none 0 0)).setCell (p := ⟨RB, 3, none⟩) (by simp) (.int .i64 0)).setCell (p := ⟨RB, 4, none⟩) (by simp) (.slice none 0 0)).setCell (p := ⟨RB, 5, none⟩) (by simp) (.slice none 0 0)).setCell (p := ⟨RB, 6, none⟩) (by simp) (.slice none 0 0)).setCell (p := ⟨RB, 7, none⟩) (by simp) (.slice none 0 0)).setCell (p := ⟨RB, 8, none⟩) (by simp) (.int .i64 0)).mono (by simp))) (fun k hk hlt => by have := HRB.out; simp at hk; omega)
    obtain ⟨W, hW⟩ : ∃ W, (((((((((wX.setCell ⟨RB, 0, none⟩ (.slice none 0 0)).setCell ⟨RB, 1, none⟩ (.slice none 0 0)).setCell ⟨RB, 2, none⟩ (.slice none 0 0)).setCell ⟨RB, 3, none⟩ (.int .i64 0)).setCell ⟨RB, 4, none⟩ (.slice none 0 0)).setCell ⟨RB, 5, none⟩ (.slice none 0 0)).setCell ⟨RB, 6, none⟩ (.slice none 0 0)).setCell ⟨RB, 7, none⟩ (.slice none 0 0)).setCell ⟨RB, 8, none⟩ (.int .i64 0)) = W := ⟨_, rfl⟩
    rw [hW] at hbF htF ⊢
    have HTF := Lib.hid htF
    have q0_ := hbF.cell (i := 0) rfl
    have q1_ := hbF.cell (i := 1) rfl
    have q2_ := hbF.cell (i := 2) rfl
    have q3_ := hbF.cell (i := 3) rfl
    have q4_ := hbF.cell (i := 4) rfl
    have q5_ := hbF.cell (i := 5) rfl
    have q6_ := hbF.cell (i := 6) rfl
    have q7_ := hbF.cell (i := 7) rfl
    have q8_ := hbF.cell (i := 8) rfl
    clear r0_ g0_ r1_ g1_ r2_ g2_ r3_ g3_ r4_ g4_ r5_ g5_ r6_ g6_ r7_ g7_ r8_ g8_ zz hbF htF hW
    (try simp only [Exit.inBlock, Exit.then]); refine bodyPost_ret (by simp [results, Try.results14, go_sem, q0_, q1_, q2_, q3_, q4_, q5_, q6_, q7_, q8_]; try rfl) rfl ?_
    exact ⟨_, 5, rfl, HTF.out, .inr ⟨HNO.out, rfl, zero_pg _⟩⟩
  | some o =>
    obtain ⟨ho9, hch⟩ := chain_of HCC.out hst
    have HCH := Lib.hid hch
    have hrx := HRX.out
    rw [show go_ D 8 (s8_ D l6) = some o from hst] at hrx
    obtain ⟨hol, v, hbk, hbs, hown⟩ := hrx
    obtain ⟨ra, rc, rfl⟩ := hbs.form
    rw [List.length_drop, HL.out] at hbk
    have HO9 := Lib.hid ho9
    have x2_ := hbk.cell (i := 2) rfl
    have x0_ := hbk.cell (i := 0) rfl
    have hoL : o ≤ L := by have := HL.out; omega
    clear hbk hbs hown hst hch ho9
    by_cases hrest : o < L
    case pos =>
      have hr0 : ¬ L - o = 0 := by omega
      have hr1 : 0 < L - o := by omega
      have hr2 : decide ((0 : Int) < ((L - o : Nat) : Int)) = true := dT (by omega)
      have HNO : Hid (¬ DecOk D) := Lib.hid (fun h => by have h1 := h.2.1; have h2 := HO9.out; have h3 := HL.out; omega)
      have zz := HB1.out.touch HTX.out (by simp; omega)
      have r0_ := zz.cell (i := 0) rfl
      have g0_ := zz.free 0
      have r1_ := zz.cell (i := 1) rfl
      have g1_ := zz.free 1
      have r2_ := zz.cell (i := 2) rfl
      have g2_ := zz.free 2
      have r3_ := zz.cell (i := 3) rfl
      have g3_ := zz.free 3
      have r4_ := zz.cell (i := 4) rfl
      have g4_ := zz.free 4
      have r5_ := zz.cell (i := 5) rfl
      have g5_ := zz.free 5
      have r6_ := zz.cell (i := 6) rfl
      have g6_ := zz.free 6
      have r7_ := zz.cell (i := 7) rfl
      have g7_ := zz.free 7
      have r8_ := zz.cell (i := 8) rfl
      have g8_ := zz.free 8
      have HTT : Hid (Touch [RB, RB + 1, RB + 1 + 1] w wX) := Lib.hid ((HTW.out.mono (by simp)).trans (HTX.out.mono (by simp)))
      (try clear HK1); (try clear HK2); (try clear HK3); (try clear HK5); (try clear HK6); (try clear HK7); (try clear HK8); (try clear HE1); (try clear HE2); (try clear HE3); (try clear HE5); (try clear HE6); (try clear HE7); (try clear HE8); (try clear HL1); (try clear HL2); (try clear HL3); (try clear HL5); (try clear HL6); (try clear HL7); (try clear HL8); (try clear HZ1); (try clear HZ2); (try clear HZ3); (try clear HZ5); (try clear HZ6); (try clear HZ7); (try clear HZ8); (try clear HN3); (try clear HN8); (try clear HRX); (try clear HPX); (try clear HCC); (try clear HCH); (try clear HO9); (try clear HD); (try clear HDB); (try clear HBS); (try clear HL); (try clear HOWN); (try clear HV1); (try clear HOW); (try clear HSB); (try clear HPG); (try clear HPM); (try clear hl2); (try clear hs); (try clear h2i); (try clear h2c); (try clear h2d); (try clear hc2); (try clear hcap); (try clear hoL); (try clear hst); (try clear HTX); (try clear HTW); (try clear HB1); (try clear HB0); (try clear HT0); (try clear HBM); (try clear HTM); (try clear hmay); (try clear hown)
      go_wp2_with fail
      have hbF : Blk _ RB #[.slice none 0 0, .slice none 0 0, .slice none 0 0, .int .i64 0, .slice none 0 0, .slice none 0 0, .slice none 0 0, .slice none 0 0, .int .i64 0] 29 := (((((((((zz.set 0 (.slice none 0 0)).set 1 (.slice none 0 0)).set 2 (.slice none 0 0)).set 3 (.int .i64 0)).set 4 (.slice none 0 0)).set 5 (.slice none 0 0)).set 6 (.slice none 0 0)).set 7 (.slice none 0 0)).set 8 (.int .i64 0))
      have htF : Touch [] w _ := Touch.fresh (S := [RB, RB + 1, RB + 1 + 1]) (HTT.out.trans (((((((((((Touch.refl [RB] wX).setCell (p := ⟨RB, 0, none⟩) (by simp) (.slice none 0 0)).setCell (p := ⟨RB, 1, none⟩) (by simp) (.slice none 0 0)).setCell (p := ⟨RB, 2, none⟩) (by simp) (.slice none 0 0)).setCell (p := ⟨RB, 3, none⟩) (by simp) (.int .i64 0)).setCell (p := ⟨RB, 4, none⟩) (by simp) (.slice none 0 0)).setCell (p := ⟨RB, 5, none⟩) (by simp) (.slice none 0 0)).setCell (p := ⟨RB, 6, none⟩) (by simp) (.slice none 0 0)).setCell (p := ⟨RB, 7, none⟩) (by simp) (.slice none 0 0)).setCell (p := ⟨RB, 8, none⟩) (by simp) (.int .i64 0)).mono (by simp))) (fun k hk hlt => by have := HRB.out; simp at hk; omega)
      obtain ⟨W, hW⟩ : ∃ W, (((((((((wX.setCell ⟨RB, 0, none⟩ (.slice none 0 0)).setCell ⟨RB, 1, none⟩ (.slice none 0 0)).setCell ⟨RB, 2, none⟩ (.slice none 0 0)).setCell ⟨RB, 3, none⟩ (.int .i64 0)).setCell ⟨RB, 4, none⟩ (.slice none 0 0)).setCell ⟨RB, 5, none⟩ (.slice none 0 0)).setCell ⟨RB, 6, none⟩ (.slice none 0 0)).setCell ⟨RB, 7, none⟩ (.slice none 0 0)).setCell ⟨RB, 8, none⟩ (.int .i64 0)) = W := ⟨_, rfl⟩
      rw [hW] at hbF htF ⊢
      have HTF := Lib.hid htF
      have q0_ := hbF.cell (i := 0) rfl
      have q1_ := hbF.cell (i := 1) rfl
      have q2_ := hbF.cell (i := 2) rfl
      have q3_ := hbF.cell (i := 3) rfl
      have q4_ := hbF.cell (i := 4) rfl
      have q5_ := hbF.cell (i := 5) rfl
      have q6_ := hbF.cell (i := 6) rfl
      have q7_ := hbF.cell (i := 7) rfl
      have q8_ := hbF.cell (i := 8) rfl
      clear r0_ g0_ r1_ g1_ r2_ g2_ r3_ g3_ r4_ g4_ r5_ g5_ r6_ g6_ r7_ g7_ r8_ g8_ zz hbF htF hW
      (try simp only [Exit.inBlock, Exit.then]); refine bodyPost_ret (by simp [results, Try.results14, go_sem, q0_, q1_, q2_, q3_, q4_, q5_, q6_, q7_, q8_]; try rfl) rfl ?_
      exact ⟨_, 5, rfl, HTF.out, .inr ⟨HNO.out, rfl, zero_pg _⟩⟩
    obtain rfl : L = o := by omega
    rw [Nat.sub_self] at x0_
    have p0_ := HPX.out.cell (i := 0) rfl
    have p1_ := HPX.out.cell (i := 1) rfl
    have p2_ := HPX.out.cell (i := 2) rfl
    have p3_ := HPX.out.cell (i := 3) rfl
    have p4_ := HPX.out.cell (i := 4) rfl
    have p5_ := HPX.out.cell (i := 5) rfl
    have p6_ := HPX.out.cell (i := 6) rfl
    have p7_ := HPX.out.cell (i := 7) rfl
    have p8_ := HPX.out.cell (i := 8) rfl
    have hpg := pg_of HCH.out HK1.out HK2.out HK3.out HK5.out HK6.out HK7.out HK8.out HE1.out HE2.out HE3.out HE5.out HE6.out HE7.out HE8.out
    rw [HN3.out, HN8.out] at hpg
    have HPG := Lib.hid hpg
    clear hpg
    go_wp2_with fail
    refine (may_any _ (decP D) _ HPG.out).mono ?_
    rintro e wM ⟨rfl, htM⟩
    have HPM := Lib.hid (HPX.out.touch htM (by simp))
    have HBM := Lib.hid ((HB1.out.touch HTX.out (by simp; omega)).touch htM (by simp))
    have HTM : Hid (Touch [RB, RB + 1, RB + 1 + 1] w wM) := Lib.hid (((HTW.out.mono (by simp)).trans (HTX.out.mono (by simp))).trans (htM.mono (by simp)))
    replace HK1 := Lib.hid (HK1.out.touch htM (by simp))
    replace HK2 := Lib.hid (HK2.out.touch htM (by simp))
    replace HK3 := Lib.hid (HK3.out.touch htM (by simp))
    replace HK5 := Lib.hid (Qu.touch HK5.out htM (by simp))
    replace HK6 := Lib.hid (Qu.touch HK6.out htM (by simp))
    replace HK7 := Lib.hid (HK7.out.touch htM (by simp))
    replace HK8 := Lib.hid (HK8.out.touch htM (by simp))
    clear htM x0_ x2_ p0_ p1_ p2_ p3_ p4_ p5_ p6_ p7_ p8_
    by_cases hmay : MayP (decP D)
    case neg =>
      rw [show decide (MayP (decP D)) = false from decide_eq_false hmay]
      have HNO : Hid (¬ DecOk D) := Lib.hid (fun h => hmay h.2.2)
      have zz := HBM.out
      have r0_ := zz.cell (i := 0) rfl
      have g0_ := zz.free 0
      have r1_ := zz.cell (i := 1) rfl
      have g1_ := zz.free 1
      have r2_ := zz.cell (i := 2) rfl
      have g2_ := zz.free 2
      have r3_ := zz.cell (i := 3) rfl
      have g3_ := zz.free 3
      have r4_ := zz.cell (i := 4) rfl
      have g4_ := zz.free 4
      have r5_ := zz.cell (i := 5) rfl
      have g5_ := zz.free 5
      have r6_ := zz.cell (i := 6) rfl
      have g6_ := zz.free 6
      have r7_ := zz.cell (i := 7) rfl
      have g7_ := zz.free 7
      have r8_ := zz.cell (i := 8) rfl
      have g8_ := zz.free 8
      have HTT : Hid (Touch [RB, RB + 1, RB + 1 + 1] w wM) := Lib.hid (HTM.out)
      (try clear HK1); (try clear HK2); (try clear HK3); (try clear HK5); (try clear HK6); (try clear HK7); (try clear HK8); (try clear HE1); (try clear HE2); (try clear HE3); (try clear HE5); (try clear HE6); (try clear HE7); (try clear HE8); (try clear HL1); (try clear HL2); (try clear HL3); (try clear HL5); (try clear HL6); (try clear HL7); (try clear HL8); (try clear HZ1); (try clear HZ2); (try clear HZ3); (try clear HZ5); (try clear HZ6); (try clear HZ7); (try clear HZ8); (try clear HN3); (try clear HN8); (try clear HRX); (try clear HPX); (try clear HCC); (try clear HCH); (try clear HO9); (try clear HD); (try clear HDB); (try clear HBS); (try clear HL); (try clear HOWN); (try clear HV1); (try clear HOW); (try clear HSB); (try clear HPG); (try clear HPM); (try clear hl2); (try clear hs); (try clear h2i); (try clear h2c); (try clear h2d); (try clear hc2); (try clear hcap); (try clear hoL); (try clear hst); (try clear HTX); (try clear HTW); (try clear HB1); (try clear HB0); (try clear HT0); (try clear HBM); (try clear HTM); (try clear hmay); (try clear hown)
      go_wp2_with fail
      have hbF : Blk _ RB #[.slice none 0 0, .slice none 0 0, .slice none 0 0, .int .i64 0, .slice none 0 0, .slice none 0 0, .slice none 0 0, .slice none 0 0, .int .i64 0] 29 := (((((((((zz.set 0 (.slice none 0 0)).set 1 (.slice none 0 0)).set 2 (.slice none 0 0)).set 3 (.int .i64 0)).set 4 (.slice none 0 0)).set 5 (.slice none 0 0)).set 6 (.slice none 0 0)).set 7 (.slice none 0 0)).set 8 (.int .i64 0))
      have htF : Touch [] w _ := Touch.fresh (S := [RB, RB + 1, RB + 1 + 1]) (HTT.out.trans (((((((((((Touch.refl [RB] wM).setCell (p := ⟨RB, 0, none⟩) (by simp) (.slice none 0 0)).setCell (p := ⟨RB, 1, none⟩) (by simp) (.slice none 0 0)).setCell (p := ⟨RB, 2, none⟩) (by simp) (.slice none 0 0)).setCell (p := ⟨RB, 3, none⟩) (by simp) (.int .i64 0)).setCell (p := ⟨RB, 4, none⟩) (by simp) (.slice none 0 0)).setCell (p := ⟨RB, 5, none⟩) (by simp) (.slice none 0 0)).setCell (p := ⟨RB, 6, none⟩) (by simp) (.slice none 0 0)).setCell (p := ⟨RB, 7, none⟩) (by simp) (.slice none 0 0)).setCell (p := ⟨RB, 8, none⟩) (by simp) (.int .i64 0)).mono (by simp))) (fun k hk hlt => by have := HRB.out; simp at hk; omega)
      obtain ⟨W, hW⟩ : ∃ W, (((((((((wM.setCell ⟨RB, 0, none⟩ (.slice none 0 0)).setCell ⟨RB, 1, none⟩ (.slice none 0 0)).setCell ⟨RB, 2, none⟩ (.slice none 0 0)).setCell ⟨RB, 3, none⟩ (.int .i64 0)).setCell ⟨RB, 4, none⟩ (.slice none 0 0)).setCell ⟨RB, 5, none⟩ (.slice none 0 0)).setCell ⟨RB, 6, none⟩ (.slice none 0 0)).setCell ⟨RB, 7, none⟩ (.slice none 0 0)).setCell ⟨RB, 8, none⟩ (.int .i64 0)) = W := ⟨_, rfl⟩
      rw [hW] at hbF htF ⊢
      have HTF := Lib.hid htF
      have q0_ := hbF.cell (i := 0) rfl
      have q1_ := hbF.cell (i := 1) rfl
      have q2_ := hbF.cell (i := 2) rfl
      have q3_ := hbF.cell (i := 3) rfl
      have q4_ := hbF.cell (i := 4) rfl
      have q5_ := hbF.cell (i := 5) rfl
      have q6_ := hbF.cell (i := 6) rfl
      have q7_ := hbF.cell (i := 7) rfl
      have q8_ := hbF.cell (i := 8) rfl
      clear r0_ g0_ r1_ g1_ r2_ g2_ r3_ g3_ r4_ g4_ r5_ g5_ r6_ g6_ r7_ g7_ r8_ g8_ zz hbF htF hW
      (try simp only [Exit.inBlock, Exit.then]); refine bodyPost_ret (by simp [results, Try.results14, go_sem, q0_, q1_, q2_, q3_, q4_, q5_, q6_, q7_, q8_]; try rfl) rfl ?_
      exact ⟨_, 5, rfl, HTF.out, .inr ⟨HNO.out, rfl, zero_pg _⟩⟩
    rw [show decide (MayP (decP D)) = true from decide_eq_true hmay]
    have HOK : Hid (DecOk D) := Lib.hid ⟨HSB.out, by rw [← HO9.out]; exact HL.out.symm, hmay⟩
    clear hmay
    have p0_ := HPM.out.cell (i := 0) rfl
    have p1_ := HPM.out.cell (i := 1) rfl
    have p2_ := HPM.out.cell (i := 2) rfl
    have p3_ := HPM.out.cell (i := 3) rfl
    have p4_ := HPM.out.cell (i := 4) rfl
    have p5_ := HPM.out.cell (i := 5) rfl
    have p6_ := HPM.out.cell (i := 6) rfl
    have p7_ := HPM.out.cell (i := 7) rfl
    have p8_ := HPM.out.cell (i := 8) rfl
    have zz := HBM.out
    have r0_ := zz.cell (i := 0) rfl
    have g0_ := zz.free 0
    have r1_ := zz.cell (i := 1) rfl
    have g1_ := zz.free 1
    have r2_ := zz.cell (i := 2) rfl
    have g2_ := zz.free 2
    have r3_ := zz.cell (i := 3) rfl
    have g3_ := zz.free 3
    have r4_ := zz.cell (i := 4) rfl
    have g4_ := zz.free 4
    have r5_ := zz.cell (i := 5) rfl
    have g5_ := zz.free 5
    have r6_ := zz.cell (i := 6) rfl
    have g6_ := zz.free 6
    have r7_ := zz.cell (i := 7) rfl
    have g7_ := zz.free 7
    have r8_ := zz.cell (i := 8) rfl
    have g8_ := zz.free 8
    go_wp2_with fail
    have hbF : Blk (((((((((wM.setCell ⟨RB, 0, none⟩ (.slice b1 l1 c1)).setCell ⟨RB, 1, none⟩ (.slice b2 l2 c2)).setCell ⟨RB, 2, none⟩ (.slice b3 l3 c3)).setCell ⟨RB, 3, none⟩ (.int .i64 n3)).setCell ⟨RB, 4, none⟩ (.slice b5 l5 c5)).setCell ⟨RB, 5, none⟩ (.slice b6 l6 c6)).setCell ⟨RB, 6, none⟩ (.slice b7 l7 c7)).setCell ⟨RB, 7, none⟩ (.slice b8 l8 c8)).setCell ⟨RB, 8, none⟩ (.int .i64 n8)) RB #[.slice b1 l1 c1, .slice b2 l2 c2, .slice b3 l3 c3, .int .i64 n3, .slice b5 l5 c5, .slice b6 l6 c6, .slice b7 l7 c7, .slice b8 l8 c8, .int .i64 n8] 29 := by have := (((((((((zz.set 0 (.slice b1 l1 c1)).set 1 (.slice b2 l2 c2)).set 2 (.slice b3 l3 c3)).set 3 (.int .i64 n3)).set 4 (.slice b5 l5 c5)).set 5 (.slice b6 l6 c6)).set 6 (.slice b7 l7 c7)).set 7 (.slice b8 l8 c8)).set 8 (.int .i64 n8)); simpa using this
    have ttF : Touch [RB] wM _ := ((((((((((Touch.refl [RB] wM).setCell (p := ⟨RB, 0, none⟩) (by simp) (.slice b1 l1 c1)).setCell (p := ⟨RB, 1, none⟩) (by simp) (.slice b2 l2 c2)).setCell (p := ⟨RB, 2, none⟩) (by simp) (.slice b3 l3 c3)).setCell (p := ⟨RB, 3, none⟩) (by simp) (.int .i64 n3)).setCell (p := ⟨RB, 4, none⟩) (by simp) (.slice b5 l5 c5)).setCell (p := ⟨RB, 5, none⟩) (by simp) (.slice b6 l6 c6)).setCell (p := ⟨RB, 6, none⟩) (by simp) (.slice b7 l7 c7)).setCell (p := ⟨RB, 7, none⟩) (by simp) (.slice b8 l8 c8)).setCell (p := ⟨RB, 8, none⟩) (by simp) (.int .i64 n8))
    have htF : Touch [] w _ := Touch.fresh (S := [RB, RB + 1, RB + 1 + 1]) (HTM.out.trans (ttF.mono (by simp))) (fun k hk hlt => by have := HRB.out; simp at hk; omega)
    obtain ⟨W, hW⟩ : ∃ W, (((((((((wM.setCell ⟨RB, 0, none⟩ (.slice b1 l1 c1)).setCell ⟨RB, 1, none⟩ (.slice b2 l2 c2)).setCell ⟨RB, 2, none⟩ (.slice b3 l3 c3)).setCell ⟨RB, 3, none⟩ (.int .i64 n3)).setCell ⟨RB, 4, none⟩ (.slice b5 l5 c5)).setCell ⟨RB, 5, none⟩ (.slice b6 l6 c6)).setCell ⟨RB, 6, none⟩ (.slice b7 l7 c7)).setCell ⟨RB, 7, none⟩ (.slice b8 l8 c8)).setCell ⟨RB, 8, none⟩ (.int .i64 n8)) = W := ⟨_, rfl⟩
    rw [hW] at hbF htF ttF ⊢
    have HTF := Lib.hid htF
    replace HK1 := Lib.hid (HK1.out.touch ttF (fun k hk => by have := (HK1.out.own k hk).1; have := HZ1.out; simp; omega))
    replace HK2 := Lib.hid (HK2.out.touch ttF (fun k hk => by have := (HK2.out.own k hk).1; have := HZ2.out; simp; omega))
    replace HK3 := Lib.hid (HK3.out.touch ttF (fun k hk => by have := (HK3.out.own k hk).1; have := HZ3.out; simp; omega))
    replace HK5 := Lib.hid (Qu.touch HK5.out ttF (fun k hk => by have := (Qu.own HK5.out k hk).1; have := HZ5.out; simp; omega))
    replace HK6 := Lib.hid (Qu.touch HK6.out ttF (fun k hk => by have := (Qu.own HK6.out k hk).1; have := HZ6.out; simp; omega))
    replace HK7 := Lib.hid (HK7.out.touch ttF (fun k hk => by have := HZ7.out; simp only [List.mem_singleton] at hk; omega))
    replace HK8 := Lib.hid (HK8.out.touch ttF (fun k hk => by have := (HK8.out.own k hk).1; have := HZ8.out; simp; omega))
    have hpg := pg_of HCH.out HK1.out HK2.out HK3.out HK5.out HK6.out HK7.out HK8.out HE1.out HE2.out HE3.out HE5.out HE6.out HE7.out HE8.out
    rw [HN3.out, HN8.out] at hpg
    have HPG := Lib.hid hpg
    have q0_ := hbF.cell (i := 0) rfl
    have q1_ := hbF.cell (i := 1) rfl
    have q2_ := hbF.cell (i := 2) rfl
    have q3_ := hbF.cell (i := 3) rfl
    have q4_ := hbF.cell (i := 4) rfl
    have q5_ := hbF.cell (i := 5) rfl
    have q6_ := hbF.cell (i := 6) rfl
    have q7_ := hbF.cell (i := 7) rfl
    have q8_ := hbF.cell (i := 8) rfl
    clear r0_ g0_ p0_ r1_ g1_ p1_ r2_ g2_ p2_ r3_ g3_ p3_ r4_ g4_ p4_ r5_ g5_ p5_ r6_ g6_ p6_ r7_ g7_ p7_ r8_ g8_ p8_ zz hbF htF hW hpg ttF
    (try simp only [Exit.inBlock, Exit.then]); refine bodyPost_ret (by simp [results, Try.results14, go_sem, q0_, q1_, q2_, q3_, q4_, q5_, q6_, q7_, q8_]; try rfl) rfl ?_
    exact ⟨_, 0, rfl, HTF.out, .inl ⟨HOK.out, rfl, HPG.out⟩⟩
end Go.Proofs.Ytoedkomckgidiaa
