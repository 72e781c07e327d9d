/-
  Jobs as texts: the line of limits is read.
-/
import Derived.Test.YtnhbnggkaomfcaaDoorSI
set_option linter.unusedVariables false
namespace Go.Proofs.YtnhbnggkaomfcaaDoor
open Go Go.RowKit

theorem three {m : List Int} (h : m.length = 3) : ∃ a b c, m = [a, b, c] := by
  match m, h with
  | [a, b, c], _ => exact ⟨a, b, c, rfl⟩
set_option maxHeartbeats 16000000 in
set_option maxRecDepth 100000 in
theorem read_1 (b B : Nat) (j : Jb) (l : List UInt8) (line : ByteArray) (w : World) (hv : Vs w) (hJ : JB w b B j) (hbB : b < B) (hBw : B ≤ w.heap.size) (hs : line.size ≤ 100000) (hl : line.data.toList = l ++ [10]) :
    Calls Tryd.prog 17 #[.pointer (some ⟨b, 0, none⟩), .int .i64 2, .string line] w (ReadP b B (okL 1 l) (putL 1 l j) w) := by
  have HV := Lib.hid hv
  have HC := Lib.hid (cut_yes l line w hs hl)
  obtain ⟨vi, vp, hb, hi, hp⟩ := hJ
  obtain ⟨ai, ci, ei, _⟩ := Qu.shape hi
  obtain ⟨ap, cp, ep, _⟩ := Qu.shape hp
  rw [List.length_map] at ei ep
  subst ei ep
  have HB := Lib.hid hb
  have HI := Lib.hid hi
  have HP := Lib.hid hp
  have hll : (mk l).size ≤ 100000 := by rw [mk_size]; have := congrArg List.length hl; simp at this; omega
  clear hb hi hp hl hv
  have HN := Lib.hid (numbers_any (mk l) ⟨#[108, 105, 109, 105, 116, 115]⟩ w HV.out hll (by decide) (by decide))
  have hrl : lineN (⟨#[108, 105, 109, 105, 116, 115]⟩ : ByteArray).data.toList (mk l).data.toList = lineN wLim l := by rw [mk_list]; rfl
  rw [hrl] at HN
  have HOK : Hid (okL 1 l = ∃ a b c, lineN wLim l = some [a, b, c]) := Lib.hid rfl
  have HPU : Hid (∀ a b c, lineN wLim l = some [a, b, c] → putL 1 l j = { j with a := a, b := b, c := c }) := Lib.hid (fun a b c h => by unfold putL; (try dsimp only); rw [h]; rfl)
  obtain ⟨J2, hJ2⟩ : ∃ J2, putL 1 l j = J2 := ⟨_, rfl⟩
  rw [hJ2] at HPU ⊢
  obtain ⟨R, hR⟩ : ∃ R, lineN wLim l = R := ⟨_, rfl⟩
  rw [hR] at HN HOK HPU
  rw [HOK.out]
  clear hR hrl hll HOK hJ2
  go_enter Tryd.func17, Tryd.ntmps17
  go_wp2_with fail
  refine HC.out.mono ?_
  rintro e w' ⟨rfl, rfl⟩
  go_wp2_with fail
  refine HN.out.mono ?_
  rintro e w1 ⟨ht, h⟩
  have HB1 := Lib.hid (HB.out.touch ht (by simp))
  have HI1 := Lib.hid (HI.out.touch ht (fun _ _ => by simp))
  have HP1 := Lib.hid (HP.out.touch ht (fun _ _ => by simp))
  have HT1 := Lib.hid ht
  clear ht HN HC
  rcases h with ⟨v, m, rfl, rfl, hq⟩ | ⟨rfl, rfl⟩
  · obtain ⟨av, cv, ev, _⟩ := Qu.shape hq
    rw [List.length_map] at ev
    subst ev
    have HQ := Lib.hid hq
    clear hq
    by_cases h3 : m.length = 3
    · obtain ⟨a, b', c, rfl⟩ := three h3
      obtain ⟨a2, c2, e2, hs2⟩ := Qu.sl HQ.out
      cases e2
      obtain ⟨g, off, rfl, hg, hr⟩ : ∃ g off, av = some ⟨g, off, none⟩ ∧ g < w1.heap.size ∧ Row w1 g off [a, b', c] := by
        rcases hs2 with h | h
        · cases h
        · exact h
      have hgB : B ≤ g := Nat.le_trans hBw (HQ.out.own g rfl).1
      have c0 := hr 0 (by simp)
      have c1 := hr 1 (by simp)
      have c2_ := hr 2 (by simp)
      simp only [List.getElem_cons_zero, List.getElem_cons_succ, Nat.add_zero] at c0 c1 c2_
      have x1 := HB1.out.cell (i := 1) rfl
      have x2 := HB1.out.cell (i := 2) rfl
      have x3 := HB1.out.cell (i := 3) rfl
      have f1 := HB1.out.free 1
      have f2 := HB1.out.free 2
      have f3 := HB1.out.free 3
      have HPJ := Lib.hid (HPU.out a b' c rfl)
      clear HPU h3 hs2 hr
      go_wp2_with fail
      go_region
      go_wp2_with fail
      go_ret
      have tt : Touch [b] w1 (World.drew (((w1.setCell ⟨b, 1, none⟩ (.int .i64 a)).setCell ⟨b, 2, none⟩ (.int .i64 b')).setCell ⟨b, 3, none⟩ (.int .i64 c))) := ((((Touch.refl [b] w1).setCell (by simp) _).setCell (by simp) _).setCell (by simp) _).drew
      refine ⟨(HT1.out.mono (by simp)).trans tt, .inl ⟨⟨a, b', c, rfl⟩, rfl, ?_⟩⟩
      rw [HPJ.out]
      exact ⟨_, _, (((HB1.out.set 1 (.int .i64 a)).set 2 (.int .i64 b')).set 3 (.int .i64 c)).drew, HI1.out.touch tt (fun k hk => by have := (HI1.out.own k hk).1; simp; omega), HP1.out.touch tt (fun k hk => by have := (HP1.out.own k hk).1; simp; omega)⟩
    · have h3b : ((m.length : Int) == 3) = false := by simp; omega
      obtain ⟨L, hL⟩ : ∃ L, m.length = L := ⟨_, rfl⟩
      rw [hL] at h3 h3b ⊢
      have HNO : Hid (¬ ∃ a b c, some m = some [a, b, c]) := Lib.hid (fun ⟨a, b, c, h⟩ => by cases h; exact h3 (by rw [← hL]; rfl))
      clear hL HPU h3
      go_wp2_with fail
      go_ret
      exact ⟨HT1.out.mono (by simp), .inr ⟨HNO.out, rfl⟩⟩
  · go_wp2_with fail
    go_ret
    exact ⟨HT1.out.mono (by simp), .inr ⟨(fun ⟨a, b, c, h⟩ => by cases h), rfl⟩⟩
end Go.Proofs.YtnhbnggkaomfcaaDoor
