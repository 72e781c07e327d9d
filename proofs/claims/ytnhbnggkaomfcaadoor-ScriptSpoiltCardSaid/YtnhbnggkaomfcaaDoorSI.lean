/-
  Jobs as texts: one line is read into a job.
-/
import Derived.Test.YtnhbnggkaomfcaaDoorSH1
set_option linter.unusedVariables false
namespace Go.Proofs.YtnhbnggkaomfcaaDoor
open Go Go.RowKit

def jC (j : Jb) (vi vp : Value) : Array Value := #[.bool j.cl, .int .i64 j.a, .int .i64 j.b, .int .i64 j.c, vi, vp]
/-- Block b holds the job j; its lists lie from block B on. -/
def JB (w : World) (b B : Nat) (j : Jb) : Prop := ∃ vi vp, Blk w b (jC j vi vp) 26 ∧ Qu w B 3 vi (j.inp.map (Value.int .i64)) ∧ Qu w B 3 vp (j.pk.map (Value.int .i64))
theorem JB.touch {w w' : World} {b B : Nat} {j : Jb} (h : JB w b B j) (ht : Touch [] w w') : JB w' b B j := by
  obtain ⟨vi, vp, h1, h2, h3⟩ := h
  exact ⟨vi, vp, h1.touch ht (by simp), h2.touch ht (fun _ _ => by simp), h3.touch ht (fun _ _ => by simp)⟩
def ReadP (b B : Nat) (ok : Prop) (j' : Jb) (w : World) (e : Ending) (w' : World) : Prop :=
  Touch [b] w w' ∧ ((ok ∧ e = .returned (.bool true) ∧ JB w' b B j') ∨ (¬ ok ∧ e = .returned (.bool false)))
theorem suf_of {s : List UInt8} (h : Lib.hasSuffix s [10] = true) : s = Lib.trimSuffix s [10] ++ [10] := by
  have hs : ([10] : List UInt8) <:+ s := List.isSuffixOf_iff_suffix.1 h
  obtain ⟨t, rfl⟩ := hs
  unfold Lib.trimSuffix
  rw [if_pos h]
  simp
theorem suf_not {s : List UInt8} (h : Lib.hasSuffix s [10] = false) : ¬ ∃ l, s = l ++ [10] := fun ⟨l, e⟩ => by
  subst e
  have : Lib.hasSuffix (l ++ [10]) [10] = true := List.isSuffixOf_iff_suffix.2 ⟨l, rfl⟩
  rw [h] at this; cases this
theorem mk_ne {a b : List UInt8} (h : a ≠ b) : ((mk a).toList == b) = false := by
  rw [beq_eq_false_iff_ne, ByteArray.toList_eq]
  intro e
  exact h (by rw [mk_list] at e; exact e)
/-- No line feed at the end. -/
theorem read_no (b : Nat) (n : Int) (line : ByteArray) (w : World) (hs : line.size ≤ 100000) (h : Lib.hasSuffix line.data.toList [10] = false) :
    Calls Tryd.prog 17 #[.pointer (some ⟨b, 0, none⟩), .int .i64 n, .string line] w fun e w' => e = .returned (.bool false) ∧ w = w' := by
  obtain ⟨r, hr⟩ : ∃ r, (⟨(Lib.trimSuffix line.data.toList [10]).toArray⟩ : ByteArray) = r := ⟨_, rfl⟩
  have HC : Hid (Calls Tryd.prog 25 #[.string line, .string ⟨#[10]⟩] w fun e w' => e = .returned (.tuple #[.string r, .bool false]) ∧ w' = w) := Lib.hid (by
    have := Tryd.strings_CutSuffix line ⟨#[10]⟩ w (by omega)
    rw [show (⟨#[10]⟩ : ByteArray).data.toList = [10] from rfl, h, hr] at this
    exact this)
  clear hr h
  go_enter Tryd.func17, Tryd.ntmps17
  go_wp2_with fail
  refine HC.out.mono ?_
  rintro e w' ⟨rfl, rfl⟩
  go_wp2_with fail
  go_ret
  exact ⟨rfl, rfl⟩
theorem cut_yes (l : List UInt8) (line : ByteArray) (w : World) (hs : line.size ≤ 100000) (h : line.data.toList = l ++ [10]) : Calls Tryd.prog 25 #[.string line, .string ⟨#[10]⟩] w fun e w' => e = .returned (.tuple #[.string (mk l), .bool true]) ∧ w' = w := by
  have hsuf : Lib.hasSuffix (l ++ [10]) [10] = true := List.isSuffixOf_iff_suffix.2 ⟨l, rfl⟩
  have := Tryd.strings_CutSuffix line ⟨#[10]⟩ w (by omega)
  rw [show (⟨#[10]⟩ : ByteArray).data.toList = [10] from rfl, h, hsuf] at this
  have e : (⟨(Lib.trimSuffix (l ++ [10]) [10]).toArray⟩ : ByteArray) = mk l := by
    have : Lib.trimSuffix (l ++ [10]) [10] = l := by unfold Lib.trimSuffix; rw [if_pos hsuf]; simp
    rw [this]; rfl
  rw [e] at this
  exact this
set_option maxHeartbeats 8000000 in
set_option maxRecDepth 100000 in
theorem read_0 (b B : Nat) (j : Jb) (l : List UInt8) (line : ByteArray) (w : World) (hv : Vs w) (hJ : JB w b B j) (hbB : b < B) (hBw : B ≤ w.heap.size) (hs : line.size ≤ 100000) (hl : line.data.toList = l ++ [10]) :
    Calls Tryd.prog 17 #[.pointer (some ⟨b, 0, none⟩), .int .i64 1, .string line] w (ReadP b B (okL 0 l) (putL 0 l j) w) := by
  have HV := Lib.hid hv
  have HC := Lib.hid (cut_yes l line w hs hl)
  obtain ⟨vi, vp, hb, hi, hp⟩ := hJ
  obtain ⟨ai, ci, ei, _⟩ := Qu.shape hi
  obtain ⟨ap, cp, ep, _⟩ := Qu.shape hp
  rw [List.length_map] at ei ep
  subst ei ep
  have HB := Lib.hid hb
  have HI := Lib.hid hi
  have HP := Lib.hid hp
  have hll : (mk l).size ≤ 100000 := by rw [mk_size]; have := congrArg List.length hl; simp at this; omega
  clear hb hi hp hl hv
  have x0 := HB.out.cell (i := 0) rfl
  have f0 := HB.out.free 0
  obtain ⟨cl, hcl⟩ : ∃ c : Bool, decide (l = wCl) = c := ⟨_, rfl⟩
  have HCL := Lib.hid hcl
  have hJ2 : JB (w.setCell ⟨b, 0, none⟩ (.bool cl)) b B (putL 0 l j) := by
    have tt : Touch [b] w (w.setCell ⟨b, 0, none⟩ (.bool cl)) := (Touch.refl [b] w).setCell (by simp) _
    refine ⟨_, _, ?_, HI.out.touch tt (fun k hk => by have := (HI.out.own k hk).1; simp; omega), HP.out.touch tt (fun k hk => by have := (HP.out.own k hk).1; simp; omega)⟩
    have := HB.out.set 0 (.bool cl)
    show Blk _ b (jC { j with cl := decide (l = wCl) } _ _) _
    rw [hcl]
    exact this
  have HJ2 := Lib.hid hJ2
  have HT2 : Hid (Touch [b] w (w.setCell ⟨b, 0, none⟩ (.bool cl))) := Lib.hid ((Touch.refl [b] w).setCell (by simp) _)
  clear hJ2
  by_cases h1 : l = wCl
  · have ec : cl = true := by rw [← hcl]; exact decide_eq_true h1
    subst ec
    have em : mk l = ⟨#[99, 108, 97, 105, 109, 101, 100]⟩ := by rw [h1]; rfl
    rw [em] at HC
    have HO : Hid (okL 0 l) := Lib.hid (.inl h1)
    clear hcl h1 em hll
    go_enter Tryd.func17, Tryd.ntmps17
    go_wp2_with fail
    refine HC.out.mono ?_
    rintro e w' ⟨rfl, rfl⟩
    go_wp2_with fail
    go_ret
    exact ⟨HT2.out, .inl ⟨HO.out, rfl, HJ2.out⟩⟩
  · have ec : cl = false := by rw [← hcl]; exact decide_eq_false h1
    subst ec
    by_cases h2 : l = wUn
    · have em : mk l = ⟨#[117, 110, 99, 108, 97, 105, 109, 101, 100]⟩ := by rw [h2]; rfl
      rw [em] at HC
      have HO : Hid (okL 0 l) := Lib.hid (.inr h2)
      clear hcl h1 h2 em hll
      go_enter Tryd.func17, Tryd.ntmps17
      go_wp2_with fail
      refine HC.out.mono ?_
      rintro e w' ⟨rfl, rfl⟩
      go_wp2_with fail
      go_ret
      exact ⟨HT2.out, .inl ⟨HO.out, rfl, HJ2.out⟩⟩
    · have n1 := mk_ne h1
      have n2 := mk_ne h2
      have HO : Hid (¬ okL 0 l) := Lib.hid (fun h => h.elim h1 h2)
      obtain ⟨T, hT⟩ : ∃ T, mk l = T := ⟨_, rfl⟩
      rw [hT] at HC n1 n2
      unfold wCl at n1
      unfold wUn at n2
      clear hcl h1 h2 hT hll
      go_enter Tryd.func17, Tryd.ntmps17
      go_wp2_with fail
      refine HC.out.mono ?_
      rintro e w' ⟨rfl, rfl⟩
      go_wp2_with fail
      go_ret
      exact ⟨HT2.out, .inr ⟨HO.out, rfl⟩⟩
theorem okL_big {i : Nat} {l : List UInt8} (h : 3 ≤ i) : okL i l = ∃ m, lineN wPk l = some m := by
  obtain ⟨d, rfl⟩ := Nat.le.dest h
  rw [Nat.add_comm]; rfl
theorem putL_big {i : Nat} {l : List UInt8} {j : Jb} (h : 3 ≤ i) : putL i l j = { j with pk := (lineN wPk l).getD [] } := by
  obtain ⟨d, rfl⟩ := Nat.le.dest h
  rw [Nat.add_comm]; rfl
set_option maxHeartbeats 8000000 in
set_option maxRecDepth 100000 in
theorem read_2 (b B : Nat) (j : Jb) (l : List UInt8) (line : ByteArray) (w : World) (hv : Vs w) (hJ : JB w b B j) (hbB : b < B) (hBw : B ≤ w.heap.size) (hs : line.size ≤ 100000) (hl : line.data.toList = l ++ [10]) :
    Calls Tryd.prog 17 #[.pointer (some ⟨b, 0, none⟩), .int .i64 3, .string line] w (ReadP b B (okL 2 l) (putL 2 l j) w) := by
  have HV := Lib.hid hv
  have HC := Lib.hid (cut_yes l line w hs hl)
  obtain ⟨vi, vp, hb, hi, hp⟩ := hJ
  obtain ⟨ai, ci, ei, _⟩ := Qu.shape hi
  obtain ⟨ap, cp, ep, _⟩ := Qu.shape hp
  rw [List.length_map] at ei ep
  subst ei ep
  have HB := Lib.hid hb
  have HI := Lib.hid hi
  have HP := Lib.hid hp
  have hll : (mk l).size ≤ 100000 := by rw [mk_size]; have := congrArg List.length hl; simp at this; omega
  clear hb hi hp hl hv
  have HN := Lib.hid (numbers_any (mk l) ⟨#[105, 110, 112, 117, 116]⟩ w HV.out hll (by decide) (by decide))
  have hrl : lineN (⟨#[105, 110, 112, 117, 116]⟩ : ByteArray).data.toList (mk l).data.toList = lineN wInp l := by rw [mk_list]; rfl
  rw [hrl] at HN
  have HOK : Hid (okL 2 l = ∃ m, lineN wInp l = some m) := Lib.hid rfl
  have HPU : Hid (putL 2 l j = { j with inp := (lineN wInp l).getD [] }) := Lib.hid rfl
  obtain ⟨R, hR⟩ : ∃ R, lineN wInp l = R := ⟨_, rfl⟩
  rw [hR] at HN HOK HPU
  rw [HOK.out, HPU.out]
  clear hR hrl hll HOK HPU
  go_enter Tryd.func17, Tryd.ntmps17
  go_wp2_with fail
  refine HC.out.mono ?_
  rintro e w' ⟨rfl, rfl⟩
  go_wp2_with fail
  refine HN.out.mono ?_
  rintro e w1 ⟨ht, h⟩
  have HB1 := Lib.hid (HB.out.touch ht (by simp))
  have HI1 := Lib.hid (HI.out.touch ht (fun _ _ => by simp))
  have HP1 := Lib.hid (HP.out.touch ht (fun _ _ => by simp))
  have HT1 := Lib.hid ht
  have x0 := HB1.out.cell (i := 4) rfl
  have f0 := HB1.out.free 4
  clear ht HN HC
  rcases h with ⟨v, m, rfl, rfl, hq⟩ | ⟨rfl, rfl⟩
  · obtain ⟨av, cv, ev, _⟩ := Qu.shape hq
    rw [List.length_map] at ev
    subst ev
    have HQ := Lib.hid hq
    clear hq
    go_wp2_with fail
    go_ret
    have tt : Touch [b] w1 (w1.setCell ⟨b, 4, none⟩ (.slice av m.length cv)) := (Touch.refl [b] w1).setCell (by simp) _
    have hsz := HT1.out.size
    refine ⟨(HT1.out.mono (by simp)).trans tt, .inl ⟨⟨m, rfl⟩, rfl, ?_⟩⟩
    exact ⟨_, _, HB1.out.set 4 _, (HQ.out.touch tt (fun k hk => by have := (HQ.out.own k hk).1; simp; omega)).mono (by omega), HP1.out.touch tt (fun k hk => by have := (HP1.out.own k hk).1; simp; omega)⟩
  · go_wp2_with fail
    go_ret
    have tt : Touch [b] w1 (w1.setCell ⟨b, 4, none⟩ (.slice none 0 0)) := (Touch.refl [b] w1).setCell (by simp) _
    exact ⟨(HT1.out.mono (by simp)).trans tt, .inr ⟨(fun ⟨m, h⟩ => by cases h), rfl⟩⟩
set_option maxHeartbeats 8000000 in
set_option maxRecDepth 100000 in
theorem read_3 (b B : Nat) (j : Jb) (l : List UInt8) (line : ByteArray) (w : World) (hv : Vs w) (hJ : JB w b B j) (hbB : b < B) (hBw : B ≤ w.heap.size) (hs : line.size ≤ 100000) (hl : line.data.toList = l ++ [10]) (n : Int) (h1 : (n == 1) = false) (h2 : (n == 2) = false) (h3 : (n == 3) = false) (i : Nat) (hi3 : 3 ≤ i) :
    Calls Tryd.prog 17 #[.pointer (some ⟨b, 0, none⟩), .int .i64 n, .string line] w (ReadP b B (okL i l) (putL i l j) w) := by
  have HV := Lib.hid hv
  have HC := Lib.hid (cut_yes l line w hs hl)
  obtain ⟨vi, vp, hb, hi, hp⟩ := hJ
  obtain ⟨ai, ci, ei, _⟩ := Qu.shape hi
  obtain ⟨ap, cp, ep, _⟩ := Qu.shape hp
  rw [List.length_map] at ei ep
  subst ei ep
  have HB := Lib.hid hb
  have HI := Lib.hid hi
  have HP := Lib.hid hp
  have hll : (mk l).size ≤ 100000 := by rw [mk_size]; have := congrArg List.length hl; simp at this; omega
  clear hb hi hp hl hv
  have HN := Lib.hid (numbers_any (mk l) ⟨#[112, 105, 99, 107, 115]⟩ w HV.out hll (by decide) (by decide))
  have hrl : lineN (⟨#[112, 105, 99, 107, 115]⟩ : ByteArray).data.toList (mk l).data.toList = lineN wPk l := by rw [mk_list]; rfl
  rw [hrl] at HN
  have HOK : Hid (okL i l = ∃ m, lineN wPk l = some m) := Lib.hid (okL_big hi3)
  have HPU : Hid (putL i l j = { j with pk := (lineN wPk l).getD [] }) := Lib.hid (putL_big hi3)
  obtain ⟨R, hR⟩ : ∃ R, lineN wPk l = R := ⟨_, rfl⟩
  rw [hR] at HN HOK HPU
  rw [HOK.out, HPU.out]
  clear hR hrl hll HOK HPU
  go_enter Tryd.func17, Tryd.ntmps17
  go_wp2_with fail
  refine HC.out.mono ?_
  rintro e w' ⟨rfl, rfl⟩
  go_wp2_with fail
  refine HN.out.mono ?_
  rintro e w1 ⟨ht, h⟩
  have HB1 := Lib.hid (HB.out.touch ht (by simp))
  have HI1 := Lib.hid (HI.out.touch ht (fun _ _ => by simp))
  have HP1 := Lib.hid (HP.out.touch ht (fun _ _ => by simp))
  have HT1 := Lib.hid ht
  have x0 := HB1.out.cell (i := 5) rfl
  have f0 := HB1.out.free 5
  clear ht HN HC
  rcases h with ⟨v, m, rfl, rfl, hq⟩ | ⟨rfl, rfl⟩
  · obtain ⟨av, cv, ev, _⟩ := Qu.shape hq
    rw [List.length_map] at ev
    subst ev
    have HQ := Lib.hid hq
    clear hq
    go_wp2_with fail
    go_ret
    have tt : Touch [b] w1 (w1.setCell ⟨b, 5, none⟩ (.slice av m.length cv)) := (Touch.refl [b] w1).setCell (by simp) _
    have hsz := HT1.out.size
    refine ⟨(HT1.out.mono (by simp)).trans tt, .inl ⟨⟨m, rfl⟩, rfl, ?_⟩⟩
    exact ⟨_, _, HB1.out.set 5 _, HI1.out.touch tt (fun k hk => by have := (HI1.out.own k hk).1; simp; omega), (HQ.out.touch tt (fun k hk => by have := (HQ.out.own k hk).1; simp; omega)).mono (by omega)⟩
  · go_wp2_with fail
    go_ret
    have tt : Touch [b] w1 (w1.setCell ⟨b, 5, none⟩ (.slice none 0 0)) := (Touch.refl [b] w1).setCell (by simp) _
    exact ⟨(HT1.out.mono (by simp)).trans tt, .inr ⟨(fun ⟨m, h⟩ => by cases h), rfl⟩⟩
end Go.Proofs.YtnhbnggkaomfcaaDoor
