/-
  Jobs as texts: any line is read; the lines of a text come one by one.
-/
import Derived.Test.YtnhbnggkaomfcaaDoorSJ
set_option linter.unusedVariables false
namespace Go.Proofs.YtnhbnggkaomfcaaDoor
open Go.RowKit Go.Shelf Go

theorem read_any (b B i : Nat) (j : Jb) (line : ByteArray) (w : World) (hv : Vs w) (hJ : JB w b B j) (hbB : b < B) (hBw : B ≤ w.heap.size) (hs : line.size ≤ 100000) (hi : i < 1000000) :
    Calls Tryd.prog 17 #[.pointer (some ⟨b, 0, none⟩), .int .i64 ((i : Int) + 1), .string line] w (ReadP b B (okP i line.data.toList) (putL i line.data.toList.dropLast j) w) := by
  cases hsf : Lib.hasSuffix line.data.toList [10] with
  | false =>
    refine (read_no b _ line w hs hsf).mono ?_
    rintro e w' ⟨rfl, rfl⟩
    exact ⟨Touch.refl _ _, .inr ⟨fun ⟨l, h, _⟩ => suf_not hsf ⟨l, h⟩, rfl⟩⟩
  | true =>
    have hl := suf_of hsf
    obtain ⟨l, hle⟩ : ∃ l, Lib.trimSuffix line.data.toList [10] = l := ⟨_, rfl⟩
    rw [hle] at hl
    have e1 : okP i line.data.toList = okL i l := by rw [hl]; exact propext okP_line
    have e2 : line.data.toList.dropLast = l := by rw [hl]; simp
    rw [e1, e2]
    rcases (by omega : i = 0 ∨ i = 1 ∨ i = 2 ∨ 3 ≤ i) with rfl | rfl | rfl | h3
    · exact read_0 b B j l line w hv hJ hbB hBw hs hl
    · exact read_1 b B j l line w hv hJ hbB hBw hs hl
    · exact read_2 b B j l line w hv hJ hbB hBw hs hl
    · exact read_3 b B j l line w hv hJ hbB hBw hs hl _ (by simp; omega) (by simp; omega) (by simp; omega) i h3

attribute [local go_sem] Oper.semAt_some
set_option maxHeartbeats 1000000 in
theorem lines_in (n : Nat) (s : ByteArray) (w : World) :
    CallsIn Fence.wide n Tryd.prog 16 #[.string s] w fun e w' => e = .returned (.func (.func 23) #[] #[.pointer (some ⟨w.heap.size, 0, none⟩)]) ∧ w' = w.alloc (.cells #[.string s] 9) := by
  refine callsIn_of_wp Tryd.func16 rfl trivial ?_ rfl
  simp only [Tryd.ntmps16, List.size_toArray, List.length_cons, List.length_nil, Nat.reduceAdd, Nat.reduceSub, Array.replicate_succ, Array.replicate_zero, List.push_toArray, List.append_toArray, List.nil_append, List.cons_append]
  gi_wp2
  go_ret
  exact ⟨rfl, rfl⟩
def encL2 (x : Ln) : Array Value := #[.int .i64 ((x.1.1 : Int) + 1), .string (mk x.1.2)]
def MvS (bs : Nat) (A B : World) : Prop := ∃ v, (A.cell? ⟨bs, 0, none⟩).isSome ∧ B = A.setCell ⟨bs, 0, none⟩ v
def SameS (bs : Nat) (A B : World) : Prop := B.heap[bs]? = A.heap[bs]?
theorem drop_next {s rest p r : List UInt8} {k : Nat} (h : (pieces s).drop k = pieces rest) (hp : pieces rest = p :: pieces r) : (pieces s).drop (k + 1) = pieces r ∧ (pieces s).getD k [] = p ∧ k < (pieces s).length := by
  rw [hp] at h
  have hlt : k < (pieces s).length := by
    rcases Nat.lt_or_ge k (pieces s).length with h1 | h1
    · exact h1
    · rw [List.drop_eq_nil_of_le h1] at h; cases h
  rw [List.drop_eq_getElem_cons hlt] at h
  injection h with h1 h2
  exact ⟨h2, by rw [List.getD_eq_getElem?_getD, List.getElem?_eq_getElem hlt, h1]; rfl, hlt⟩
set_option maxRecDepth 100000 in
set_option maxHeartbeats 4000000 in
theorem lines1_in (n : Nat) (hn : 1 ≤ n) (l bs : Nat) (s : List UInt8) (hs : s.length ≤ 100000) (hs2 : s.length ≤ 100000) (J Jx : List Ln → World → Prop) (hJM : ∀ pre A B, J pre A → MvS bs A B → J pre B)
    (hY : ∀ pre x W, J pre W → pre.length < (pieces s).length → YieldAt Fence.wide (n - 1) Tryd.prog l (encL2 x) W fun e W' =>
      (e = .returned (.bool true) ∧ J (pre ++ [x]) W' ∧ SameS bs W W') ∨ (e = .returned (.bool false) ∧ Jx (pre ++ [x]) W'))
    (W : World) (hx : Blk W bs #[.string (mk s)] 9) (h0 : J [] W) :
    CallsIn Fence.wide n Tryd.prog 23 #[.func (.yield l) #[] #[], .pointer (some ⟨bs, 0, none⟩)] W fun e W' => (∃ v, e = .returned v) ∧
      ((∃ zs, zs = upP s hs2 (pieces s).length ∧ J zs W') ∨ (∃ pre, (∃ k, k ≤ (pieces s).length ∧ pre = upP s hs2 k) ∧ Jx pre W')) := by
  have hpl := pieces_le s
  refine callsIn_of_wp Tryd.func23 rfl trivial ?_ rfl
  simp only [Tryd.ntmps23, List.size_toArray, List.length_cons, List.length_nil, Nat.reduceAdd, Nat.reduceSub, Array.replicate_succ, Array.replicate_zero, List.push_toArray, List.append_toArray, List.nil_append, List.cons_append]
  gi_wp2
  gi_loopw [3] (fun nv wr => ∃ (k : Nat) (rest : List UInt8), k ≤ (pieces s).length ∧ nv = .int .i64 ((k : Int) + 1) ∧ (pieces s).drop k = pieces rest ∧ rest.length ≤ s.length ∧ Blk wr bs #[.string (mk rest)] 9 ∧ J (upP s hs2 k) wr) (fun nv _ => (pieces s).length + 1 - (intOf nv).toNat)
  case atStart => exact ⟨0, s, Nat.zero_le _, rfl, rfl, Nat.le_refl _, hx, h0⟩
  case round =>
    obtain ⟨k, rest, hk, rfl, hd, hrl, hb, hJ⟩ := hrel
    cases hrest : rest with
    | nil =>
      subst hrest
      have hkN : k = (pieces s).length := by
        have := congrArg List.length hd
        rw [List.length_drop, pieces_nil] at this
        simp at this
        omega
      have hb0 := hb.cell (i := 0) rfl
      rw [show mk [] = ⟨#[]⟩ from rfl] at hb0
      gi_wp2
      go_end0
      exact ⟨⟨_, rfl⟩, .inl ⟨_, rfl, by rw [← hkN]; exact hJ⟩⟩
    | cons c t =>
      have hne : rest ≠ [] := by rw [hrest]; simp
      clear hrest
      obtain ⟨S, hS⟩ : ∃ S, mk rest = S := ⟨_, rfl⟩
      have HSS := Lib.hid hS
      have hsl : S.size = rest.length := by rw [← hS, mk_size]
      have HSL := Lib.hid hsl
      have hsz : 1 ≤ S.size := by have := List.length_pos_iff.2 hne; omega
      have hem := emF (s := S) (by intro e; rw [e] at hsz; simp at hsz)
      have hnl := nlF (s := S) (by intro e; rw [e] at hsz; simp at hsz)
      have hsz3 : S.size ≤ 100000 := by omega
      rw [hS] at hb
      rcases ixb rest 10 with ⟨h1, h2⟩ | ⟨a, r, rfl, h2, h3⟩
      · have hpc : pieces rest = rest :: pieces [] := by rw [pieces_rest _ h2 hne, pieces_nil]
        have HIX : Hid (Lib.indexByte S.data.toList (Int.toNat 10).toUInt8 = -1) := Lib.hid (by rw [← hS, mk_list]; exact h1)
        have HBND : k < 1000000 ∧ rest.length ≤ 100000 := ⟨by omega, by omega⟩
        have HRL : Hid (([] : List UInt8).length ≤ s.length) := Lib.hid (by simp)
        obtain ⟨P, hP⟩ : ∃ P, mk rest = P := ⟨_, rfl⟩
        obtain ⟨Z, hZ⟩ : ∃ Z, S.size = Z := ⟨_, rfl⟩
        have hx1 : S.extract 0 Z = P := by rw [← hZ, ← hP, ← hS]; exact (show (mk rest).extract 0 (mk rest).size = mk rest from bytes_eq (by rw [mk_size, mk_list]; simp [mk]))
        have HS2 : Hid (mk [] = ByteArray.empty) := Lib.hid rfl
        have hzz : (0 : Int) ≤ (Z : Int) := by omega
        rw [hZ] at hsz hsz3
        clear h1 h2 hS hsl
        have HNX := Lib.hid (drop_next hd hpc)
        have hup : upP s hs2 (k + 1) = upP s hs2 k ++ [⟨(k, rest), HBND⟩] := upP_succ s hs2 k (by omega) _ HNX.out.2.1 HBND
        have HUP := Lib.hid hup
        obtain ⟨fn, tmps, assign, body, hyy, hR⟩ := hY _ ⟨(k, rest), HBND⟩ wr hJ (by rw [upP_len _ _ _ (by omega)]; exact HNX.out.2.2)
        unfold encL2 at hyy
        dsimp only at hyy
        have HX1 : Hid (mk (rest) = P) := Lib.hid hP
        rw [hP] at hyy
        have HBK := Lib.hid hb
        have hb0 := hb.cell (i := 0) rfl
        have HHD := Lib.hid hd
        have HPC := Lib.hid hpc
        have HJJ := Lib.hid hJ
        have vk : IntKind.i64.wrap ((k : Int) + 1 + 1) = ((k + 1 : Nat) : Int) + 1 := by rw [IntWalk.i64_in _ (by omega)]; omega
        clear hpc hup hb hd hJ hP
        gi_wp2_with (refine ⟨trivial, ?_⟩; gi_at_call 24; refine (callsIn_wide.2 (Tryd.strings_IndexByte S 10 _)).mono ?_; rintro e w' ⟨rfl, rfl⟩; rw [HIX.out])
        refine hR.mono ?_
        rintro e W3 (⟨rfl, hJ3, hk3⟩ | ⟨rfl, hJx3⟩)
        · have hb3 : Blk W3 bs #[.string S] 9 := (show W3.heap[bs]? = _ from hk3.trans HBK.out)
          have hc3 := hb3.cell (i := 0) rfl
          have hf3 := hb3.free 0
          have HB3 := Lib.hid (hb3.set 0 (.string ByteArray.empty))
          have HJ3 := Lib.hid (hJM _ W3 (W3.setCell ⟨bs, 0, none⟩ (.string ByteArray.empty)) hJ3 ⟨_, by rw [hc3]; rfl, rfl⟩)
          clear hb3 hJ3 hk3
          gi_wp2
          go_roundw
          case rel => exact ⟨k + 1, [], HNX.out.2.2, rfl, HNX.out.1, by have := HRL.out; omega, by rw [HS2.out]; exact HB3.out, by rw [HUP.out]; exact HJ3.out⟩
          case measure => have := HNX.out.2.2; simp [intOf]; omega
        · gi_wp2
          refine bodyPost_ret (results_none rfl _ _ _) rfl ?_
          exact ⟨⟨_, rfl⟩, .inr ⟨_, ⟨k + 1, HNX.out.2.2, HUP.out.symm⟩, hJx3⟩⟩
      · obtain ⟨m, hm⟩ : ∃ m, a.length + 1 = m := ⟨_, rfl⟩
        obtain ⟨al, hal⟩ : ∃ al, a.length = al := ⟨_, rfl⟩
        have hpc : pieces (a ++ 10 :: r) = (a ++ [10]) :: pieces r := pieces_line a r h2
        have HIX : Hid (Lib.indexByte S.data.toList (Int.toNat 10).toUInt8 = (al : Int)) := Lib.hid (by rw [← hS, mk_list, ← hal]; exact h3)
        have hlen : (a ++ 10 :: r).length = m + r.length := by simp; omega
        have HBND : k < 1000000 ∧ (a ++ [10]).length ≤ 100000 := ⟨by omega, by simp; omega⟩
        have HRL : Hid (r.length ≤ s.length) := Lib.hid (by omega)
        obtain ⟨P, hP⟩ : ∃ P, mk (a ++ [10]) = P := ⟨_, rfl⟩
        obtain ⟨Z, hZ⟩ : ∃ Z, S.size = Z := ⟨_, rfl⟩
        have hx1 : S.extract 0 m = P := by
          rw [← hP, ← hS, ← hm, show a ++ 10 :: r = (a ++ [10]) ++ r from by simp, show a.length + 1 = (a ++ [10]).length from by simp]
          exact ex_front _ _
        obtain ⟨S2, hS2⟩ : ∃ S2, S.extract m Z = S2 := ⟨_, rfl⟩
        have HS2 : Hid (mk r = S2) := Lib.hid (by
          rw [← hS2, ← hZ, ← hS, ← hm, show a ++ 10 :: r = (a ++ [10]) ++ r from by simp, show a.length + 1 = (a ++ [10]).length from by simp]
          exact (ex_back _ _).symm)
        have vm : IntKind.i64.wrap ((al : Int) + 1) = (m : Int) := by rw [IntWalk.i64_in _ (by omega)]; omega
        have hmz : m ≤ Z := by omega
        have hmz2 : (m : Int) ≤ (Z : Int) := by omega
        have hm0 : (0 : Int) ≤ (m : Int) := by omega
        have ha0 : (0 : Int) ≤ (al : Int) := by omega
        rw [hZ] at hsz hsz3
        clear h2 h3 hS hsl hm hal hlen
        have HNX := Lib.hid (drop_next hd hpc)
        have hup : upP s hs2 (k + 1) = upP s hs2 k ++ [⟨(k, a ++ [10]), HBND⟩] := upP_succ s hs2 k (by omega) _ HNX.out.2.1 HBND
        have HUP := Lib.hid hup
        obtain ⟨fn, tmps, assign, body, hyy, hR⟩ := hY _ ⟨(k, a ++ [10]), HBND⟩ wr hJ (by rw [upP_len _ _ _ (by omega)]; exact HNX.out.2.2)
        unfold encL2 at hyy
        dsimp only at hyy
        have HX1 : Hid (mk (a ++ [10]) = P) := Lib.hid hP
        rw [hP] at hyy
        have HBK := Lib.hid hb
        have hb0 := hb.cell (i := 0) rfl
        have HHD := Lib.hid hd
        have HPC := Lib.hid hpc
        have HJJ := Lib.hid hJ
        have vk : IntKind.i64.wrap ((k : Int) + 1 + 1) = ((k + 1 : Nat) : Int) + 1 := by rw [IntWalk.i64_in _ (by omega)]; omega
        clear hpc hup hb hd hJ hP
        gi_wp2_with (refine ⟨trivial, ?_⟩; gi_at_call 24; refine (callsIn_wide.2 (Tryd.strings_IndexByte S 10 _)).mono ?_; rintro e w' ⟨rfl, rfl⟩; rw [HIX.out])
        refine hR.mono ?_
        rintro e W3 (⟨rfl, hJ3, hk3⟩ | ⟨rfl, hJx3⟩)
        · have hb3 : Blk W3 bs #[.string S] 9 := (show W3.heap[bs]? = _ from hk3.trans HBK.out)
          have hc3 := hb3.cell (i := 0) rfl
          have hf3 := hb3.free 0
          have HB3 := Lib.hid (hb3.set 0 (.string S2))
          have HJ3 := Lib.hid (hJM _ W3 (W3.setCell ⟨bs, 0, none⟩ (.string S2)) hJ3 ⟨_, by rw [hc3]; rfl, rfl⟩)
          clear hb3 hJ3 hk3
          gi_wp2
          go_roundw
          case rel => exact ⟨k + 1, r, HNX.out.2.2, rfl, HNX.out.1, by have := HRL.out; omega, by rw [HS2.out]; exact HB3.out, by rw [HUP.out]; exact HJ3.out⟩
          case measure => have := HNX.out.2.2; simp [intOf]; omega
        · gi_wp2
          refine bodyPost_ret (results_none rfl _ _ _) rfl ?_
          exact ⟨⟨_, rfl⟩, .inr ⟨_, ⟨k + 1, HNX.out.2.2, HUP.out.symm⟩, hJx3⟩⟩
end Go.Proofs.YtnhbnggkaomfcaaDoor
