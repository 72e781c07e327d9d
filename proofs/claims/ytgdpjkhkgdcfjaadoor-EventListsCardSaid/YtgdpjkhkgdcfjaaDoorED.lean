/-
  The program's parts: a text cut at its blanks, five times at most.
-/
import Derived.Test.YtgdpjkhkgdcfjaaDoorEB
import Derived.Lib.OthersKept
set_option linter.unusedVariables false
namespace Go.Proofs.YtgdpjkhkgdcfjaaDoor
open Go Go.RowKit

theorem Ws.touchS {w w' : World} {base : Nat} {v : Value} {l : List ByteArray} {S : List Nat} (h : Ws w base v l) (ht : Touch S w w') (hs : ∀ k ∈ S, k < base) : Ws w' base v l := Av.touch h ht (fun k hk hm => by have := (Av.own h k hk).1; have := hs k hm; omega)
theorem Ws.mono {w : World} {base base' : Nat} {v : Value} {l : List ByteArray} (h : Ws w base v l) (hb : base' ≤ base) : Ws w base' v l := Av.mono h hb
theorem Ws.nil (w : World) (base : Nat) : Ws w base (.slice none 0 0) [] := Av.nil _ _ _ _ _
/-- One string more, of a slice whose blocks lie from B on. -/
theorem str_born2 (B : Nat) (wd : World) (v : Value) (l : List ByteArray) (x : ByteArray) (h : Ws wd B v l) (hB : B ≤ wd.heap.size) (hn : l.length ≤ 100000000000) :
    ∃ v' w2, (∀ ty, (Builtin.append_ #[40, 40] ty #[v, .slice (some ⟨wd.heap.size, 0, none⟩) 1 1]).run Tryd.prog (wd.alloc (.cells #[.string x] 9)) = .ok v' w2) ∧
      Ws w2 B v' (l ++ [x]) ∧ Touch v.ownBlock.toList wd w2 ∧ ∃ a c, v' = .slice a (l.length + 1) c := by
  obtain ⟨i, z, hi, hz, h5, hz5, h64⟩ := infoStr
  have bp : Blk (wd.alloc (.cells #[.string x] 9)) wd.heap.size #[.string x] 9 := Blk.new rfl
  have t3 : Touch [] wd (wd.alloc (.cells #[.string x] 9)) := (Touch.refl _ _).alloc _
  obtain ⟨v2, w2, r2, A2, g2, o2⟩ := Av.append (t := 40) Tryd.underlying40 hi hz h5 rfl hz5 (h.touch t3) (by simp; omega) ⟨wd.heap.size, 0, none⟩ 1 (fun _ => .string x) (fun j hj => by
    rw [Addr.add_lit, Nat.zero_add]
    obtain rfl : j = 0 := by omega
    exact bp.cell rfl) (fun j hj => rfl) (by have := Nat.mul_le_mul_left (l.length + 1) h64; omega) (by omega)
  refine ⟨v2, w2, r2, ?_, (t3.mono (by simp)).trans (Touch.grown (S := v.ownBlock.toList) (Touch.refl _ _) g2 (fun k hk _ => by simp [hk])), ?_⟩
  · unfold Ws
    rw [show (l ++ [x]).length = l.length + 1 from by simp]
    refine Av.congr A2 fun a ha j hj => ?_
    by_cases e : a = l.length
    · subst e; rw [addV_new]; simp
    · rw [addV_old _ _ _ e, List.getD_eq_getElem?_getD, List.getD_eq_getElem?_getD, List.getElem?_append_left (by omega)]
  · obtain ⟨a2, c2, e2, _⟩ := A2.form
    exact ⟨a2, c2, e2⟩
theorem touch_iterAt (w : World) (k : Nat) (s : ByteArray) (pos : Nat) : Touch [k] w (w.iterAt k s pos) :=
  ⟨rfl, rfl, rfl, by rw [Lib.iterAt_size]; exact Nat.le_refl _, fun i _ hn => Lib.iterAt_other w k i s pos (by simpa using hn)⟩
theorem touch_iter (w : World) (s : ByteArray) (pos : Nat) : Touch [] w (w.iter s pos) := (Touch.refl [] w).alloc _
def PartsP (s : ByteArray) (w : World) (e : Ending) (w' : World) : Prop := ∃ v l, e = .returned v ∧ Ws w' w.heap.size v l ∧ Touch [] w w' ∧ ((l = (words s.data.toList).map mk ∧ (words s.data.toList).length ≤ 5) ∨ (l.length = 6 ∧ 6 ≤ (words s.data.toList).length))
set_option maxHeartbeats 16000000 in
set_option maxRecDepth 100000 in
theorem parts_any (s : ByteArray) (w : World) (hs : s.size ≤ 1000000) : Calls Tryd.prog 21 #[.string s] w (PartsP s w) := by
  have hsz : s.data.toList.length = s.size := by rw [Array.length_toList]; rfl
  have HZ := Lib.hid hsz
  clear hsz
  go_enter Tryd.func21, Tryd.ntmps21
  go_wp2
  go_loopw [3, 4] (fun lv fv wr => ∃ (f pos : Nat) (done : List (List UInt8)), fv = .int .i64 (f : Int) ∧ Ws wr (w.heap.size + 1) lv (done.map mk) ∧ wr.heap[w.heap.size]? = some (.stringIter s pos) ∧ Touch [] w wr ∧ w.heap.size + 1 ≤ wr.heap.size ∧ Cuts s.data.toList f pos done) (fun _ _ wr => s.size - wr.iterPos w.heap.size)
  case atStart =>
    refine ⟨0, 0, [], rfl, Ws.nil _ _, ?_, touch_iter w s 0, ?_, Cuts.zero _⟩
    · exact World.iter_heap w s 0
    · have := touch_iter w s 0
      simp [World.iter]
  case round =>
    obtain ⟨f, pos, done, rfl, ha, hit, ht, hsz, hcut⟩ := hrel
    have HA := Lib.hid ha
    have HIT := Lib.hid hit
    have HT := Lib.hid ht
    have HC := Lib.hid hcut
    obtain ⟨va, vc, hv⟩ := ha.form
    subst hv
    obtain ⟨n, hn⟩ : ∃ n, (done.map mk).length = n := ⟨_, rfl⟩
    have hn5 : n ≤ 5 := by rw [← hn]; simpa using hcut.few
    have hnd : done.length = n := by rw [← hn]; simp
    have HN := Lib.hid hn
    have HND := Lib.hid hnd
    have hfp := hcut.from_
    have hup : pos ≤ s.size := by have := hcut.up; rw [HZ.out] at this; exact this
    rw [hn]
    by_cases hp : pos < s.size
    · have hnx : ∀ ty, (Instr.next (.pointer (some ⟨w.heap.size, 0, none⟩)) true ty).run Tryd.prog wr = _ := fun ty => Lib.run_next_any_at wr w.heap.size s pos ty hit hp
      have hpl : pos < s.data.toList.length := by rw [HZ.out]; exact hp
      have hd1 := decode_le s pos
      have ht2 := touch_iterAt wr w.heap.size s (pos + (Utf8.decode s pos).2)
      have HA2 := Lib.hid (ha.touchS ht2 (by simp))
      have HIT2 := Lib.hid (Lib.iterAt_heap wr w.heap.size s pos (pos + (Utf8.decode s pos).2) hit)
      have HT2 := Lib.hid (ht.transF ht2 (fun i hi hl => by simp at hi; omega))
      have hsz2 : w.heap.size + 1 ≤ (wr.iterAt w.heap.size s (pos + (Utf8.decode s pos).2)).heap.size := by rw [Lib.iterAt_size]; exact hsz
      by_cases hb : s.data.toList[pos] = 32
      · have hdec := rune_blank s pos hp hpl hb
        rw [hdec] at hnx HA2 HIT2 HT2 hsz2
        obtain ⟨W, hW⟩ : ∃ W, wr.iterAt w.heap.size s (pos + 1) = W := ⟨_, rfl⟩
        have hnx' : ∀ ty, (Instr.next (.pointer (some ⟨w.heap.size, 0, none⟩)) true ty).run Tryd.prog wr = .ok (.tuple #[.bool true, .int .i64 (pos : Int), .int .i32 32]) W := fun ty => by rw [← hW]; exact hnx ty
        have HW2 : Hid (Ws W (w.heap.size + 1) (.slice va (done.map mk).length vc) (done.map mk)) := Lib.hid (by rw [← hW]; exact HA2.out)
        have HIW : Hid (W.heap[w.heap.size]? = some (.stringIter s (pos + 1))) := Lib.hid (by rw [← hW]; exact HIT2.out)
        have HTW : Hid (Touch [] w W) := Lib.hid (by rw [← hW]; exact HT2.out)
        have hsW : w.heap.size + 1 ≤ W.heap.size := by rw [← hW]; exact hsz2
        have HIP : Hid (wr.iterPos w.heap.size = pos) := Lib.hid (by simp only [World.iterPos, hit])
        clear hnx hW ht2 HA2 HIT2 HT2 hsz2 hdec
        by_cases hlt : n < 5
        · obtain ⟨v', w2, hr, hA3, hT3, a2, c2, hv2⟩ := str_born2 (w.heap.size + 1) W (.slice va (done.map mk).length vc) (done.map mk) (s.extract f pos) HW2.out hsW (by omega)
          subst hv2
          rw [hn] at hr hA3
          have HR := Lib.hid hr
          have HA3 := Lib.hid hA3
          have HCB := Lib.hid (hcut.blank (by omega) hpl hb)
          have HI3 : Hid (w2.heap[w.heap.size]? = some (.stringIter s (pos + 1))) := Lib.hid (by
            rw [hT3.block w.heap.size (by omega) (fun hm => by
              have := (Av.own HW2.out w.heap.size (by simpa using hm)).1
              omega)]
            exact HIW.out)
          have HT3 : Hid (Touch [] w w2) := Lib.hid (HTW.out.transF hT3 (fun i hi hl => by
            have := (Av.own HW2.out i (by simpa using hi)).1
            omega))
          have hs3 : w.heap.size + 1 ≤ w2.heap.size := by have := hT3.size; omega
          clear ha hit ht hcut hn hnd hr hA3 hT3 hb
          go_wp2_with (at_builtin; refine Lib.wpList_append_run _ rfl _ _ _ _ rfl _ _ rfl rfl _ _ (HR.out _) ?_)
          clear HR
          go_wp2
          go_roundw
          case rel =>
            refine ⟨pos + 1, pos + 1, _, by go_num, ?_, HI3.out, HT3.out, hs3, HCB.out⟩
            have := HA3.out
            rw [ex_mk s f pos hfp (by omega)] at this
            rw [List.map_append]
            exact this
          case measure =>
            rw [HIP.out]
            simp only [World.iterPos, HI3.out]
            omega
        · have HCF := Lib.hid (hcut.full (by omega) 1 (by rw [HZ.out]; omega))
          have h5 : decide ((n : Int) < 5) = false := dF (by omega)
          clear ha hit ht hcut hn hnd hb
          go_wp2
          go_roundw
          case rel =>
            refine ⟨f, pos + 1, done, rfl, ?_, HIW.out, HTW.out, hsW, HCF.out⟩
            have := HW2.out
            rw [HN.out] at this
            exact this
          case measure =>
            rw [HIP.out]
            simp only [World.iterPos, HIW.out]
            omega
      · obtain ⟨hr32, hwd, hle, hno⟩ := rune_other s pos hp hpl hb
        obtain ⟨r, wd, hdec⟩ : ∃ r wd, Utf8.decode s pos = (r, wd) := ⟨_, _, rfl⟩
        rw [hdec] at hnx HA2 HIT2 HT2 hsz2 hr32 hwd hle hno hd1
        simp only at hr32 hwd hle hno hd1 HA2 HIT2 HT2 hsz2
        obtain ⟨W, hW⟩ : ∃ W, wr.iterAt w.heap.size s (pos + wd) = W := ⟨_, rfl⟩
        have hnx' : ∀ ty, (Instr.next (.pointer (some ⟨w.heap.size, 0, none⟩)) true ty).run Tryd.prog wr = .ok (.tuple #[.bool true, .int .i64 (pos : Int), .int .i32 (r : Int)]) W := fun ty => by rw [← hW]; exact hnx ty
        have HW2 : Hid (Ws W (w.heap.size + 1) (.slice va (done.map mk).length vc) (done.map mk)) := Lib.hid (by rw [← hW]; exact HA2.out)
        have HIW : Hid (W.heap[w.heap.size]? = some (.stringIter s (pos + wd))) := Lib.hid (by rw [← hW]; exact HIT2.out)
        have HTW : Hid (Touch [] w W) := Lib.hid (by rw [← hW]; exact HT2.out)
        have hsW : w.heap.size + 1 ≤ W.heap.size := by rw [← hW]; exact hsz2
        have HIP : Hid (wr.iterPos w.heap.size = pos) := Lib.hid (by simp only [World.iterPos, hit])
        have HCO := Lib.hid (hcut.other wd (by rw [HZ.out]; exact hle) (fun j hj h => hno j hj h))
        have hr' : ((r : Int) == 32) = false := beqF (by omega)
        clear hnx hW ht2 HA2 HIT2 HT2 hsz2 hdec hno ha hit ht hcut hn hnd hb
        go_wp2
        go_roundw
        case rel =>
          refine ⟨f, pos + wd, done, rfl, ?_, HIW.out, HTW.out, hsW, HCO.out⟩
          have := HW2.out
          rw [HN.out] at this
          exact this
        case measure =>
          rw [HIP.out]
          simp only [World.iterPos, HIW.out]
          omega
    · obtain rfl : pos = s.size := by omega
      have hnx : ∀ ty, (Instr.next (.pointer (some ⟨w.heap.size, 0, none⟩)) true ty).run Tryd.prog wr = _ := fun ty => Lib.run_next_end_at wr w.heap.size s s.size ty hit (by omega)
      obtain ⟨v', w2, hr, hA3, hT3, a2, c2, hv2⟩ := str_born2 (w.heap.size + 1) wr (.slice va (done.map mk).length vc) (done.map mk) (s.extract f s.size) HA.out hsz (by omega)
      subst hv2
      rw [hn] at hr hA3
      have HR := Lib.hid hr
      have HA3 := Lib.hid hA3
      have HT3 : Hid (Touch [] w w2) := Lib.hid (HT.out.transF hT3 (fun i hi hl => by
        have := (Av.own HA.out i (by simpa using hi)).1
        omega))
      clear ha hit ht hcut hn hnd hr hA3 hT3
      go_wp2_with (at_builtin; refine Lib.wpList_append_run _ rfl _ _ _ _ rfl _ _ rfl rfl _ _ (HR.out _) ?_)
      clear HR
      go_wp2
      go_ret
      have hc := HC.out
      rw [← HZ.out] at hc
      have hex : s.extract f s.size = mk ((s.data.toList.drop f).take (s.data.toList.length - f)) := by rw [HZ.out]; exact ex_mk s f s.size (by omega) (Nat.le_refl _)
      refine ⟨_, done.map mk ++ [s.extract f s.size], rfl, ?_, HT3.out, ?_⟩
      · exact HA3.out.mono (Nat.le_succ w.heap.size)
      · rcases hc.fin with ⟨h1, h2⟩ | ⟨h1, h2⟩
        · exact .inl ⟨by rw [h1, hex, List.map_append]; rfl, h2⟩
        · refine .inr ⟨?_, h2⟩
          simp only [List.length_append, List.length_map, List.length_cons, List.length_nil] at h1 ⊢
          omega
end Go.Proofs.YtgdpjkhkgdcfjaaDoor
