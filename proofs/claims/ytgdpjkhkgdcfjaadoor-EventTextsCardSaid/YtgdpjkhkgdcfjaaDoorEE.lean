/-
  Events read: the program's Read.
-/
import Derived.Test.YtgdpjkhkgdcfjaaDoorED
set_option linter.unusedVariables false
namespace Go.Proofs.YtgdpjkhkgdcfjaaDoor
open Go Go.RowKit

def rdEV : Option Ev → Value
  | none => .tuple #[.agg #[.int .i64 0, .int .i64 0, .int .i64 0, .int .i64 0, .int .i64 0], .bool false]
  | some (at', kind, pid, a, b) => .tuple #[.agg #[.int .i64 at', .int .i64 kind, .int .i64 pid, .int .i64 a, .int .i64 b], .bool true]
def ReadEP (r : Option Ev) (w : World) (e : Ending) (w' : World) : Prop := e = .returned (rdEV r) ∧ Touch [] w w'
theorem Touch.setNew5 {a w : World} {b : Nat} (h : Touch [] a w) (hb : a.heap.size ≤ b) (x y z u v : Value) : Touch [] a (((((w.setCell ⟨b, 0, none⟩ x).setCell ⟨b, 1, none⟩ y).setCell ⟨b, 2, none⟩ z).setCell ⟨b, 3, none⟩ u).setCell ⟨b, 4, none⟩ v) :=
  ((((h.setNew (p := ⟨b, 0, none⟩) hb x).setNew (p := ⟨b, 1, none⟩) hb y).setNew (p := ⟨b, 2, none⟩) hb z).setNew (p := ⟨b, 3, none⟩) hb u).setNew (p := ⟨b, 4, none⟩) hb v
/-- What number leaves. -/
def NumberP (r : Bool) (b o : Nat) (x : Int) (w : World) (e : Ending) (w' : World) : Prop := ∃ w1, e = .returned (.bool r) ∧ Touch [] w w1 ∧ w' = w1.setCell ⟨b, o, none⟩ (.int .i64 x)
def NumberBad (b o : Nat) (w : World) (e : Ending) (w' : World) : Prop := ∃ x w1, e = .returned (.bool false) ∧ Touch [] w w1 ∧ w' = w1.setCell ⟨b, o, none⟩ (.int .i64 x)
set_option maxHeartbeats 2000000 in
theorem number_ok (p : ByteArray) (hp : p.size ≤ 1000000) (v : Int) (h : Lib.atoiAll p.data.toList = .ok v) (b o : Nat) (c : Array Value) (T : TypeId) (w : World) (hb : Blk w b c T) (y : Value) (hc : c[o]? = some y) : Calls Tryd.prog 22 #[.string p, .pointer (some ⟨b, o, none⟩)] w (NumberP true b o v w) := by
  have HB := Lib.hid hb
  clear hb
  go_enter Tryd.func22, Tryd.ntmps22
  go_wp2_with fail
  refine (atoi_ok p hp v h _).mono ?_
  rintro e w1 ⟨rfl, ht⟩
  have hb1 := HB.out.touch ht (by simp)
  have c0 := hb1.cell hc
  have f0 := hb1.free o
  have HT := Lib.hid ht
  clear ht hb1
  go_wp2
  go_ret
  exact ⟨w1, rfl, HT.out, rfl⟩
set_option maxHeartbeats 2000000 in
theorem number_bad (p : ByteArray) (hp : p.size ≤ 1000000) (h : ∀ x, Lib.atoiAll p.data.toList ≠ .ok x) (b o : Nat) (c : Array Value) (T : TypeId) (w : World) (hv : Vs w) (hb : Blk w b c T) (y : Value) (hc : c[o]? = some y) : Calls Tryd.prog 22 #[.string p, .pointer (some ⟨b, o, none⟩)] w (NumberBad b o w) := by
  have HB := Lib.hid hb
  clear hb
  go_enter Tryd.func22, Tryd.ntmps22
  go_wp2_with fail
  refine (atoi_bad p hp h _ hv).mono ?_
  rintro e w1 ⟨v, N, t, rfl, ht⟩
  have hb1 := HB.out.touch ht (by simp)
  have c0 := hb1.cell hc
  have f0 := hb1.free o
  have HT := Lib.hid ht
  clear ht hb1
  go_wp2
  go_ret
  exact ⟨v, w1, rfl, HT.out, rfl⟩
/-- An event's cells when the first i of its numbers are read. -/
def cE (kd a p x y : Int) : Nat → Array Value
  | 0 => #[.int .i64 0, .int .i64 kd, .int .i64 0, .int .i64 0, .int .i64 0]
  | 1 => #[.int .i64 a, .int .i64 kd, .int .i64 0, .int .i64 0, .int .i64 0]
  | 2 => #[.int .i64 a, .int .i64 kd, .int .i64 0, .int .i64 0, .int .i64 0]
  | 3 => #[.int .i64 a, .int .i64 kd, .int .i64 p, .int .i64 0, .int .i64 0]
  | 4 => #[.int .i64 a, .int .i64 kd, .int .i64 p, .int .i64 x, .int .i64 0]
  | _ => #[.int .i64 a, .int .i64 kd, .int .i64 p, .int .i64 x, .int .i64 y]
set_option maxHeartbeats 32000000 in
set_option maxRecDepth 100000 in
theorem eread_any (s : ByteArray) (hs : s.size ≤ 1000000) (w : World) (hv : Vs w) : Calls Tryd.prog 10 #[.string s] w (ReadEP (rdE s) w) := by
  have t0 := (Touch.refl [] w).alloc (.cells #[.int .i64 0, .int .i64 0, .int .i64 0, .int .i64 0, .int .i64 0] 23)
  have hb2 : Blk (w.alloc (.cells #[.int .i64 0, .int .i64 0, .int .i64 0, .int .i64 0, .int .i64 0] 23)) w.heap.size #[.int .i64 0, .int .i64 0, .int .i64 0, .int .i64 0, .int .i64 0] 23 := Blk.new rfl
  have HV := Lib.hid hv
  have HT0 := Lib.hid t0
  have HB2 := Lib.hid hb2
  clear hv t0 hb2
  go_enter Tryd.func10, Tryd.ntmps10
  go_wp2_with fail
  refine (parts_any s _ hs).mono ?_
  rintro e w1 ⟨v1, l, rfl, hws, ht1, hl⟩
  obtain ⟨a1, cp, hv1⟩ := hws.form
  subst hv1
  have HT1 := Lib.hid (HT0.out.trans ht1)
  have HB2 := Lib.hid (HB2.out.touch ht1 (by simp))
  have hsz1 : w.heap.size + 1 ≤ w1.heap.size := by have := ht1.size; simpa using this
  obtain ⟨n, hn⟩ : ∃ n, l.length = n := ⟨_, rfl⟩
  have HW := Lib.hid hws
  have HL := Lib.hid hl
  have HN := Lib.hid hn
  rw [hn]
  clear hws ht1 hl hn
  by_cases h5 : n = 5
  · subst h5
    obtain ⟨w0, w1', w2', w3', w4', hw⟩ : ∃ a b c d e, words s.data.toList = [a, b, c, d, e] := by
      rcases HL.out with ⟨e, _⟩ | ⟨e, _⟩
      · have hlen : (words s.data.toList).length = 5 := by have := HN.out; rw [e] at this; simpa using this
        match words s.data.toList, hlen with
        | [a, b, c, d, e], _ => exact ⟨a, b, c, d, e, rfl⟩
      · have := HN.out; omega
    have hlw : l = [mk w0, mk w1', mk w2', mk w3', mk w4'] := by
      rcases HL.out with ⟨e, _⟩ | ⟨e, _⟩
      · rw [e, hw]; rfl
      · have := HN.out; omega
    have hsz : ∀ x ∈ [w0, w1', w2', w3', w4'], (mk x).size ≤ 1000000 := fun x hx => by
      have := words_mem_len s.data.toList x (by rw [hw]; exact hx)
      have hs' : s.data.toList.length = s.size := by rw [Array.length_toList]; rfl
      have e : (mk x).size = x.length := by
        show (mk x).data.size = _
        rw [← Array.length_toList, mk_list]
      omega
    have HS0 := Lib.hid (hsz w0 (by simp))
    have HS2 := Lib.hid (hsz w2' (by simp))
    have HS3 := Lib.hid (hsz w3' (by simp))
    have HS4 := Lib.hid (hsz w4' (by simp))
    have hse : ¬ s = ByteArray.empty := fun e => by
      rw [e] at hw
      have := congrArg List.length hw
      simp [words] at this
    have HSE := Lib.hid hse
    have HWW := Lib.hid hw
    obtain ⟨g, hg, hcap, _⟩ := Ws.at HW.out (i := 0) (by have := HN.out; omega)
    subst hg
    have HC : Hid (∀ i, i < 5 → ∀ w', Touch [] w1 w' → w'.cell? ⟨g, i, none⟩ = some (.string (l.getD i ByteArray.empty))) := Lib.hid (fun i hi w' ht => by
      obtain ⟨g', hg', _, h⟩ := Ws.at HW.out (i := i) (by have := HN.out; omega)
      cases hg'
      exact h w' ht)
    have hgl : (w.heap.size < g ∧ g < w1.heap.size) := by
      have := Av.own HW.out g rfl
      exact ⟨by have := this.1; simp at this; omega, this.2⟩
    obtain ⟨hgl1, hgl2⟩ := hgl
    have HLW := Lib.hid hlw
    have hcap5 : 5 ≤ cp := by have := HN.out; omega
    obtain ⟨p1, hp1⟩ : ∃ p1, mk w1' = p1 := ⟨_, rfl⟩
    have HP1 := Lib.hid hp1
    clear hw hlw hsz hse hp1 hcap
    go_wp2
    go_loopw [15] (fun kv wr => ∃ k : Nat, k ≤ 7 ∧ kv = .int .i64 (k : Int) ∧ Blk wr w1.heap.size #[.int .i64 0, .int .i64 (kdN (k - 1) p1), .int .i64 0, .int .i64 0, .int .i64 0] 23 ∧ Blk wr w.heap.size #[.int .i64 0, .int .i64 0, .int .i64 0, .int .i64 0, .int .i64 0] 23 ∧ Touch [] w wr ∧ Touch [] w1 wr ∧ w1.heap.size < wr.heap.size) (fun kv _ => 8 - (intOf kv).toNat)
    case atStart => exact ⟨0, by omega, rfl, Blk.new rfl, HB2.out.alloc _, HT1.out.alloc _, (Touch.refl _ _).alloc _, by simp⟩
    case round =>
      obtain ⟨k, hk, rfl, hb5, hb2, ht, ht1, hsr⟩ := hrel
      have HB5r := Lib.hid hb5
      have HB2r := Lib.hid hb2
      have HTr := Lib.hid ht
      have HT1r := Lib.hid ht1
      have hvr := HV.out.touch ht
      clear hb5 hb2 ht ht1
      by_cases hlt : k < 7
      · have x0 : ∀ q : Later wr, q.world.cell? ⟨g, 1, none⟩ = some (.string p1) := fun q => by
          have := HC.out 1 (by omega) _ (HT1r.out.trans q.ok)
          rw [HLW.out] at this
          rw [this, ← HP1.out]; rfl
        have HCN : Hid (∀ q : Later wr, Calls Tryd.prog 8 #[.int .i64 (k : Int)] q.world fun e w' => e = .returned (.string (evS k)) ∧ q.world = w') := Lib.hid (fun q => by
          have := ename_any (k : Int) q.world (hvr.touch q.ok)
          rw [show evZ (k : Int) = evS k from by unfold evZ; rw [Int.toNat_natCast]] at this
          exact this)
        by_cases hpe : evS k = p1
        · have hst := strT hpe
          have HPE := Lib.hid hpe
          clear hpe
          go_wp2_with fail
          refine wp_region_later (by kernel_rfl) (by kernel_rfl) ?_
          repeat (first
            | (go_big_quiet_step ((first | (with_reducible rfl) | exact Later.same (HCN.out _))))
            | (quiet_step (fail)))
          refine wpQuiet_nil ?_
          intro wq hw'
          obtain ⟨⟨wq', hwq⟩, hwe⟩ := hw'
          have hwe : wq = wq' := hwe
          subst hwe
          have hb5 := HB5r.out.touch hwq (by simp)
          have d0 := hb5.cell (i := 1) rfl
          have g0 := hb5.free 1
          have HB5n := Lib.hid (hb5.set 1 (.int .i64 (k : Int)))
          have HB2n := Lib.hid ((HB2r.out.touch hwq (by simp)).other (a := ⟨w1.heap.size, 1, none⟩) (by show w.heap.size ≠ w1.heap.size; omega) (.int .i64 (k : Int)))
          have HTn := Lib.hid ((HTr.out.trans hwq).setNew (p := ⟨w1.heap.size, 1, none⟩) (by show w.heap.size ≤ w1.heap.size; omega) (.int .i64 (k : Int)))
          have HT1n := Lib.hid ((HT1r.out.trans hwq).setNew (p := ⟨w1.heap.size, 1, none⟩) (Nat.le_refl _) (.int .i64 (k : Int)))
          have hsn : w1.heap.size < wq.heap.size := by have := hwq.size; omega
          clear hwe hwq x0 hb5
          go_wp2
          go_roundw
          case rel =>
            refine ⟨k + 1, by omega, by go_num, ?_, HB2n.out, HTn.out, HT1n.out, by simpa [World.setCell] using hsn⟩
            have := HB5n.out
            rw [show kdN (k + 1 - 1) p1 = (k : Int) from by
              rw [Nat.add_sub_cancel]
              cases k with
              | zero => rfl
              | succ k => rw [kdN_succ, if_pos HPE.out.symm]]
            exact this
          case measure => simp [intOf] <;> omega
        · have hst := strF hpe
          have HPE := Lib.hid hpe
          clear hpe
          go_wp2_with fail
          refine wp_region_later (by kernel_rfl) (by kernel_rfl) ?_
          repeat (first
            | (go_big_quiet_step ((first | (with_reducible rfl) | exact Later.same (HCN.out _))))
            | (quiet_step (fail)))
          refine wpQuiet_nil ?_
          intro wq hw'
          obtain ⟨⟨wq', hwq⟩, hwe⟩ := hw'
          have hwe : wq = wq' := hwe
          subst hwe
          have HB5n := Lib.hid (HB5r.out.touch hwq (by simp))
          have HB2n := Lib.hid (HB2r.out.touch hwq (by simp))
          have HTn := Lib.hid (HTr.out.trans hwq)
          have HT1n := Lib.hid (HT1r.out.trans hwq)
          have hsn : w1.heap.size < wq.heap.size := by have := hwq.size; omega
          clear hwe hwq x0
          go_wp2
          go_roundw
          case rel =>
            refine ⟨k + 1, by omega, by go_num, ?_, HB2n.out, HTn.out, HT1n.out, hsn⟩
            have := HB5n.out
            rw [show kdN (k + 1 - 1) p1 = kdN (k - 1) p1 from by
              rw [Nat.add_sub_cancel]
              cases k with
              | zero => rfl
              | succ k => rw [kdN_succ, if_neg (fun e => HPE.out e.symm), Nat.add_sub_cancel]]
            exact this
          case measure => simp [intOf] <;> omega
      · obtain ⟨z, hz⟩ : ∃ z : Int, (k : Int) = z := ⟨_, rfl⟩
        rw [hz]
        obtain rfl : z = 7 := by omega
        clear hz
        obtain rfl : k = 7 := by omega
        obtain ⟨kd, hkd⟩ : ∃ kd, kdOf p1 = kd := ⟨_, rfl⟩
        have hb5 := HB5r.out
        rw [show kdN (7 - 1) p1 = kd from hkd] at hb5
        have HKD := Lib.hid hkd
        have HB5k := Lib.hid hb5
        have hsr0 := hsr
        obtain ⟨a, ha⟩ : ∃ a, av w0 = a := ⟨_, rfl⟩
        obtain ⟨p, hp⟩ : ∃ p, av w2' = p := ⟨_, rfl⟩
        obtain ⟨x, hx⟩ : ∃ x, av w3' = x := ⟨_, rfl⟩
        obtain ⟨y, hy⟩ : ∃ y, av w4' = y := ⟨_, rfl⟩
        have HAa := Lib.hid ha
        have HAp := Lib.hid hp
        have HAx := Lib.hid hx
        have HAy := Lib.hid hy
        have hb6 : Blk (wr.alloc (.cells #[.pointer (some ⟨w1.heap.size, 0, none⟩), .pointer none, .pointer (some ⟨w1.heap.size, 2, none⟩), .pointer (some ⟨w1.heap.size, 3, none⟩), .pointer (some ⟨w1.heap.size, 4, none⟩)] 42)) wr.heap.size #[.pointer (some ⟨w1.heap.size, 0, none⟩), .pointer none, .pointer (some ⟨w1.heap.size, 2, none⟩), .pointer (some ⟨w1.heap.size, 3, none⟩), .pointer (some ⟨w1.heap.size, 4, none⟩)] 42 := Blk.new rfl
        have HB6 := Lib.hid hb6
        obtain ⟨wk, hwk⟩ : ∃ wk : World, wk = wr := ⟨_, rfl⟩
        subst hwk
        clear hkd hb5 ha hp hx hy hb6
        go_wp2
        go_loopw [33] (fun kv wr => ∃ k : Nat, k ≤ 5 ∧ kv = .int .i64 (k : Int) ∧ Blk wr w1.heap.size (cE kd a p x y k) 23 ∧ Blk wr wk.heap.size #[.pointer (some ⟨w1.heap.size, 0, none⟩), .pointer none, .pointer (some ⟨w1.heap.size, 2, none⟩), .pointer (some ⟨w1.heap.size, 3, none⟩), .pointer (some ⟨w1.heap.size, 4, none⟩)] 42 ∧ Blk wr w.heap.size #[.int .i64 0, .int .i64 0, .int .i64 0, .int .i64 0, .int .i64 0] 23 ∧ Touch [] w wr ∧ Touch [] w1 wr ∧ wk.heap.size < wr.heap.size) (fun kv _ => 6 - (intOf kv).toNat)
        case atStart => exact ⟨0, by omega, rfl, HB5k.out.alloc _, HB6.out, HB2r.out.alloc _, HTr.out.alloc _, HT1r.out.alloc _, by simp⟩
        case round =>
          obtain ⟨i, hi, rfl, hb5, hb6, hb2, ht, ht1, hsq⟩ := hrel
          have HB6q := Lib.hid hb6
          have HB2q := Lib.hid hb2
          have HTq := Lib.hid ht
          have HT1q := Lib.hid ht1
          have hvq := HV.out.touch ht
          have hcw : ∀ j, j < 5 → wr.cell? ⟨g, j, none⟩ = some (.string (l.getD j ByteArray.empty)) := fun j hj => HC.out j hj _ ht1
          have HCW := Lib.hid hcw
          clear hb6 hb2 ht ht1 hcw
          rcases (by omega : i = 0 ∨ i = 1 ∨ i = 2 ∨ i = 3 ∨ i = 4 ∨ i = 5) with rfl | rfl | rfl | rfl | rfl | rfl
          · have HB5q : Hid (Blk wr w1.heap.size (cE kd a p x y 0) 23) := Lib.hid hb5
            have e0 := HB6q.out.cell (i := 0) rfl
            have e1 : wr.cell? ⟨g, 0, none⟩ = some (.string (mk w0)) := by
              have := HCW.out 0 (by omega)
              rw [HLW.out] at this
              exact this
            clear hb5
            cases hat : Lib.atoiAll w0 with
            | ok v =>
              have hav : v = a := by rw [← HAa.out]; exact (av_ok hat).symm
              have HAT : Hid (Lib.atoiAll (mk w0).data.toList = .ok v) := Lib.hid (by rw [mk_list]; exact hat)
              clear hat
              go_wp2_with fail
              refine (number_ok (mk w0) HS0.out v HAT.out _ _ _ _ _ HB5q.out _ rfl).mono ?_
              rintro e w4 ⟨w5, rfl, ht5, rfl⟩
              have HB5n : Hid (Blk (w5.setCell ⟨w1.heap.size, 0, none⟩ (.int .i64 v)) w1.heap.size (cE kd a p x y 1) 23) := Lib.hid (by
                have := (HB5q.out.touch ht5 (by simp)).set 0 (.int .i64 v)
                rw [hav] at this ⊢
                exact this)
              have HB6n := Lib.hid ((HB6q.out.touch ht5 (by simp)).other (a := ⟨w1.heap.size, 0, none⟩) (by show wk.heap.size ≠ w1.heap.size; omega) (.int .i64 v))
              have HB2n := Lib.hid ((HB2q.out.touch ht5 (by simp)).other (a := ⟨w1.heap.size, 0, none⟩) (by show w.heap.size ≠ w1.heap.size; omega) (.int .i64 v))
              have HTn := Lib.hid ((HTq.out.trans ht5).setNew (p := ⟨w1.heap.size, 0, none⟩) (by show w.heap.size ≤ w1.heap.size; omega) (.int .i64 v))
              have HT1n := Lib.hid ((HT1q.out.trans ht5).setNew (p := ⟨w1.heap.size, 0, none⟩) (Nat.le_refl _) (.int .i64 v))
              have hsn : wk.heap.size < w5.heap.size := by have := ht5.size; omega
              clear ht5 hav
              go_wp2
              go_roundw
              case rel => exact ⟨1, by omega, by go_num, HB5n.out, HB6n.out, HB2n.out, HTn.out, HT1n.out, by simpa [World.setCell] using hsn⟩
              case measure => simp [intOf] <;> omega
            | range =>
              have hbad : ∀ x, Lib.atoiAll w0 ≠ .ok x := fun x e => by rw [hat] at e; cases e
              clear hat
              have HR : Hid (rdE s = none) := Lib.hid (rdE_bad HWW.out (.inl (numL_of_bad hbad)))
              go_wp2_with fail
              refine (number_bad (mk w0) HS0.out (by rw [mk_list]; exact hbad) _ _ _ _ _ hvq HB5q.out _ rfl).mono ?_
              rintro e w4 ⟨v, w5, rfl, ht5, rfl⟩
              have hb2 := (HB2q.out.touch ht5 (by simp)).other (a := ⟨w1.heap.size, 0, none⟩) (by show w.heap.size ≠ w1.heap.size; omega) (.int .i64 v)
              have c0 := hb2.cell (i := 0) rfl
              have c1 := hb2.cell (i := 1) rfl
              have c2 := hb2.cell (i := 2) rfl
              have c3 := hb2.cell (i := 3) rfl
              have c4 := hb2.cell (i := 4) rfl
              have f0 := hb2.free 0
              have f1 := hb2.free 1
              have f2 := hb2.free 2
              have f3 := hb2.free 3
              have f4 := hb2.free 4
              have HTn := Lib.hid ((HTq.out.trans ht5).setNew (p := ⟨w1.heap.size, 0, none⟩) (by show w.heap.size ≤ w1.heap.size; omega) (.int .i64 v))
              clear hb2 ht5
              go_wp2
              exact bodyPost_ret (v := .tuple #[.agg #[.int .i64 0, .int .i64 0, .int .i64 0, .int .i64 0, .int .i64 0], .bool false]) (by simp [results, Tryd.results10, go_sem, c0, c1, c2, c3, c4]) rfl ⟨by rw [HR.out]; rfl, HTn.out.setNew5 (Nat.le_refl _) _ _ _ _ _⟩
            | _ =>
              have hbad : ∀ x, Lib.atoiAll w0 ≠ .ok x := fun x e => by rw [hat] at e; cases e
              clear hat
              have HR : Hid (rdE s = none) := Lib.hid (rdE_bad HWW.out (.inl (numL_of_bad hbad)))
              go_wp2_with fail
              refine (number_bad (mk w0) HS0.out (by rw [mk_list]; exact hbad) _ _ _ _ _ hvq HB5q.out _ rfl).mono ?_
              rintro e w4 ⟨v, w5, rfl, ht5, rfl⟩
              have hb2 := (HB2q.out.touch ht5 (by simp)).other (a := ⟨w1.heap.size, 0, none⟩) (by show w.heap.size ≠ w1.heap.size; omega) (.int .i64 v)
              have c0 := hb2.cell (i := 0) rfl
              have c1 := hb2.cell (i := 1) rfl
              have c2 := hb2.cell (i := 2) rfl
              have c3 := hb2.cell (i := 3) rfl
              have c4 := hb2.cell (i := 4) rfl
              have f0 := hb2.free 0
              have f1 := hb2.free 1
              have f2 := hb2.free 2
              have f3 := hb2.free 3
              have f4 := hb2.free 4
              have HTn := Lib.hid ((HTq.out.trans ht5).setNew (p := ⟨w1.heap.size, 0, none⟩) (by show w.heap.size ≤ w1.heap.size; omega) (.int .i64 v))
              clear hb2 ht5
              go_wp2
              exact bodyPost_ret (v := .tuple #[.agg #[.int .i64 0, .int .i64 0, .int .i64 0, .int .i64 0, .int .i64 0], .bool false]) (by simp [results, Tryd.results10, go_sem, c0, c1, c2, c3, c4]) rfl ⟨by rw [HR.out]; rfl, HTn.out.setNew5 (Nat.le_refl _) _ _ _ _ _⟩
          · have HB5q := Lib.hid hb5
            have e0 := HB6q.out.cell (i := 1) rfl
            clear hb5
            go_wp2
            go_roundw
            case rel => exact ⟨2, by omega, by go_num, HB5q.out, HB6q.out, HB2q.out, HTq.out, HT1q.out, hsq⟩
            case measure => simp [intOf] <;> omega
          · have HB5q : Hid (Blk wr w1.heap.size (cE kd a p x y 2) 23) := Lib.hid hb5
            have e0 := HB6q.out.cell (i := 2) rfl
            have e1 : wr.cell? ⟨g, 2, none⟩ = some (.string (mk w2')) := by
              have := HCW.out 2 (by omega)
              rw [HLW.out] at this
              exact this
            clear hb5
            cases hat : Lib.atoiAll w2' with
            | ok v =>
              have hav : v = p := by rw [← HAp.out]; exact (av_ok hat).symm
              have HAT : Hid (Lib.atoiAll (mk w2').data.toList = .ok v) := Lib.hid (by rw [mk_list]; exact hat)
              clear hat
              go_wp2_with fail
              refine (number_ok (mk w2') HS2.out v HAT.out _ _ _ _ _ HB5q.out _ rfl).mono ?_
              rintro e w4 ⟨w5, rfl, ht5, rfl⟩
              have HB5n : Hid (Blk (w5.setCell ⟨w1.heap.size, 2, none⟩ (.int .i64 v)) w1.heap.size (cE kd a p x y 3) 23) := Lib.hid (by
                have := (HB5q.out.touch ht5 (by simp)).set 2 (.int .i64 v)
                rw [hav] at this ⊢
                exact this)
              have HB6n := Lib.hid ((HB6q.out.touch ht5 (by simp)).other (a := ⟨w1.heap.size, 2, none⟩) (by show wk.heap.size ≠ w1.heap.size; omega) (.int .i64 v))
              have HB2n := Lib.hid ((HB2q.out.touch ht5 (by simp)).other (a := ⟨w1.heap.size, 2, none⟩) (by show w.heap.size ≠ w1.heap.size; omega) (.int .i64 v))
              have HTn := Lib.hid ((HTq.out.trans ht5).setNew (p := ⟨w1.heap.size, 2, none⟩) (by show w.heap.size ≤ w1.heap.size; omega) (.int .i64 v))
              have HT1n := Lib.hid ((HT1q.out.trans ht5).setNew (p := ⟨w1.heap.size, 2, none⟩) (Nat.le_refl _) (.int .i64 v))
              have hsn : wk.heap.size < w5.heap.size := by have := ht5.size; omega
              clear ht5 hav
              go_wp2
              go_roundw
              case rel => exact ⟨3, by omega, by go_num, HB5n.out, HB6n.out, HB2n.out, HTn.out, HT1n.out, by simpa [World.setCell] using hsn⟩
              case measure => simp [intOf] <;> omega
            | range =>
              have hbad : ∀ x, Lib.atoiAll w2' ≠ .ok x := fun x e => by rw [hat] at e; cases e
              clear hat
              have HR : Hid (rdE s = none) := Lib.hid (rdE_bad HWW.out (.inr (.inl (numL_of_bad hbad))))
              go_wp2_with fail
              refine (number_bad (mk w2') HS2.out (by rw [mk_list]; exact hbad) _ _ _ _ _ hvq HB5q.out _ rfl).mono ?_
              rintro e w4 ⟨v, w5, rfl, ht5, rfl⟩
              have hb2 := (HB2q.out.touch ht5 (by simp)).other (a := ⟨w1.heap.size, 2, none⟩) (by show w.heap.size ≠ w1.heap.size; omega) (.int .i64 v)
              have c0 := hb2.cell (i := 0) rfl
              have c1 := hb2.cell (i := 1) rfl
              have c2 := hb2.cell (i := 2) rfl
              have c3 := hb2.cell (i := 3) rfl
              have c4 := hb2.cell (i := 4) rfl
              have f0 := hb2.free 0
              have f1 := hb2.free 1
              have f2 := hb2.free 2
              have f3 := hb2.free 3
              have f4 := hb2.free 4
              have HTn := Lib.hid ((HTq.out.trans ht5).setNew (p := ⟨w1.heap.size, 2, none⟩) (by show w.heap.size ≤ w1.heap.size; omega) (.int .i64 v))
              clear hb2 ht5
              go_wp2
              exact bodyPost_ret (v := .tuple #[.agg #[.int .i64 0, .int .i64 0, .int .i64 0, .int .i64 0, .int .i64 0], .bool false]) (by simp [results, Tryd.results10, go_sem, c0, c1, c2, c3, c4]) rfl ⟨by rw [HR.out]; rfl, HTn.out.setNew5 (Nat.le_refl _) _ _ _ _ _⟩
            | _ =>
              have hbad : ∀ x, Lib.atoiAll w2' ≠ .ok x := fun x e => by rw [hat] at e; cases e
              clear hat
              have HR : Hid (rdE s = none) := Lib.hid (rdE_bad HWW.out (.inr (.inl (numL_of_bad hbad))))
              go_wp2_with fail
              refine (number_bad (mk w2') HS2.out (by rw [mk_list]; exact hbad) _ _ _ _ _ hvq HB5q.out _ rfl).mono ?_
              rintro e w4 ⟨v, w5, rfl, ht5, rfl⟩
              have hb2 := (HB2q.out.touch ht5 (by simp)).other (a := ⟨w1.heap.size, 2, none⟩) (by show w.heap.size ≠ w1.heap.size; omega) (.int .i64 v)
              have c0 := hb2.cell (i := 0) rfl
              have c1 := hb2.cell (i := 1) rfl
              have c2 := hb2.cell (i := 2) rfl
              have c3 := hb2.cell (i := 3) rfl
              have c4 := hb2.cell (i := 4) rfl
              have f0 := hb2.free 0
              have f1 := hb2.free 1
              have f2 := hb2.free 2
              have f3 := hb2.free 3
              have f4 := hb2.free 4
              have HTn := Lib.hid ((HTq.out.trans ht5).setNew (p := ⟨w1.heap.size, 2, none⟩) (by show w.heap.size ≤ w1.heap.size; omega) (.int .i64 v))
              clear hb2 ht5
              go_wp2
              exact bodyPost_ret (v := .tuple #[.agg #[.int .i64 0, .int .i64 0, .int .i64 0, .int .i64 0, .int .i64 0], .bool false]) (by simp [results, Tryd.results10, go_sem, c0, c1, c2, c3, c4]) rfl ⟨by rw [HR.out]; rfl, HTn.out.setNew5 (Nat.le_refl _) _ _ _ _ _⟩
          · have HB5q : Hid (Blk wr w1.heap.size (cE kd a p x y 3) 23) := Lib.hid hb5
            have e0 := HB6q.out.cell (i := 3) rfl
            have e1 : wr.cell? ⟨g, 3, none⟩ = some (.string (mk w3')) := by
              have := HCW.out 3 (by omega)
              rw [HLW.out] at this
              exact this
            clear hb5
            cases hat : Lib.atoiAll w3' with
            | ok v =>
              have hav : v = x := by rw [← HAx.out]; exact (av_ok hat).symm
              have HAT : Hid (Lib.atoiAll (mk w3').data.toList = .ok v) := Lib.hid (by rw [mk_list]; exact hat)
              clear hat
              go_wp2_with fail
              refine (number_ok (mk w3') HS3.out v HAT.out _ _ _ _ _ HB5q.out _ rfl).mono ?_
              rintro e w4 ⟨w5, rfl, ht5, rfl⟩
              have HB5n : Hid (Blk (w5.setCell ⟨w1.heap.size, 3, none⟩ (.int .i64 v)) w1.heap.size (cE kd a p x y 4) 23) := Lib.hid (by
                have := (HB5q.out.touch ht5 (by simp)).set 3 (.int .i64 v)
                rw [hav] at this ⊢
                exact this)
              have HB6n := Lib.hid ((HB6q.out.touch ht5 (by simp)).other (a := ⟨w1.heap.size, 3, none⟩) (by show wk.heap.size ≠ w1.heap.size; omega) (.int .i64 v))
              have HB2n := Lib.hid ((HB2q.out.touch ht5 (by simp)).other (a := ⟨w1.heap.size, 3, none⟩) (by show w.heap.size ≠ w1.heap.size; omega) (.int .i64 v))
              have HTn := Lib.hid ((HTq.out.trans ht5).setNew (p := ⟨w1.heap.size, 3, none⟩) (by show w.heap.size ≤ w1.heap.size; omega) (.int .i64 v))
              have HT1n := Lib.hid ((HT1q.out.trans ht5).setNew (p := ⟨w1.heap.size, 3, none⟩) (Nat.le_refl _) (.int .i64 v))
              have hsn : wk.heap.size < w5.heap.size := by have := ht5.size; omega
              clear ht5 hav
              go_wp2
              go_roundw
              case rel => exact ⟨4, by omega, by go_num, HB5n.out, HB6n.out, HB2n.out, HTn.out, HT1n.out, by simpa [World.setCell] using hsn⟩
              case measure => simp [intOf] <;> omega
            | range =>
              have hbad : ∀ x, Lib.atoiAll w3' ≠ .ok x := fun x e => by rw [hat] at e; cases e
              clear hat
              have HR : Hid (rdE s = none) := Lib.hid (rdE_bad HWW.out (.inr (.inr (.inl (numL_of_bad hbad)))))
              go_wp2_with fail
              refine (number_bad (mk w3') HS3.out (by rw [mk_list]; exact hbad) _ _ _ _ _ hvq HB5q.out _ rfl).mono ?_
              rintro e w4 ⟨v, w5, rfl, ht5, rfl⟩
              have hb2 := (HB2q.out.touch ht5 (by simp)).other (a := ⟨w1.heap.size, 3, none⟩) (by show w.heap.size ≠ w1.heap.size; omega) (.int .i64 v)
              have c0 := hb2.cell (i := 0) rfl
              have c1 := hb2.cell (i := 1) rfl
              have c2 := hb2.cell (i := 2) rfl
              have c3 := hb2.cell (i := 3) rfl
              have c4 := hb2.cell (i := 4) rfl
              have f0 := hb2.free 0
              have f1 := hb2.free 1
              have f2 := hb2.free 2
              have f3 := hb2.free 3
              have f4 := hb2.free 4
              have HTn := Lib.hid ((HTq.out.trans ht5).setNew (p := ⟨w1.heap.size, 3, none⟩) (by show w.heap.size ≤ w1.heap.size; omega) (.int .i64 v))
              clear hb2 ht5
              go_wp2
              exact bodyPost_ret (v := .tuple #[.agg #[.int .i64 0, .int .i64 0, .int .i64 0, .int .i64 0, .int .i64 0], .bool false]) (by simp [results, Tryd.results10, go_sem, c0, c1, c2, c3, c4]) rfl ⟨by rw [HR.out]; rfl, HTn.out.setNew5 (Nat.le_refl _) _ _ _ _ _⟩
            | _ =>
              have hbad : ∀ x, Lib.atoiAll w3' ≠ .ok x := fun x e => by rw [hat] at e; cases e
              clear hat
              have HR : Hid (rdE s = none) := Lib.hid (rdE_bad HWW.out (.inr (.inr (.inl (numL_of_bad hbad)))))
              go_wp2_with fail
              refine (number_bad (mk w3') HS3.out (by rw [mk_list]; exact hbad) _ _ _ _ _ hvq HB5q.out _ rfl).mono ?_
              rintro e w4 ⟨v, w5, rfl, ht5, rfl⟩
              have hb2 := (HB2q.out.touch ht5 (by simp)).other (a := ⟨w1.heap.size, 3, none⟩) (by show w.heap.size ≠ w1.heap.size; omega) (.int .i64 v)
              have c0 := hb2.cell (i := 0) rfl
              have c1 := hb2.cell (i := 1) rfl
              have c2 := hb2.cell (i := 2) rfl
              have c3 := hb2.cell (i := 3) rfl
              have c4 := hb2.cell (i := 4) rfl
              have f0 := hb2.free 0
              have f1 := hb2.free 1
              have f2 := hb2.free 2
              have f3 := hb2.free 3
              have f4 := hb2.free 4
              have HTn := Lib.hid ((HTq.out.trans ht5).setNew (p := ⟨w1.heap.size, 3, none⟩) (by show w.heap.size ≤ w1.heap.size; omega) (.int .i64 v))
              clear hb2 ht5
              go_wp2
              exact bodyPost_ret (v := .tuple #[.agg #[.int .i64 0, .int .i64 0, .int .i64 0, .int .i64 0, .int .i64 0], .bool false]) (by simp [results, Tryd.results10, go_sem, c0, c1, c2, c3, c4]) rfl ⟨by rw [HR.out]; rfl, HTn.out.setNew5 (Nat.le_refl _) _ _ _ _ _⟩
          · have HB5q : Hid (Blk wr w1.heap.size (cE kd a p x y 4) 23) := Lib.hid hb5
            have e0 := HB6q.out.cell (i := 4) rfl
            have e1 : wr.cell? ⟨g, 4, none⟩ = some (.string (mk w4')) := by
              have := HCW.out 4 (by omega)
              rw [HLW.out] at this
              exact this
            clear hb5
            cases hat : Lib.atoiAll w4' with
            | ok v =>
              have hav : v = y := by rw [← HAy.out]; exact (av_ok hat).symm
              have HAT : Hid (Lib.atoiAll (mk w4').data.toList = .ok v) := Lib.hid (by rw [mk_list]; exact hat)
              clear hat
              go_wp2_with fail
              refine (number_ok (mk w4') HS4.out v HAT.out _ _ _ _ _ HB5q.out _ rfl).mono ?_
              rintro e w4 ⟨w5, rfl, ht5, rfl⟩
              have HB5n : Hid (Blk (w5.setCell ⟨w1.heap.size, 4, none⟩ (.int .i64 v)) w1.heap.size (cE kd a p x y 5) 23) := Lib.hid (by
                have := (HB5q.out.touch ht5 (by simp)).set 4 (.int .i64 v)
                rw [hav] at this ⊢
                exact this)
              have HB6n := Lib.hid ((HB6q.out.touch ht5 (by simp)).other (a := ⟨w1.heap.size, 4, none⟩) (by show wk.heap.size ≠ w1.heap.size; omega) (.int .i64 v))
              have HB2n := Lib.hid ((HB2q.out.touch ht5 (by simp)).other (a := ⟨w1.heap.size, 4, none⟩) (by show w.heap.size ≠ w1.heap.size; omega) (.int .i64 v))
              have HTn := Lib.hid ((HTq.out.trans ht5).setNew (p := ⟨w1.heap.size, 4, none⟩) (by show w.heap.size ≤ w1.heap.size; omega) (.int .i64 v))
              have HT1n := Lib.hid ((HT1q.out.trans ht5).setNew (p := ⟨w1.heap.size, 4, none⟩) (Nat.le_refl _) (.int .i64 v))
              have hsn : wk.heap.size < w5.heap.size := by have := ht5.size; omega
              clear ht5 hav
              go_wp2
              go_roundw
              case rel => exact ⟨5, by omega, by go_num, HB5n.out, HB6n.out, HB2n.out, HTn.out, HT1n.out, by simpa [World.setCell] using hsn⟩
              case measure => simp [intOf] <;> omega
            | range =>
              have hbad : ∀ x, Lib.atoiAll w4' ≠ .ok x := fun x e => by rw [hat] at e; cases e
              clear hat
              have HR : Hid (rdE s = none) := Lib.hid (rdE_bad HWW.out (.inr (.inr (.inr (numL_of_bad hbad)))))
              go_wp2_with fail
              refine (number_bad (mk w4') HS4.out (by rw [mk_list]; exact hbad) _ _ _ _ _ hvq HB5q.out _ rfl).mono ?_
              rintro e w4 ⟨v, w5, rfl, ht5, rfl⟩
              have hb2 := (HB2q.out.touch ht5 (by simp)).other (a := ⟨w1.heap.size, 4, none⟩) (by show w.heap.size ≠ w1.heap.size; omega) (.int .i64 v)
              have c0 := hb2.cell (i := 0) rfl
              have c1 := hb2.cell (i := 1) rfl
              have c2 := hb2.cell (i := 2) rfl
              have c3 := hb2.cell (i := 3) rfl
              have c4 := hb2.cell (i := 4) rfl
              have f0 := hb2.free 0
              have f1 := hb2.free 1
              have f2 := hb2.free 2
              have f3 := hb2.free 3
              have f4 := hb2.free 4
              have HTn := Lib.hid ((HTq.out.trans ht5).setNew (p := ⟨w1.heap.size, 4, none⟩) (by show w.heap.size ≤ w1.heap.size; omega) (.int .i64 v))
              clear hb2 ht5
              go_wp2
              exact bodyPost_ret (v := .tuple #[.agg #[.int .i64 0, .int .i64 0, .int .i64 0, .int .i64 0, .int .i64 0], .bool false]) (by simp [results, Tryd.results10, go_sem, c0, c1, c2, c3, c4]) rfl ⟨by rw [HR.out]; rfl, HTn.out.setNew5 (Nat.le_refl _) _ _ _ _ _⟩
            | _ =>
              have hbad : ∀ x, Lib.atoiAll w4' ≠ .ok x := fun x e => by rw [hat] at e; cases e
              clear hat
              have HR : Hid (rdE s = none) := Lib.hid (rdE_bad HWW.out (.inr (.inr (.inr (numL_of_bad hbad)))))
              go_wp2_with fail
              refine (number_bad (mk w4') HS4.out (by rw [mk_list]; exact hbad) _ _ _ _ _ hvq HB5q.out _ rfl).mono ?_
              rintro e w4 ⟨v, w5, rfl, ht5, rfl⟩
              have hb2 := (HB2q.out.touch ht5 (by simp)).other (a := ⟨w1.heap.size, 4, none⟩) (by show w.heap.size ≠ w1.heap.size; omega) (.int .i64 v)
              have c0 := hb2.cell (i := 0) rfl
              have c1 := hb2.cell (i := 1) rfl
              have c2 := hb2.cell (i := 2) rfl
              have c3 := hb2.cell (i := 3) rfl
              have c4 := hb2.cell (i := 4) rfl
              have f0 := hb2.free 0
              have f1 := hb2.free 1
              have f2 := hb2.free 2
              have f3 := hb2.free 3
              have f4 := hb2.free 4
              have HTn := Lib.hid ((HTq.out.trans ht5).setNew (p := ⟨w1.heap.size, 4, none⟩) (by show w.heap.size ≤ w1.heap.size; omega) (.int .i64 v))
              clear hb2 ht5
              go_wp2
              exact bodyPost_ret (v := .tuple #[.agg #[.int .i64 0, .int .i64 0, .int .i64 0, .int .i64 0, .int .i64 0], .bool false]) (by simp [results, Tryd.results10, go_sem, c0, c1, c2, c3, c4]) rfl ⟨by rw [HR.out]; rfl, HTn.out.setNew5 (Nat.le_refl _) _ _ _ _ _⟩
          · have hb5' : Blk wr w1.heap.size #[.int .i64 a, .int .i64 kd, .int .i64 p, .int .i64 x, .int .i64 y] 23 := hb5
            have HB5q := Lib.hid hb5'
            have a0 := hb5'.cell (i := 0) rfl
            have a1 := hb5'.cell (i := 1) rfl
            have a2 := hb5'.cell (i := 2) rfl
            have a3 := hb5'.cell (i := 3) rfl
            have a4 := hb5'.cell (i := 4) rfl
            clear hb5 hb5'
            go_wp2_with fail
            refine (etext_any a kd p x y (by rw [← HAa.out]; exact av_in _) (by rw [← HAp.out]; exact av_in _) (by rw [← HAx.out]; exact av_in _) (by rw [← HAy.out]; exact av_in _) _ hvq).mono ?_
            rintro e w4 ⟨rfl, ht4⟩
            have hb2 := HB2q.out.touch ht4 (by simp)
            have hb5 := HB5q.out.touch ht4 (by simp)
            have a0 := hb5.cell (i := 0) rfl
            have a1 := hb5.cell (i := 1) rfl
            have a2 := hb5.cell (i := 2) rfl
            have a3 := hb5.cell (i := 3) rfl
            have a4 := hb5.cell (i := 4) rfl
            have c0 := hb2.cell (i := 0) rfl
            have c1 := hb2.cell (i := 1) rfl
            have c2 := hb2.cell (i := 2) rfl
            have c3 := hb2.cell (i := 3) rfl
            have c4 := hb2.cell (i := 4) rfl
            have f0 := hb2.free 0
            have f1 := hb2.free 1
            have f2 := hb2.free 2
            have f3 := hb2.free 3
            have f4 := hb2.free 4
            have HT4 := Lib.hid (HTq.out.trans ht4)
            have hse1 := emF HSE.out
            have hse2 := nlF HSE.out
            clear hb2 hb5 ht4
            by_cases he : textE a kd p x y = s
            · have HR : Hid (rdE s = some (a, kd, p, x, y)) := Lib.hid (by
                have hk : kdOf (mk w1') = kd := by rw [HP1.out]; exact HKD.out
                rw [← HAa.out, ← HAp.out, ← HAx.out, ← HAy.out, ← hk] at he ⊢
                exact rdE_same HSE.out he)
              have hes := notF he
              clear he
              go_wp2
              exact bodyPost_ret (v := .tuple #[.agg #[.int .i64 a, .int .i64 kd, .int .i64 p, .int .i64 x, .int .i64 y], .bool true]) (by simp [results, Tryd.results10, go_sem, c0, c1, c2, c3, c4]) rfl ⟨by rw [HR.out]; rfl, HT4.out.setNew5 (Nat.le_refl _) _ _ _ _ _⟩
            · have HR : Hid (rdE s = none) := Lib.hid (by
                have hk : kdOf (mk w1') = kd := by rw [HP1.out]; exact HKD.out
                rw [← HAa.out, ← HAp.out, ← HAx.out, ← HAy.out, ← hk] at he
                exact rdE_other HWW.out he)
              have hes := notT he
              clear he
              go_wp2
              exact bodyPost_ret (v := .tuple #[.agg #[.int .i64 0, .int .i64 0, .int .i64 0, .int .i64 0, .int .i64 0], .bool false]) (by simp [results, Tryd.results10, go_sem, c0, c1, c2, c3, c4]) rfl ⟨by rw [HR.out]; rfl, HT4.out.setNew5 (Nat.le_refl _) _ _ _ _ _⟩
  · have hn5 : ((n : Int) != 5) = true := bneT (by omega)
    have HR : Hid (rdE s = none) := Lib.hid (rdE_len (by
      rcases HL.out with ⟨e, _⟩ | ⟨_, e⟩
      · have := HN.out; rw [e, List.length_map] at this; omega
      · omega))
    have hb2 := HB2.out
    have c0 := hb2.cell (i := 0) rfl
    have c1 := hb2.cell (i := 1) rfl
    have c2 := hb2.cell (i := 2) rfl
    have c3 := hb2.cell (i := 3) rfl
    have c4 := hb2.cell (i := 4) rfl
    have f0 := hb2.free 0
    have f1 := hb2.free 1
    have f2 := hb2.free 2
    have f3 := hb2.free 3
    have f4 := hb2.free 4
    clear hb2
    go_wp2
    exact bodyPost_ret (v := .tuple #[.agg #[.int .i64 0, .int .i64 0, .int .i64 0, .int .i64 0, .int .i64 0], .bool false]) (by simp [results, Tryd.results10, go_sem, c0, c1, c2, c3, c4]) rfl ⟨by rw [HR.out]; rfl, HT1.out.setNew5 (Nat.le_refl _) _ _ _ _ _⟩
end Go.Proofs.YtgdpjkhkgdcfjaaDoor
