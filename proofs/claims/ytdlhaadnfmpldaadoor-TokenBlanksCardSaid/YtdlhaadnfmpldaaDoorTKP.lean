/-
  The reference: all tokens.
-/
import Derived.Test.YtdlhaadnfmpldaaDoorTKO
import Derived.Test.YtdlhaadnfmpldaaDoorTKL
import Derived.Deep.CutBlock
set_option linter.unusedVariables false
namespace Go.Proofs.YtdlhaadnfmpldaaDoor
open Go Go.RowKit

theorem tw_at (P : UInt8 → Bool) : ∀ (r : List UInt8) (j : Nat), j < (r.takeWhile P).length → P (r.getD j 0) = true
  | [], j, h => by simp at h
  | c :: r, j, h => by
    cases hc : P c with
    | false => simp [List.takeWhile, hc] at h
    | true =>
      cases j with
      | zero => exact hc
      | succ j =>
        simp only [List.takeWhile, hc, List.length_cons] at h
        exact tw_at P r j (by omega)
theorem tw_end (P : UInt8 → Bool) : ∀ (r : List UInt8), (r.takeWhile P).length < r.length → P (r.getD (r.takeWhile P).length 0) = false
  | [], h => by simp at h
  | c :: r, h => by
    cases hc : P c with
    | false => simp only [List.takeWhile, hc]; exact hc
    | true =>
      simp only [List.takeWhile, hc, List.length_cons] at h ⊢
      exact tw_end P r (by omega)
theorem tw_take (P : UInt8 → Bool) (r : List UInt8) : r.takeWhile P = r.take (r.takeWhile P).length := (List.prefix_iff_eq_take.1 (List.takeWhile_prefix P (l := r)))
def nb (c : UInt8) : Bool := decide (¬ c = 125)
theorem ahead_tw : ∀ (r : List UInt8), ahead 125 r = if (r.takeWhile nb).length < r.length then some (r.takeWhile nb).length else none
  | [] => rfl
  | c :: r => by
    unfold ahead
    by_cases h : c = 125
    · have hn : nb c = false := by unfold nb; simp [h]
      rw [if_pos h]
      simp [List.takeWhile, hn]
    · have hn : nb c = true := by unfold nb; simp [h]
      rw [if_neg h, ahead_tw r]
      simp only [List.takeWhile, hn, List.length_cons]
      by_cases hl : (r.takeWhile nb).length < r.length
      · rw [if_pos hl, if_pos (by omega)]; rfl
      · rw [if_neg hl, if_neg (by omega)]; rfl
theorem ref_go {L : List UInt8} {p k : Nat} {c : UInt8} {r : List UInt8} {l ts : List Tok} {S : TokR} (hd : L.drop p = c :: r) (hstep : stepT p c r = .go k ts) (hsc : scan (L.drop p) p l = S) : scan (L.drop (p + 1 + k)) (p + 1 + k) (l ++ ts) = S := by
  rw [← hsc, hd, scan_go hstep, drop_more hd]
theorem ref_bad {L : List UInt8} {p n : Nat} {c : UInt8} {r : List UInt8} {l : List Tok} {x : Int} (hn : L.length = n) (h16 : n ≤ 4096) (hd : L.drop p = c :: r) (hstep : stepT p c r = .bad x) (hsc : scan (L.drop p) p l = scan L 0 []) : allT L = .bad x p := by
  unfold allT
  rw [hn, if_neg (by omega), ← hsc, hd, scan_bad hstep]
theorem tail_at {L r : List UInt8} {p : Nat} {c : UInt8} (h : L.drop p = c :: r) (j : Nat) : r.getD j 0 = L.getD (p + 1 + j) 0 := by
  have := drop_more h 0
  rw [List.drop_zero] at this
  rw [this, List.getD_eq_getElem?_getD, List.getD_eq_getElem?_getD, List.getElem?_drop]
theorem bt_sub {w : World} {g off n cp p k : Nat} {L : List UInt8} (h : Bt w (.slice (some ⟨g, off, none⟩) n cp) L) (hL : L.length = n) (hp : p < n) (hk : k ≤ n - p) : Bt w (.slice (some ⟨g, off + p, none⟩) k (cp - p)) ((L.drop p).take k) := by
  obtain ⟨a', c', he, hc, _⟩ := id h
  cases he
  have h1 := h.cut (k := p) (by omega)
  rw [if_neg (by omega)] at h1
  have h2 := h1.first (k := k) (by rw [List.length_drop]; omega)
  have e : (Option.map (fun x => x.add p) (some (⟨g, off, none⟩ : Addr))) = some ⟨g, off + p, none⟩ := by
    by_cases h0 : p = 0
    · subst h0; simp [Addr.add]
    · simp [Addr.add, h0]
  rw [e] at h2
  exact h2
theorem tail_len {L r : List UInt8} {p n : Nat} {c : UInt8} (h : L.drop p = c :: r) (hn : L.length = n) (hp : p < n) : r.length = n - p - 1 := by
  have := congrArg List.length h
  simp at this
  omega
/-- A token is put behind the others, out of the cells that the call has just made. -/
theorem tks_put {w1 wr : World} {tv : Value} {l : List Tok} (h : Tks wr w1.heap.size tv l) (ht : Touch [] w1 wr) (x : Tok) (TX : ByteArray) (hT : ⟨x.text.toArray⟩ = TX) (hl : l.length ≤ 100000) :
    ∃ ta' tc' w', (∀ ty, (Builtin.append_ #[26, 26] ty #[tv, .slice (some ⟨wr.heap.size, 0, none⟩) 1 1]).run Tryd.prog (wr.alloc (.cells #[.int .i64 x.kind, .int .i64 x.pos, .int .i64 x.num, .string TX] 38)) = .ok (.slice ta' (l.length + 1) tc') w') ∧ Tks w' w1.heap.size (.slice ta' (l.length + 1) tc') (l ++ [x]) ∧ Touch [] w1 w' := by
  subst hT
  have nt : Blk (wr.alloc (.cells #[.int .i64 x.kind, .int .i64 x.pos, .int .i64 x.num, .string ⟨x.text.toArray⟩] 38)) wr.heap.size #[.int .i64 x.kind, .int .i64 x.pos, .int .i64 x.num, .string ⟨x.text.toArray⟩] 38 := Blk.new rfl
  have tX : Touch [] wr (wr.alloc (.cells #[.int .i64 x.kind, .int .i64 x.pos, .int .i64 x.num, .string ⟨x.text.toArray⟩] 38)) := (Touch.refl [] wr).alloc _
  have hx := h.touch tX (fun _ _ => by simp)
  obtain ⟨v', w', hr, hk, htt, hn2⟩ := hx.app (ht.trans tX).size x hl ⟨wr.heap.size, 0, none⟩ (fun j hj => by
    rcases (by omega : j = 0 ∨ j = 1 ∨ j = 2 ∨ j = 3) with rfl | rfl | rfl | rfl
    · exact nt.cell (i := 0) rfl
    · exact nt.cell (i := 1) rfl
    · exact nt.cell (i := 2) rfl
    · exact nt.cell (i := 3) rfl)
  obtain ⟨ta', tc', htv', _⟩ := Av.form hk
  subst htv'
  have hlen : (l ++ [x]).length = l.length + 1 := by simp
  rw [hlen] at hr hk hn2
  exact ⟨ta', tc', w', hr, hk, (ht.trans tX).transF htt (fun q hq hlt => by have := (hx.own q (Option.mem_toList.1 hq)).1; omega)⟩
set_option maxHeartbeats 64000000 in
set_option maxRecDepth 100000 in
theorem rall_any (w : World) (v : Value) (L : List UInt8) (hb : Bt w v L) (hL : L.length ≤ 100000) : Calls Tryd.prog 8 #[v] w (AllP w L) := by
  obtain ⟨a, cp, rfl, hcp⟩ := hb.form
  have HB := Lib.hid hb
  obtain ⟨n, hn⟩ : ∃ n, L.length = n := ⟨_, rfl⟩
  have HLN := Lib.hid hn
  rw [hn] at HB hL hcp ⊢
  have nb : Blk (w.alloc (.cells #[.int .i64 0, .int .i64 0] 29)) w.heap.size #[.int .i64 0, .int .i64 0] 29 := Blk.new rfl
  have HT1 := Lib.hid ((Touch.refl [] w).alloc (.cells #[.int .i64 0, .int .i64 0] 29))
  have HB1 := Lib.hid (HB.out.touch HT1.out (by simp))
  have hsz1 : (w.alloc (.cells #[.int .i64 0, .int .i64 0] 29)).heap.size = w.heap.size + 1 := by simp
  obtain ⟨w1, hw1⟩ : ∃ x, (w.alloc (.cells #[.int .i64 0, .int .i64 0] 29)) = x := ⟨_, rfl⟩
  rw [hw1] at nb HT1 HB1 hsz1
  have HS1 := Lib.hid hsz1
  have HW1 := Lib.hid hw1
  have q0_ := nb.cell (i := 0) rfl
  have q1_ := nb.cell (i := 1) rfl
  have HNB := Lib.hid nb
  clear hb hw1 nb hn hsz1
  by_cases hbig : 4096 < n
  · go_enter Tryd.func8, Tryd.ntmps8
    go_wp2_with fail
    have nb2 : Blk (w.alloc (.cells #[.int .i64 16, .int .i64 4096] 29)) w.heap.size #[.int .i64 16, .int .i64 4096] 29 := Blk.new rfl
    have c0_ := nb2.cell (i := 0) rfl
    have c1_ := nb2.cell (i := 1) rfl
    (try simp only [Exit.inBlock, Exit.then]); refine bodyPost_ret (by simp [results, Tryd.results8, go_sem, c0_, c1_]; try rfl) rfl ?_
    refine ⟨(Touch.refl [] w).alloc _, ?_⟩
    unfold allT
    rw [HLN.out, if_pos hbig]
  · have h16 : n ≤ 4096 := by omega
    have d16 : decide (4096 < (n : Int)) = false := dF (by omega)
    clear hbig
    go_enter Tryd.func8, Tryd.ntmps8
    go_wp2_with fail
    rw [HW1.out]
    go_wp2_with fail
    clear d16
    rw [← HS1.out]
    have HTE0 := Lib.hid ((Touch.refl [] w1).alloc (.cells #[] 38))
    have HTK0 : Hid (Tks (w1.alloc (.cells #[] 38)) w1.heap.size (.slice (some ⟨w1.heap.size, 0, none⟩) 0 0) []) := Lib.hid (.inr ⟨_, 0, #[], rfl, Nat.le_refl _, Blk.new rfl, Nat.le_refl _, by unfold maxLen; omega, by simp, fun i hi => absurd hi (Nat.not_lt_zero _)⟩)
    go_loopw [4, 5] (fun nv iv wr => ∃ (p : Nat) (l : List Tok), iv = .int .i64 (p : Int) ∧ p ≤ n ∧ l.length ≤ p ∧ scan (L.drop p) p l = scan L 0 [] ∧ Tks wr w1.heap.size nv l ∧ Touch [] w1 wr) (fun _ iv _ => n - (intOf iv).toNat)
    case atStart => exact ⟨0, [], rfl, Nat.zero_le _, Nat.le_refl _, rfl, HTK0.out, HTE0.out⟩
    case round =>
      obtain ⟨p, l, rfl, hpn, hll, hscan, htk, htw⟩ := hrel
      obtain ⟨ta, tc, rfl, _⟩ := Av.form htk
      have HTK := Lib.hid htk
      have HTW := Lib.hid htw
      have HSC := Lib.hid hscan
      clear htk htw hscan HTE0 HTK0
      by_cases hp : p < n
      · obtain ⟨r, hdr⟩ := drop_one (L := L) (p := p) (by rw [HLN.out]; omega)
        obtain ⟨c, hcL⟩ : ∃ c, L.getD p 0 = c := ⟨_, rfl⟩
        rw [hcL] at hdr
        have HDR := Lib.hid hdr
        have HRL := Lib.hid (tail_len hdr HLN.out hp)
        obtain ⟨g, off, rfl, hg, hc0⟩ := HB1.out.ix (i := p) (by rw [HLN.out]; omega)
        have hc := hc0 [] wr HTW.out (by simp)
        rw [hcL] at hc
        have HBR := Lib.hid (HB1.out.touch HTW.out (by simp))
        have hpl : decide ((p : Int) < (n : Int)) = true := dT (by omega)
        have hrun : Run1 c (c.toNat : Int) := by
          rcases Nat.lt_or_ge c.toNat 128 with h | h
          · exact .inl ⟨h, rfl⟩
          · exact .inr ⟨h, by omega⟩
        have HLC := Lib.hid (rletter_any c wr)
        have HGC := Lib.hid (rdigit_any c wr)
        obtain ⟨x, hx⟩ : ∃ x : Int, (c.toNat : Int) = x := ⟨_, rfl⟩
        rw [hx] at hc hrun HLC HGC
        have hblk := hrun.blk
        have h123 : x = 123 ↔ c = 123 := (hrun.eq (n := 123) (by omega)).trans (byte_eq (by omega))
        have h80 : x = 80 ↔ c = 80 := (hrun.eq (n := 80) (by omega)).trans (byte_eq (by omega))
        have h86 : x = 86 ↔ c = 86 := (hrun.eq (n := 86) (by omega)).trans (byte_eq (by omega))
        have HXC := Lib.hid hx
        clear hdr hcL hg hc0 hrun hx
        by_cases e32 : x = 32
        · have hstep := step_blk (p := p) (r := r) (show isBlk c = true from by rw [hblk, decide_eq_true_iff]; omega)
          have HS2 := Lib.hid (ref_go HDR.out hstep HSC.out)
          clear hblk h123 h80 h86 hstep
          subst e32
          go_wp2_with fail
          go_roundw
          case rel => exact ⟨p + 1 + 0, l ++ [], by go_num, by omega, by simp; omega, HS2.out, by rw [List.append_nil]; exact HTK.out, HTW.out⟩
          case measure => simp [intOf]; omega
        by_cases e9 : x = 9
        · have hstep := step_blk (p := p) (r := r) (show isBlk c = true from by rw [hblk, decide_eq_true_iff]; omega)
          have HS2 := Lib.hid (ref_go HDR.out hstep HSC.out)
          clear hblk h123 h80 h86 hstep
          subst e9
          go_wp2_with fail
          go_roundw
          case rel => exact ⟨p + 1 + 0, l ++ [], by go_num, by omega, by simp; omega, HS2.out, by rw [List.append_nil]; exact HTK.out, HTW.out⟩
          case measure => simp [intOf]; omega
        by_cases e10 : x = 10
        · have hstep := step_blk (p := p) (r := r) (show isBlk c = true from by rw [hblk, decide_eq_true_iff]; omega)
          have HS2 := Lib.hid (ref_go HDR.out hstep HSC.out)
          clear hblk h123 h80 h86 hstep
          subst e10
          go_wp2_with fail
          go_roundw
          case rel => exact ⟨p + 1 + 0, l ++ [], by go_num, by omega, by simp; omega, HS2.out, by rw [List.append_nil]; exact HTK.out, HTW.out⟩
          case measure => simp [intOf]; omega
        by_cases e13 : x = 13
        · have hstep := step_blk (p := p) (r := r) (show isBlk c = true from by rw [hblk, decide_eq_true_iff]; omega)
          have HS2 := Lib.hid (ref_go HDR.out hstep HSC.out)
          clear hblk h123 h80 h86 hstep
          subst e13
          go_wp2_with fail
          go_roundw
          case rel => exact ⟨p + 1 + 0, l ++ [], by go_num, by omega, by simp; omega, HS2.out, by rw [List.append_nil]; exact HTK.out, HTW.out⟩
          case measure => simp [intOf]; omega
        have hB : isBlk c = false := by rw [hblk, decide_eq_false_iff_not]; omega
        clear hblk
        by_cases e123 : x = 123
        · have hcc := h123.1 e123
          have hst := step_rem (p := p) (r := r) hB hcc
          rw [ahead_tw] at hst
          obtain ⟨m, hm⟩ : ∃ m, (r.takeWhile nb).length = m := ⟨_, rfl⟩
          have hml : m ≤ r.length := by rw [← hm]; exact takeWhile_le _ _
          have HTA : Hid (∀ j, j < m → nb (L.getD (p + 1 + j) 0) = true) := Lib.hid (fun j hj => by rw [← tail_at HDR.out]; exact tw_at nb r j (by omega))
          have HTB : Hid (m < r.length → nb (L.getD (p + 1 + m) 0) = false) := Lib.hid (fun hj => by rw [← tail_at HDR.out, ← hm]; exact tw_end nb r (by omega))
          rw [hm] at hst
          have HST := Lib.hid hst
          rw [HRL.out] at hml
          clear h123 h80 h86 hcc hst hm
          subst e123
          go_upto_block 3 with fail
          go_cut [7] from 66 to 78 (fun v7 wx => v7 = .int .i64 ((p + 1 + m : Nat) : Int) ∧ wr = wx)
          case first =>
            go_wp2_with fail
            go_loop [7] (fun v7 => ∃ q : Nat, v7 = .int .i64 ((p + 1 + q : Nat) : Int) ∧ q ≤ m) (fun v7 => n - (intOf v7).toNat)
            case atStart => exact ⟨0, by go_num, Nat.zero_le _⟩
            case round =>
              obtain ⟨q, rfl, hq⟩ := hrel
              by_cases hqm : q < m
              · have hlt : decide (((p + 1 + q : Nat) : Int) < (n : Int)) = true := dT (by omega)
                obtain ⟨g', off', he', _, hcq0⟩ := HBR.out.ix (i := p + 1 + q) (by rw [HLN.out]; omega)
                cases he'
                have hcq := hcq0 [] wr (Touch.refl _ _) (by simp)
                have hne := HTA.out q hqm
                unfold nb at hne
                rw [decide_eq_true_iff] at hne
                obtain ⟨y, hy⟩ : ∃ y : Int, ((L.getD (p + 1 + q) 0).toNat : Int) = y := ⟨_, rfl⟩
                have hy5 : ¬ y = 125 := fun e => hne ((byte_eq (n := 125) (by omega)).1 (by omega))
                rw [hy] at hcq
                have hyb : (y == 125) = false := by simpa using hy5
                have hyb2 : (y != 125) = true := by simpa using hy5
                clear hcq0 hne hy
                go_wp2_with fail
                go_round
                case rel => exact ⟨q + 1, by go_num, by omega⟩
                case measure => simp [intOf]; omega
              · obtain rfl : q = m := by omega
                by_cases hqn : p + 1 + q < n
                · have hlt : decide (((p + 1 + q : Nat) : Int) < (n : Int)) = true := dT (by omega)
                  obtain ⟨g', off', he', _, hcq0⟩ := HBR.out.ix (i := p + 1 + q) (by rw [HLN.out]; omega)
                  cases he'
                  have hcq := hcq0 [] wr (Touch.refl _ _) (by simp)
                  have hne := HTB.out (by have := HRL.out; omega)
                  unfold nb at hne
                  rw [decide_eq_false_iff_not, Decidable.not_not] at hne
                  rw [hne] at hcq
                  have hcq : wr.cell? ⟨g, off + (p + 1 + q), none⟩ = some (.int .u8 125) := hcq
                  clear hcq0 hne
                  go_wp2_with fail
                  go_meet
                  case rel => exact ⟨rfl, rfl⟩
                · have hlt : decide (((p + 1 + q : Nat) : Int) < (n : Int)) = false := dF (by omega)
                  go_wp2_with fail
                  go_meet
                  case rel => exact ⟨rfl, rfl⟩
          case rest =>
            obtain ⟨rfl, rfl⟩ := hcut
            by_cases hqn : p + 1 + m < n
            · have hst := HST.out
              rw [if_pos (by have := HRL.out; omega)] at hst
              have HS2 := Lib.hid (ref_go HDR.out hst HSC.out)
              have heq : (((p + 1 + m : Nat) : Int) == (n : Int)) = false := by simp; omega
              have heq2 : (p + 1 + m == n) = false := by simp; omega
              clear hst
              go_wp2_with fail
              go_roundw
              case rel => exact ⟨p + 1 + (m + 1), l ++ [], by go_num, by omega, by simp; omega, HS2.out, by rw [List.append_nil]; exact HTK.out, HTW.out⟩
              case measure => simp [intOf]; omega
            · have hst := HST.out
              rw [if_neg (by have := HRL.out; omega)] at hst
              have HALL := Lib.hid (ref_bad HLN.out h16 HDR.out hst HSC.out)
              have heq : (((p + 1 + m : Nat) : Int) == (n : Int)) = true := by simp; omega
              have heq2 : (p + 1 + m == n) = true := by simp; omega
              have nbX := HNB.out.touch HTW.out (by simp)
              have d0_ := nbX.cell (i := 0) rfl
              have d1_ := nbX.cell (i := 1) rfl
              have df := nbX.free
              have nbY := (nbX.set 0 (.int .i64 11)).set 1 (.int .i64 (p : Int))
              have HTE : Hid (Touch [] w ((wr.setCell ⟨w.heap.size, 0, none⟩ (.int .i64 11)).setCell ⟨w.heap.size, 1, none⟩ (.int .i64 (p : Int)))) := Lib.hid ((HT1.out.trans HTW.out).transF (((Touch.refl [w.heap.size] wr).setCell (by simp) _).setCell (by simp) _) (fun q hq hlt => by have := List.mem_singleton.1 hq; omega))
              have e0_ := nbY.cell (i := 0) rfl
              have e1_ := nbY.cell (i := 1) rfl
              clear nbX nbY
              clear hst
              go_wp2_with fail
              (try simp only [Exit.inBlock, Exit.then]); refine bodyPost_ret (by simp [results, Tryd.results8, go_sem, e0_, e1_]; try rfl) rfl ?_
              refine ⟨HTE.out, ?_⟩
              rw [HALL.out]
        by_cases e80 : x = 80
        · have hcc := h80.1 e80
          have hstep := step_pv (p := p) (r := r) hB (by rw [hcc]; decide) (by rw [hcc]; simp)
          have HS2 := Lib.hid (ref_go HDR.out hstep HSC.out)
          have hstr := (bt_sub (k := 1) HBR.out HLN.out hp (by omega)).str
          rw [show (L.drop p).take 1 = [c] from by rw [HDR.out]; rfl] at hstr
          obtain ⟨TX, hTX⟩ : ∃ z : ByteArray, ⟨[c].toArray⟩ = z := ⟨_, rfl⟩
          rw [hTX] at hstr
          obtain ⟨ta', tc', w', hr, hk, ht2⟩ := tks_put HTK.out HTW.out ⟨3, p, 0, [c]⟩ TX hTX (by omega)
          have HK := Lib.hid hk
          have HTW2 := Lib.hid ht2
          dsimp only at hr
          clear hk ht2
          clear h123 h80 h86 hcc hstep hTX
          subst e80
          go_wp2_with (at_builtin; refine Lib.wpList_append_run _ rfl _ _ _ _ rfl _ _ rfl rfl _ _ (hr _) ?_)
          go_roundw
          case rel => exact ⟨p + 1 + 0, l ++ [⟨3, p, 0, [c]⟩], by go_num, by omega, by simp; omega, HS2.out, by simpa using HK.out, HTW2.out⟩
          case measure => simp [intOf]; omega
        by_cases e86 : x = 86
        · have hcc := h86.1 e86
          have hstep := step_pv (p := p) (r := r) hB (by rw [hcc]; decide) (by rw [hcc]; simp)
          have HS2 := Lib.hid (ref_go HDR.out hstep HSC.out)
          have hstr := (bt_sub (k := 1) HBR.out HLN.out hp (by omega)).str
          rw [show (L.drop p).take 1 = [c] from by rw [HDR.out]; rfl] at hstr
          obtain ⟨TX, hTX⟩ : ∃ z : ByteArray, ⟨[c].toArray⟩ = z := ⟨_, rfl⟩
          rw [hTX] at hstr
          obtain ⟨ta', tc', w', hr, hk, ht2⟩ := tks_put HTK.out HTW.out ⟨3, p, 0, [c]⟩ TX hTX (by omega)
          have HK := Lib.hid hk
          have HTW2 := Lib.hid ht2
          dsimp only at hr
          clear hk ht2
          clear h123 h80 h86 hcc hstep hTX
          subst e86
          go_wp2_with (at_builtin; refine Lib.wpList_append_run _ rfl _ _ _ _ rfl _ _ rfl rfl _ _ (hr _) ?_)
          go_roundw
          case rel => exact ⟨p + 1 + 0, l ++ [⟨3, p, 0, [c]⟩], by go_num, by omega, by simp; omega, HS2.out, by simpa using HK.out, HTW2.out⟩
          case measure => simp [intOf]; omega
        have h123f : ¬ c = 123 := fun e => e123 (h123.2 e)
        have hpvf : ¬ (c = 80 ∨ c = 86) := fun e => by rcases e with e | e; exact e80 (h80.2 e); exact e86 (h86.2 e)
        clear h123 h80 h86
        have b32 : (x == 32) = false := beqF e32
        have b9 : (x == 9) = false := beqF e9
        have b10 : (x == 10) = false := beqF e10
        have b13 : (x == 13) = false := beqF e13
        have b123 : (x == 123) = false := beqF e123
        have b80 : (x == 80) = false := beqF e80
        have b86 : (x == 86) = false := beqF e86
        by_cases hlet : isLet c = true
        · have hst := step_let (p := p) (r := r) hB h123f hpvf hlet
          unfold nameT at hst
          have hcc : letDig c = true := by unfold letDig; rw [hlet]; rfl
          obtain ⟨m, hm⟩ : ∃ m, (r.takeWhile letDig).length = m := ⟨_, rfl⟩
          have hml : m ≤ r.length := by rw [← hm]; exact takeWhile_le _ _
          have HTA : Hid (∀ j, j < m → letDig (L.getD (p + 1 + j) 0) = true) := Lib.hid (fun j hj => by rw [← tail_at HDR.out]; exact tw_at letDig r j (by omega))
          have HTB : Hid (m < r.length → letDig (L.getD (p + 1 + m) 0) = false) := Lib.hid (fun hj => by rw [← tail_at HDR.out, ← hm]; exact tw_end letDig r (by omega))
          have htk : r.takeWhile letDig = r.take m := by rw [← hm]; exact tw_take letDig r
          rw [htk] at hst
          rw [HRL.out] at hml
          have hlen : (c :: r.take m).length = m + 1 := by rw [List.length_cons, List.length_take, HRL.out]; omega
          have hlen2 : (r.take m).length = m := by rw [List.length_take, HRL.out]; omega
          rw [hlen, hlen2] at hst
          have HST := Lib.hid hst
          have hstr := (bt_sub (k := m + 1) HBR.out HLN.out hp (by omega)).str
          rw [show (L.drop p).take (m + 1) = c :: r.take m from by rw [HDR.out]; rfl] at hstr
          rw [show m + 1 = p + 1 + m - p from by omega] at hstr
          obtain ⟨TX, hTX⟩ : ∃ z : ByteArray, ⟨(c :: r.take m).toArray⟩ = z := ⟨_, rfl⟩
          rw [hTX] at hstr
          have HTX := Lib.hid hTX
          have hTL : TX.data.toList = c :: r.take m := by rw [← hTX]
          have hTS : TX.size = m + 1 := by rw [← hlen, ← hTX]; simp [ByteArray.size]
          have HTS := Lib.hid hTS
          have HWC := Lib.hid (rword_any TX wr)
          rw [hTL] at HWC
          have hlc := HLC.out
          rw [hlet] at hlc
          have HLT := Lib.hid hlc
          clear hst hcc hm htk hlen hlen2 hTX hTL hTS hlet hlc HLC h123f hpvf
          go_wp2_with fail
          refine HLT.out.mono ?_
          rintro e w2 ⟨rfl, rfl⟩
          go_upto_block 5 with fail
          go_cut [7] from 107 to 126 (fun v7 wx => v7 = .int .i64 ((p + 1 + m : Nat) : Int) ∧ wr = wx)
          case first =>
            clear hstr
            go_wp2_with fail
            go_loop [7] (fun v7 => ∃ q : Nat, v7 = .int .i64 ((p + 1 + q : Nat) : Int) ∧ q ≤ m) (fun v7 => n - (intOf v7).toNat)
            case atStart => exact ⟨0, by go_num, Nat.zero_le _⟩
            case round =>
              obtain ⟨q, rfl, hq⟩ := hrel
              by_cases hqn : p + 1 + q < n
              · have hlt : decide (((p + 1 + q : Nat) : Int) < (n : Int)) = true := dT (by omega)
                obtain ⟨g', off', he', _, hcq0⟩ := HBR.out.ix (i := p + 1 + q) (by rw [HLN.out]; omega)
                cases he'
                have hcq := hcq0 [] wr (Touch.refl _ _) (by simp)
                obtain ⟨d, hd⟩ : ∃ d, L.getD (p + 1 + q) 0 = d := ⟨_, rfl⟩
                rw [hd] at hcq
                have HLD := Lib.hid (rletter_any d wr)
                have HGD := Lib.hid (rdigit_any d wr)
                have HD := Lib.hid hd
                obtain ⟨y, hy⟩ : ∃ y : Int, (d.toNat : Int) = y := ⟨_, rfl⟩
                rw [hy] at hcq HLD HGD
                clear hcq0 hd hy
                by_cases hqm : q < m
                · have hne := HTA.out q hqm
                  rw [HD.out] at hne
                  cases hl1 : isLet d with
                  | true =>
                    rw [hl1] at HLD
                    clear hne hl1
                    go_wp2_with fail
                    refine HLD.out.mono ?_
                    rintro e w2 ⟨rfl, rfl⟩
                    go_wp2_with fail
                    go_round
                    case rel => exact ⟨q + 1, by go_num, by omega⟩
                    case measure => simp [intOf]; omega
                  | false =>
                    have hg1 : isDig d = true := by unfold letDig at hne; rw [hl1] at hne; exact hne
                    rw [hl1] at HLD
                    rw [hg1] at HGD
                    clear hne hl1 hg1
                    go_wp2_with fail
                    refine HLD.out.mono ?_
                    rintro e w2 ⟨rfl, rfl⟩
                    go_wp2_with fail
                    refine HGD.out.mono ?_
                    rintro e w2 ⟨rfl, rfl⟩
                    go_wp2_with fail
                    go_round
                    case rel => exact ⟨q + 1, by go_num, by omega⟩
                    case measure => simp [intOf]; omega
                · obtain rfl : q = m := by omega
                  have hne := HTB.out (by have := HRL.out; omega)
                  rw [HD.out] at hne
                  have hl1 : isLet d = false := by unfold letDig at hne; rw [Bool.or_eq_false_iff] at hne; exact hne.1
                  have hg1 : isDig d = false := by unfold letDig at hne; rw [Bool.or_eq_false_iff] at hne; exact hne.2
                  rw [hl1] at HLD
                  rw [hg1] at HGD
                  clear hne hl1 hg1
                  go_wp2_with fail
                  refine HLD.out.mono ?_
                  rintro e w2 ⟨rfl, rfl⟩
                  go_wp2_with fail
                  refine HGD.out.mono ?_
                  rintro e w2 ⟨rfl, rfl⟩
                  go_wp2_with fail
                  go_meet
                  case rel => exact ⟨rfl, rfl⟩
              · have hlt : decide (((p + 1 + q : Nat) : Int) < (n : Int)) = false := dF (by omega)
                obtain rfl : q = m := by omega
                go_wp2_with fail
                go_meet
                case rel => exact ⟨rfl, rfl⟩
          case rest =>
            obtain ⟨rfl, rfl⟩ := hcut
            go_wp2_with fail
            cases hw : isWord (c :: r.take m) with
            | true =>
              have hst := HST.out
              rw [hw, if_pos rfl] at hst
              have HS2 := Lib.hid (ref_go HDR.out hst HSC.out)
              rw [hw] at HWC
              clear hst hw hstr
              refine HWC.out.mono ?_
              rintro e w2 ⟨rfl, ht⟩
              have HTKa := Lib.hid (HTK.out.touch ht (fun _ _ => by simp))
              have HTWa := Lib.hid (HTW.out.trans ht)
              clear ht
              obtain ⟨ta', tc', w', hr, hk, ht2⟩ := tks_put HTKa.out HTWa.out ⟨3, p, 0, c :: r.take m⟩ TX HTX.out (by omega)
              have HK := Lib.hid hk
              have HTW2 := Lib.hid ht2
              dsimp only at hr
              clear hk ht2
              go_wp2_with (at_builtin; refine Lib.wpList_append_run _ rfl _ _ _ _ rfl _ _ rfl rfl _ _ (hr _) ?_)
              go_roundw
              case rel => exact ⟨p + 1 + m, l ++ [⟨3, p, 0, c :: r.take m⟩], by go_num, by omega, by simp; omega, HS2.out, by simpa using HK.out, HTW2.out⟩
              case measure => simp [intOf]; omega
            | false =>
              have hst := HST.out
              rw [hw, if_neg (by decide)] at hst
              rw [hw] at HWC
              have hTS : TX.size = m + 1 := HTS.out
              clear hw hstr
              refine HWC.out.mono ?_
              rintro e w2 ⟨rfl, ht⟩
              have HTKa := Lib.hid (HTK.out.touch ht (fun _ _ => by simp))
              have HTWa := Lib.hid (HTW.out.trans ht)
              clear ht
              by_cases h12 : 12 < m + 1
              · rw [if_pos h12] at hst
                have HALL := Lib.hid (ref_bad HLN.out h16 HDR.out hst HSC.out)
                have d12 : decide ((12 : Int) < ((m + 1 : Nat) : Int)) = true := dT (by omega)
                have nbX := HNB.out.touch HTWa.out (by simp)
                have d0_ := nbX.cell (i := 0) rfl
                have d1_ := nbX.cell (i := 1) rfl
                have df := nbX.free
                have nbY := (nbX.set 0 (.int .i64 12)).set 1 (.int .i64 (p : Int))
                have HTE : Hid (Touch [] w ((w2.setCell ⟨w.heap.size, 0, none⟩ (.int .i64 12)).setCell ⟨w.heap.size, 1, none⟩ (.int .i64 (p : Int)))) := Lib.hid ((HT1.out.trans HTWa.out).transF (((Touch.refl [w.heap.size] w2).setCell (by simp) _).setCell (by simp) _) (fun q hq hlt => by have := List.mem_singleton.1 hq; omega))
                have e0_ := nbY.cell (i := 0) rfl
                have e1_ := nbY.cell (i := 1) rfl
                clear nbX nbY
                clear hst
                go_wp2_with fail
                (try simp only [Exit.inBlock, Exit.then]); refine bodyPost_ret (by simp [results, Tryd.results8, go_sem, e0_, e1_]; try rfl) rfl ?_
                refine ⟨HTE.out, ?_⟩
                rw [HALL.out]
              · rw [if_neg h12] at hst
                have HS2 := Lib.hid (ref_go HDR.out hst HSC.out)
                have d12 : decide ((12 : Int) < ((m + 1 : Nat) : Int)) = false := dF (by omega)
                clear hst
                obtain ⟨ta', tc', w', hr, hk, ht2⟩ := tks_put HTKa.out HTWa.out ⟨1, p, 0, c :: r.take m⟩ TX HTX.out (by omega)
                have HK := Lib.hid hk
                have HTW2 := Lib.hid ht2
                dsimp only at hr
                clear hk ht2
                go_wp2_with (at_builtin; refine Lib.wpList_append_run _ rfl _ _ _ _ rfl _ _ rfl rfl _ _ (hr _) ?_)
                go_roundw
                case rel => exact ⟨p + 1 + m, l ++ [⟨1, p, 0, c :: r.take m⟩], by go_num, by omega, by simp; omega, HS2.out, by simpa using HK.out, HTW2.out⟩
                case measure => simp [intOf]; omega
        have hlf : isLet c = false := by simpa using hlet
        have hlc := HLC.out
        rw [hlf] at hlc
        have HLT := Lib.hid hlc
        clear hlet hlc HLC
        by_cases hdig : isDig c = true
        · have hst := step_dig (p := p) (r := r) hB h123f hpvf hlf hdig
          unfold numT at hst
          obtain ⟨m, hm⟩ : ∃ m, (r.takeWhile isDig).length = m := ⟨_, rfl⟩
          have hml : m ≤ r.length := by rw [← hm]; exact takeWhile_le _ _
          have HTA : Hid (∀ j, j < m → isDig (L.getD (p + 1 + j) 0) = true) := Lib.hid (fun j hj => by rw [← tail_at HDR.out]; exact tw_at isDig r j (by omega))
          have HTB : Hid (m < r.length → isDig (L.getD (p + 1 + m) 0) = false) := Lib.hid (fun hj => by rw [← tail_at HDR.out, ← hm]; exact tw_end isDig r (by omega))
          have htk : r.takeWhile isDig = r.take m := by rw [← hm]; exact tw_take isDig r
          have hall : ∀ y ∈ c :: r.take m, isDig y = true := by
            intro y hy
            rcases List.mem_cons.1 hy with rfl | hy
            · exact hdig
            · rw [← htk] at hy; exact take_dig _ _ y hy
          rw [htk] at hst
          rw [HRL.out] at hml
          have hlen2 : (r.take m).length = m := by rw [List.length_take, HRL.out]; omega
          rw [hlen2] at hst
          have HST := Lib.hid hst
          have hbt := bt_sub (k := m + 1) HBR.out HLN.out hp (by omega)
          rw [show (L.drop p).take (m + 1) = c :: r.take m from by rw [HDR.out]; rfl] at hbt
          rw [show m + 1 = p + 1 + m - p from by omega] at hbt
          have HNC := Lib.hid (rnumber_any wr _ _ hbt hall (by rw [List.length_cons, hlen2]; omega))
          have hgc := HGC.out
          rw [hdig] at hgc
          have HGT := Lib.hid hgc
          clear hst hm htk hall hlen2 hbt hgc HGC hdig hlf h123f hpvf
          go_wp2_with fail
          refine HLT.out.mono ?_
          rintro e w2 ⟨rfl, rfl⟩
          go_wp2_with fail
          refine HGT.out.mono ?_
          rintro e w2 ⟨rfl, rfl⟩
          go_upto_block 7 with fail
          go_cut [7] from 154 to 166 (fun v7 wx => v7 = .int .i64 ((p + 1 + m : Nat) : Int) ∧ wr = wx)
          case first =>
            go_wp2_with fail
            go_loop [7] (fun v7 => ∃ q : Nat, v7 = .int .i64 ((p + 1 + q : Nat) : Int) ∧ q ≤ m) (fun v7 => n - (intOf v7).toNat)
            case atStart => exact ⟨0, by go_num, Nat.zero_le _⟩
            case round =>
              obtain ⟨q, rfl, hq⟩ := hrel
              by_cases hqn : p + 1 + q < n
              · have hlt : decide (((p + 1 + q : Nat) : Int) < (n : Int)) = true := dT (by omega)
                obtain ⟨g', off', he', _, hcq0⟩ := HBR.out.ix (i := p + 1 + q) (by rw [HLN.out]; omega)
                cases he'
                have hcq := hcq0 [] wr (Touch.refl _ _) (by simp)
                obtain ⟨d, hd⟩ : ∃ d, L.getD (p + 1 + q) 0 = d := ⟨_, rfl⟩
                rw [hd] at hcq
                have HGD := Lib.hid (rdigit_any d wr)
                have HD := Lib.hid hd
                obtain ⟨y, hy⟩ : ∃ y : Int, (d.toNat : Int) = y := ⟨_, rfl⟩
                rw [hy] at hcq HGD
                clear hcq0 hd hy
                by_cases hqm : q < m
                · have hne := HTA.out q hqm
                  rw [HD.out] at hne
                  rw [hne] at HGD
                  clear hne
                  go_wp2_with fail
                  refine HGD.out.mono ?_
                  rintro e w2 ⟨rfl, rfl⟩
                  go_wp2_with fail
                  go_round
                  case rel => exact ⟨q + 1, by go_num, by omega⟩
                  case measure => simp [intOf]; omega
                · obtain rfl : q = m := by omega
                  have hne := HTB.out (by have := HRL.out; omega)
                  rw [HD.out] at hne
                  rw [hne] at HGD
                  clear hne
                  go_wp2_with fail
                  refine HGD.out.mono ?_
                  rintro e w2 ⟨rfl, rfl⟩
                  go_wp2_with fail
                  go_meet
                  case rel => exact ⟨rfl, rfl⟩
              · have hlt : decide (((p + 1 + q : Nat) : Int) < (n : Int)) = false := dF (by omega)
                obtain rfl : q = m := by omega
                go_wp2_with fail
                go_meet
                case rel => exact ⟨rfl, rfl⟩
          case rest =>
            obtain ⟨rfl, rfl⟩ := hcut
            by_cases hV : valD (c :: r.take m) ≤ 9223372036854775807
            · have hst := HST.out
              rw [if_pos hV] at hst
              have HS2 := Lib.hid (ref_go HDR.out hst HSC.out)
              have HNC2 := Lib.hid (HNC.out.mono fun e w' h => (show wr = w' ∧ e = .returned (.tuple #[.int .i64 ((valD (c :: r.take m) : Nat) : Int), .bool true]) from ⟨h.1, by rw [h.2, if_pos hV, dT hV]⟩))
              obtain ⟨V, hVV⟩ : ∃ V : Nat, valD (c :: r.take m) = V := ⟨_, rfl⟩
              rw [hVV] at HNC2 HS2
              clear hst hV hVV HNC
              go_wp2_with fail
              refine HNC2.out.mono ?_
              rintro e w2 ⟨rfl, rfl⟩
              obtain ⟨ta', tc', w', hr, hk, ht2⟩ := tks_put HTK.out HTW.out ⟨2, p, V, []⟩ ⟨#[]⟩ rfl (by omega)
              have HK := Lib.hid hk
              have HTW2 := Lib.hid ht2
              dsimp only at hr
              clear hk ht2
              go_wp2_with (at_builtin; refine Lib.wpList_append_run _ rfl _ _ _ _ rfl _ _ rfl rfl _ _ (hr _) ?_)
              go_roundw
              case rel => exact ⟨p + 1 + m, l ++ [⟨2, p, V, []⟩], by go_num, by omega, by simp; omega, HS2.out, by simpa using HK.out, HTW2.out⟩
              case measure => simp [intOf]; omega
            · have hst := HST.out
              rw [if_neg hV] at hst
              have HALL := Lib.hid (ref_bad HLN.out h16 HDR.out hst HSC.out)
              have HNC2 := Lib.hid (HNC.out.mono fun e w' h => (show wr = w' ∧ e = .returned (.tuple #[.int .i64 0, .bool false]) from ⟨h.1, by rw [h.2, if_neg hV, dF hV]⟩))
              clear hst hV HNC
              go_wp2_with fail
              refine HNC2.out.mono ?_
              rintro e w2 ⟨rfl, rfl⟩
              have nbX := HNB.out.touch HTW.out (by simp)
              have d0_ := nbX.cell (i := 0) rfl
              have d1_ := nbX.cell (i := 1) rfl
              have df := nbX.free
              have nbY := (nbX.set 0 (.int .i64 13)).set 1 (.int .i64 (p : Int))
              have HTE : Hid (Touch [] w ((wr.setCell ⟨w.heap.size, 0, none⟩ (.int .i64 13)).setCell ⟨w.heap.size, 1, none⟩ (.int .i64 (p : Int)))) := Lib.hid ((HT1.out.trans HTW.out).transF (((Touch.refl [w.heap.size] wr).setCell (by simp) _).setCell (by simp) _) (fun q hq hlt => by have := List.mem_singleton.1 hq; omega))
              have e0_ := nbY.cell (i := 0) rfl
              have e1_ := nbY.cell (i := 1) rfl
              clear nbX nbY
              go_wp2_with fail
              (try simp only [Exit.inBlock, Exit.then]); refine bodyPost_ret (by simp [results, Tryd.results8, go_sem, e0_, e1_]; try rfl) rfl ?_
              refine ⟨HTE.out, ?_⟩
              rw [HALL.out]
        have hdf : isDig c = false := by simpa using hdig
        have hgc := HGC.out
        rw [hdf] at hgc
        have HGT := Lib.hid hgc
        have hst := step_sgn (p := p) (r := r) hB h123f hpvf hlf hdf
        unfold sgnT at hst
        have hbt := bt_sub (k := n - p) HBR.out HLN.out hp (by omega)
        rw [show (L.drop p).take (n - p) = c :: r from by rw [List.take_of_length_le (by rw [List.length_drop, HLN.out]; exact Nat.le_refl _)]; exact HDR.out] at hbt
        have HSN := Lib.hid (rsign_any wr _ c r hbt (by rw [List.length_cons, HRL.out]; omega))
        clear hdig hgc HGC hbt h123f hpvf hlf hdf
        cases hsg : sgnL (c :: r) with
        | zero =>
          rw [hsg] at hst HSN
          have hst : stepT p c r = .bad 11 := hst
          have HALL := Lib.hid (ref_bad HLN.out h16 HDR.out hst HSC.out)
          clear hst hsg
          go_wp2_with fail
          refine HLT.out.mono ?_
          rintro e w2 ⟨rfl, rfl⟩
          go_wp2_with fail
          refine HGT.out.mono ?_
          rintro e w2 ⟨rfl, rfl⟩
          go_wp2_with fail
          refine HSN.out.mono ?_
          rintro e w2 ⟨rfl, ht⟩
          have HTWa := Lib.hid (HTW.out.trans ht)
          clear ht
          have nbX := HNB.out.touch HTWa.out (by simp)
          have d0_ := nbX.cell (i := 0) rfl
          have d1_ := nbX.cell (i := 1) rfl
          have df := nbX.free
          have nbY := (nbX.set 0 (.int .i64 11)).set 1 (.int .i64 (p : Int))
          have HTE : Hid (Touch [] w ((w2.setCell ⟨w.heap.size, 0, none⟩ (.int .i64 11)).setCell ⟨w.heap.size, 1, none⟩ (.int .i64 (p : Int)))) := Lib.hid ((HT1.out.trans HTWa.out).transF (((Touch.refl [w.heap.size] w2).setCell (by simp) _).setCell (by simp) _) (fun q hq hlt => by have := List.mem_singleton.1 hq; omega))
          have e0_ := nbY.cell (i := 0) rfl
          have e1_ := nbY.cell (i := 1) rfl
          clear nbX nbY
          go_wp2_with fail
          (try simp only [Exit.inBlock, Exit.then]); refine bodyPost_ret (by simp [results, Tryd.results8, go_sem, e0_, e1_]; try rfl) rfl ?_
          refine ⟨HTE.out, ?_⟩
          rw [HALL.out]
        | succ k =>
          rw [hsg] at hst HSN
          have hst : stepT p c r = .go k [⟨4, p, 0, (c :: r).take (k + 1)⟩] := hst
          have hkr := step_le hst
          rw [HRL.out] at hkr
          have HS2 := Lib.hid (ref_go HDR.out hst HSC.out)
          clear hst hsg
          go_wp2_with fail
          refine HLT.out.mono ?_
          rintro e w2 ⟨rfl, rfl⟩
          go_wp2_with fail
          refine HGT.out.mono ?_
          rintro e w2 ⟨rfl, rfl⟩
          go_wp2_with fail
          refine HSN.out.mono ?_
          rintro e w2 ⟨rfl, ht⟩
          have hstr := (bt_sub (k := k + 1) (HBR.out.touch ht (by simp)) HLN.out hp (by omega)).str
          rw [HDR.out] at hstr
          obtain ⟨TX, hTX⟩ : ∃ z : ByteArray, ⟨((c :: r).take (k + 1)).toArray⟩ = z := ⟨_, rfl⟩
          rw [hTX] at hstr
          have HTKa := Lib.hid (HTK.out.touch ht (fun _ _ => by simp))
          have HTWa := Lib.hid (HTW.out.trans ht)
          obtain ⟨ta', tc', w', hr, hk, ht2⟩ := tks_put HTKa.out HTWa.out ⟨4, p, 0, (c :: r).take (k + 1)⟩ TX hTX (by omega)
          have HK := Lib.hid hk
          have HTW2 := Lib.hid ht2
          dsimp only at hr
          clear hk ht2
          clear ht hTX
          have hsn0 : (((k + 1 : Nat) : Int) == 0) = false := by simp; omega
          have hsn1 : (k + 1 == 0) = false := by simp
          go_wp2_with (at_builtin; refine Lib.wpList_append_run _ rfl _ _ _ _ rfl _ _ rfl rfl _ _ (hr _) ?_)
          go_roundw
          case rel => exact ⟨p + 1 + k, l ++ [⟨4, p, 0, (c :: r).take (k + 1)⟩], by go_num, by omega, by simp; omega, HS2.out, by simpa using HK.out, HTW2.out⟩
          case measure => simp [intOf]; omega
      · obtain rfl : p = n := by omega
        have hpl : decide ((p : Int) < (p : Int)) = false := dF (by omega)
        have HALL : Hid (allT L = .ok (l ++ [⟨5, p, 0, []⟩])) := Lib.hid (by
          unfold allT
          rw [HLN.out, if_neg (by omega), ← HSC.out, show L.drop p = [] from List.drop_eq_nil_of_le (by rw [HLN.out]; exact Nat.le_refl _), scan_nil])
        clear hpn hp
        obtain ⟨ta', tc', w', hr, hk, ht2⟩ := tks_put HTK.out HTW.out ⟨5, p, 0, []⟩ ⟨#[]⟩ rfl (by omega)
        have HK := Lib.hid hk
        have HTW2 := Lib.hid ht2
        dsimp only at hr
        clear hk ht2
        have hw1s : w.heap.size < w1.heap.size := HNB.out.lt
        have nbX := HNB.out.touch HTW2.out (by simp)
        have d0_ := nbX.cell (i := 0) rfl
        have d1_ := nbX.cell (i := 1) rfl
        have df := nbX.free
        have nbY := (nbX.set 0 (.int .i64 0)).set 1 (.int .i64 0)
        have tY : Touch [w.heap.size] w' ((w'.setCell ⟨w.heap.size, 0, none⟩ (.int .i64 0)).setCell ⟨w.heap.size, 1, none⟩ (.int .i64 0)) := ((Touch.refl [w.heap.size] w').setCell (by simp) _).setCell (by simp) _
        have HTE : Hid (Touch [] w ((w'.setCell ⟨w.heap.size, 0, none⟩ (.int .i64 0)).setCell ⟨w.heap.size, 1, none⟩ (.int .i64 0))) := Lib.hid ((HT1.out.trans HTW2.out).transF tY (fun q hq hlt => by have := List.mem_singleton.1 hq; omega))
        have HTKF : Hid (Tks ((w'.setCell ⟨w.heap.size, 0, none⟩ (.int .i64 0)).setCell ⟨w.heap.size, 1, none⟩ (.int .i64 0)) w.heap.size (.slice ta' (l.length + 1) tc') (l ++ [⟨5, p, 0, []⟩])) := Lib.hid ((HK.out.touch tY (fun k hk2 => by have h9 := (HK.out.own k hk2).1; simp; omega)).mono (by omega))
        have e0_ := nbY.cell (i := 0) rfl
        have e1_ := nbY.cell (i := 1) rfl
        clear nbX nbY tY
        go_wp2_with (at_builtin; refine Lib.wpList_append_run _ rfl _ _ _ _ rfl _ _ rfl rfl _ _ (hr _) ?_)
        (try simp only [Exit.inBlock, Exit.then]); refine bodyPost_ret (by simp [results, Tryd.results8, go_sem, e0_, e1_]; try rfl) rfl ?_
        refine ⟨HTE.out, ?_⟩
        rw [HALL.out]
        exact ⟨_, rfl, HTKF.out⟩
end Go.Proofs.YtdlhaadnfmpldaaDoor
