/-
  All tokens, by the program.
-/
import Derived.Test.YtdlhaadnfmpldaaDoorTKJ
import Derived.Test.YtdlhaadnfmpldaaDoorTKK
set_option linter.unusedVariables false
namespace Go.Proofs.YtdlhaadnfmpldaaDoor
open Go Go.RowKit

def AllP (w : World) (b : List UInt8) (e : Ending) (w' : World) : Prop := Touch [] w w' ∧ match allT b with
  | .ok T => ∃ v, e = .returned (.tuple #[v, .agg #[.int .i64 0, .int .i64 0]]) ∧ Tks w' w.heap.size v T
  | .bad c a => e = .returned (.tuple #[.slice none 0 0, .agg #[.int .i64 c, .int .i64 a]])
/-- Behind the reader's making. -/
def Made (w1 : World) (s : ByteArray) (v4 : Value) (w' : World) : Prop := ∃ rb mb, v4 = .pointer (some ⟨rb, 0, none⟩) ∧ Rdr ⟨w1, none, none⟩ w' rb mb s (.slice none 0 0) []
theorem made_A {w1 w2 : World} {mb nm : Nat} {s : ByteArray} (hm : Mp Value.string w2 mb wdM nm) (ht : Touch [] w1 w2) (hlo : w1.heap.size ≤ mb) :
    Made w1 s (.pointer (some ⟨w2.heap.size, 0, none⟩)) (w2.alloc (.cells #[.string s, .map (some mb), .slice none 0 0] 44)) := by
  have hl := hm.lt
  have t1 : Touch [] w2 (w2.alloc (.cells #[.string s, .map (some mb), .slice none 0 0] 44)) := (Touch.refl _ _).alloc _
  exact ⟨_, mb, rfl, Blk.new rfl, ⟨nm, hm.touch t1 (by simp)⟩, Av.nil _ _ _ _ _, by omega, fun k hk => by simp [Value.ownBlock] at hk, ⟨ht.size, hlo⟩, ht.trans t1, fun k hk => by cases hk⟩
theorem made_B {w1 w2 : World} {mb nm rb : Nat} {s : ByteArray} {x y z : Value} (hm : Mp Value.string w2 mb wdM nm) (ht : Touch [] w1 w2) (hlo : w1.heap.size ≤ mb) (hb : Blk w2 rb #[x, y, z] 44) (hr : w1.heap.size ≤ rb) (hne : rb ≠ mb) :
    Made w1 s (.pointer (some ⟨rb, 0, none⟩)) (((w2.setCell ⟨rb, 0, none⟩ (.string s)).setCell ⟨rb, 1, none⟩ (.map (some mb))).setCell ⟨rb, 2, none⟩ (.slice none 0 0)) := by
  have t1 : Touch [rb] w2 (((w2.setCell ⟨rb, 0, none⟩ (.string s)).setCell ⟨rb, 1, none⟩ (.map (some mb))).setCell ⟨rb, 2, none⟩ (.slice none 0 0)) := (((Touch.refl _ _).setCell (by simp) _).setCell (by simp) _).setCell (by simp) _
  exact ⟨_, mb, rfl, ((hb.set 0 (.string s)).set 1 (.map (some mb))).set 2 (.slice none 0 0), ⟨nm, hm.touch t1 (by simp; omega)⟩, Av.nil _ _ _ _ _, hne, fun k hk => by simp [Value.ownBlock] at hk, ⟨hr, hlo⟩, ht.transF t1 (fun q hq hlt => by have := List.mem_singleton.1 hq; omega), fun k hk => by cases hk⟩
theorem touch_iter (w : World) (ib : Nat) (s : ByteArray) (p : Nat) : Touch [ib] w (w.iterAt ib s p) :=
  ⟨rfl, rfl, rfl, by rw [Lib.iterAt_size]; exact Nat.le_refl _, fun i hi hn => by
    have : i ≠ ib := by simpa using hn
    show (w.heap.setIfInBounds ib _)[i]? = _
    rw [Array.getElem?_setIfInBounds_ne (by omega)]⟩
theorem Rdr.start {w1 w : World} {rb mb : Nat} {s : ByteArray} {tv : Value} {l : List Tok} (h : Rdr ⟨w1, none, none⟩ w rb mb s tv l) :
    Rdr ⟨w1, some w.heap.size, some (.stringIter s 0)⟩ (w.alloc (.stringIter s 0)) rb mb s tv l := by
  have ht : Touch [] w (w.alloc (.stringIter s 0)) := (Touch.refl _ _).alloc _
  have h2 := h.touch ht
  exact ⟨h2.obj, h2.mp, h2.tk, h2.ne, h2.nt, h2.lo, h2.t, fun k hk => by
    have e : w.heap.size = k := Option.some.inj hk
    subst e
    refine ⟨World.iter_heap w s 0, by have := h.obj.lt; omega, fun e => by have := (h.tk.own _ e).2; omega, h.t.size, by simp⟩⟩
theorem Rdr.iter {w1 w : World} {ib p q rb mb : Nat} {s : ByteArray} {tv : Value} {l : List Tok} (h : Rdr ⟨w1, some ib, some (.stringIter s p)⟩ w rb mb s tv l) (hm : ib ≠ mb) :
    Rdr ⟨w1, some ib, some (.stringIter s q)⟩ (w.iterAt ib s q) rb mb s tv l := by
  have ht := touch_iter w ib s q
  obtain ⟨a1, a2, a3, a4, a5⟩ := h.it ib rfl
  obtain ⟨n, hmp⟩ := h.mp
  exact ⟨h.obj.touch ht (by simp; omega), ⟨n, hmp.touch ht (by simp; omega)⟩, h.tk.touch ht (fun k hk hh => a3 (by have := List.mem_singleton.1 hh; subst this; exact hk)), h.ne, h.nt, h.lo,
    h.t.transF ht (fun i hi hlt => by have := List.mem_singleton.1 hi; subst this; have : w1.heap.size ≤ i := a4; omega), fun k hk => by
    have e : ib = k := Option.some.inj hk
    subst e
    exact ⟨Lib.iterAt_heap w ib s p q a1, a2, a3, a4, by rw [Lib.iterAt_size]; exact a5⟩⟩
theorem step_bad {p : Nat} {c : UInt8} {r : List UInt8} {x : Int} (h : stepT p c r = .bad x) : x ≠ 0 := by
  unfold stepT at h
  split at h
  · cases h
  split at h
  · split at h
    · cases h; decide
    · cases h
  split at h
  · cases h
  split at h
  · split at h
    · cases h
    · split at h
      · cases h; decide
      · cases h
  split at h
  · split at h
    · cases h
    · cases h; decide
  · split at h
    · cases h; decide
    · cases h
theorem drop_one {L : List UInt8} {p : Nat} (h : p < L.length) : ∃ r, L.drop p = L.getD p 0 :: r := by
  refine ⟨L.drop (p + 1), ?_⟩
  rw [List.drop_eq_getElem_cons h, List.getD_eq_getElem?_getD, List.getElem?_eq_getElem h]
  rfl
theorem drop_more {L r : List UInt8} {p : Nat} {c : UInt8} (h : L.drop p = c :: r) (k : Nat) : r.drop k = L.drop (p + 1 + k) := by
  have : r = L.drop (p + 1) := by
    have e := congrArg (List.drop 1) h
    rw [List.drop_drop] at e
    simpa using e.symm
  rw [this, List.drop_drop]
/-- Where the next rune begins, no byte that ends a token having been passed. -/
theorem next_rune (s : ByteArray) {pos q : Nat} (hp : pos < s.size) (hq : pos < q) (hqs : q ≤ s.size) (ha : (s.data.toList.getD (q - 1) 0).toNat < 128) : pos + (Utf8.decode s pos).2 ≤ q := by
  rcases Nat.lt_or_ge pos (q - 1) with h | h
  · have := decode_low s pos (q - 1) h (by rw [get_byte s (q - 1) (by omega)]; exact ha)
    omega
  · have e : pos = q - 1 := by omega
    rw [← e, byte_at s pos hp] at ha
    rw [decode_ascii s pos hp ha]
    show pos + 1 ≤ q
    omega
set_option maxHeartbeats 8000000 in
set_option maxRecDepth 100000 in
theorem all_any (w : World) (v : Value) (L : List UInt8) (hv0 : Vs w) (hb : Bt w v L) (hL : L.length ≤ 100000) : Calls Tryd.prog 7 #[v] w (AllP w L) := by
  obtain ⟨a, cp, rfl, _⟩ := hb.form
  have HV := Lib.hid hv0
  have HB := Lib.hid hb
  obtain ⟨n, hn⟩ : ∃ n, L.length = n := ⟨_, rfl⟩
  have HLN := Lib.hid hn
  rw [hn] at HB hL ⊢
  have nb : Blk (w.alloc (.cells #[.int .i64 0, .int .i64 0] 29)) w.heap.size #[.int .i64 0, .int .i64 0] 29 := Blk.new rfl
  have HT1 := Lib.hid ((Touch.refl [] w).alloc (.cells #[.int .i64 0, .int .i64 0] 29))
  have HB1 := Lib.hid (HB.out.touch HT1.out (by simp))
  have HV1 := Lib.hid (HV.out.touch HT1.out)
  obtain ⟨w1, hw1⟩ : ∃ x, (w.alloc (.cells #[.int .i64 0, .int .i64 0] 29)) = x := ⟨_, rfl⟩
  rw [hw1] at nb HT1 HB1 HV1
  have HW1 := Lib.hid hw1
  have q0_ := nb.cell (i := 0) rfl
  have q1_ := nb.cell (i := 1) rfl
  have HNB := Lib.hid nb
  clear hv0 hb hw1 nb
  by_cases hbig : 4096 < n
  · go_enter Tryd.func7, Tryd.ntmps7
    go_wp2_with fail
    have nb2 : Blk (w.alloc (.cells #[.int .i64 16, .int .i64 4096] 29)) w.heap.size #[.int .i64 16, .int .i64 4096] 29 := Blk.new rfl
    have c0_ := nb2.cell (i := 0) rfl
    have c1_ := nb2.cell (i := 1) rfl
    (try simp only [Exit.inBlock, Exit.then]); refine bodyPost_ret (by simp [results, Tryd.results7, go_sem, c0_, c1_]; try rfl) rfl ?_
    refine ⟨(Touch.refl [] w).alloc _, ?_⟩
    unfold allT
    rw [HLN.out, if_pos hbig]
  · have h16 : n ≤ 4096 := by omega
    have hcv := HB1.out.str
    obtain ⟨s, hs⟩ : ∃ z : ByteArray, ⟨L.toArray⟩ = z := ⟨_, rfl⟩
    rw [hs] at hcv
    have hsz : s.size = n := by rw [← hs, ← hn]; simp [ByteArray.size]
    have HS := Lib.hid hs
    clear hs
    go_enter Tryd.func7, Tryd.ntmps7
    go_wp2_with fail
    rw [HW1.out]
    go_wp2_with fail
    clear hcv
    go_cut [4] from 13 (fun v4 wx => Made w1 s v4 wx)
    case first =>
      have hcv := (HB1.out.touch (Touch.refl [] w1).drew (by simp)).str
      rw [HS.out] at hcv
      have hcva := (HB1.out.touch (((Touch.refl [] w1).alloc (.cells #[.string ⟨#[]⟩, .map none, .slice none 0 0] 44)).drew) (by simp)).str
      rw [HS.out] at hcva
      go_region_with (go_at_call 14; refine (words_any _ (HV1.out.touch (by first | exact Touch.refl _ _ | exact (Touch.refl _ _).drew | exact ((Touch.refl _ _).alloc _).drew | exact (Touch.refl _ _).alloc _ | exact ((Touch.refl _ _).drew).alloc _))).mono ?_; rintro e w2 ⟨mb, nm, rfl, hm, hlo, ht⟩; have HM := Lib.hid hm; have HTX : Hid (Touch [] w1 w2) := Lib.hid (by first | exact Touch.trans (Touch.refl _ _).drew ht | exact Touch.trans ((Touch.refl _ _).alloc _).drew ht); have hcv := (HB1.out.touch HTX.out (by simp)).str; rw [HS.out] at hcv; have hcvb := (HB1.out.touch (HTX.out.alloc (.cells #[.string ⟨#[]⟩, .map none, .slice none 0 0] 44)) (by simp)).str; rw [HS.out] at hcvb; (try (have nbx := Lib.hid ((Blk.drew (Blk.new (w := w1) rfl) : Blk ((w1.alloc (.cells #[.string ⟨#[]⟩, .map none, .slice none 0 0] 44)).drew) w1.heap.size #[.string ⟨#[]⟩, .map none, .slice none 0 0] 44).touch ht (by simp)); have cc0 := nbx.out.cell (i := 0) rfl; have cc1 := nbx.out.cell (i := 1) rfl; have cc2 := nbx.out.cell (i := 2) rfl; have cf := nbx.out.free)); have HLO : Hid (w1.heap.size ≤ mb ∧ (w1.heap.size ≠ mb ∨ w1.heap.size = mb)) := Lib.hid ⟨by first | exact hlo | (have h9 := hlo; simp at h9; omega), by omega⟩; (try (have HNE : Hid (w1.heap.size ≠ mb) := Lib.hid (by have h9 := hlo; simp at h9; omega))); clear hm hlo ht)
      all_goals (go_wp2_with fail; go_meet; first | exact made_A HM.out HTX.out HLO.out.1 | exact made_B HM.out HTX.out HLO.out.1 nbx.out (Nat.le_refl _) HNE.out)
    case rest =>
      obtain ⟨rb, mb, rfl, hR⟩ := hcut
      have c0 := hR.obj.cell (i := 0) rfl
      have HRS := Lib.hid hR.start
      obtain ⟨nm, hmp⟩ := hR.mp
      have HMB : Hid (wc.heap.size ≠ mb) := Lib.hid (by have := hmp.lt; omega)
      have HSL : Hid (s.data.toList = L) := Lib.hid (by rw [← HS.out])
      clear hR hmp
      go_wp2_with fail
      obtain ⟨ib, hib⟩ : ∃ z, wc.heap.size = z := ⟨_, rfl⟩
      rw [hib] at HRS HMB ⊢
      clear hib
      go_loopw [5] (fun nv wr => ∃ (pos nx : Nat) (l : List Tok) (tv : Value), nv = .int .i64 (nx : Int) ∧ pos ≤ nx ∧ nx ≤ n ∧ (pos < nx → (L.getD (nx - 1) 0).toNat < 128) ∧ l.length ≤ nx ∧ scan (L.drop nx) nx l = scan L 0 [] ∧ Rdr ⟨w1, some ib, some (.stringIter s pos)⟩ wr rb mb s tv l) (fun _ wr => s.size + 1 - wr.iterPos ib)
      case atStart => exact ⟨0, 0, [], _, rfl, Nat.le_refl _, Nat.zero_le _, fun h => by omega, Nat.le_refl _, rfl, HRS.out⟩
      case round =>
        obtain ⟨pos, nx, l, tv, rfl, hpn, hnn, hasc, hll, hscan, hrd⟩ := hrel
        have HR := Lib.hid hrd
        have HSC := Lib.hid hscan
        have HAS := Lib.hid hasc
        have hit := (hrd.it ib rfl).1
        have HIT := Lib.hid hit
        clear hrd hscan hasc
        by_cases hp : pos < s.size
        · have hnx : ∀ ty, (Instr.next (.pointer (some ⟨ib, 0, none⟩)) true ty).run Tryd.prog wr = _ := fun ty => Lib.run_next_any_at wr ib s pos ty hit hp
          have hd1 := decode_le s pos
          have hd0 := decode_pos s pos hp
          have HI := Lib.hid (HR.out.iter (q := pos + (Utf8.decode s pos).2) HMB.out)
          have HI2 := Lib.hid (Lib.iterAt_heap wr ib s pos (pos + (Utf8.decode s pos).2) hit)
          by_cases hlt : pos < nx
          · have HNR : Hid (pos + (Utf8.decode s pos).2 ≤ nx) := Lib.hid (next_rune s hp hlt (by omega) (by rw [HSL.out]; exact HAS.out hlt))
            clear hit
            go_wp2_with fail
            go_roundw
            case rel => exact ⟨pos + (Utf8.decode s pos).2, nx, l, tv, by go_num, HNR.out, hnn, fun _ => HAS.out hlt, hll, HSC.out, HI.out⟩
            case measure =>
              have h1 := HI2.out
              have h2 := HIT.out
              simp only [World.iterPos, h1, h2]
              omega
          · obtain rfl : pos = nx := by omega
            obtain ⟨r, hdr⟩ := drop_one (L := L) (p := pos) (by rw [HLN.out]; omega)
            obtain ⟨c, hc⟩ : ∃ c, L.getD pos 0 = c := ⟨_, rfl⟩
            rw [hc] at hdr
            have HDR := Lib.hid hdr
            have hx := run1_at s pos hp (by rw [HSL.out]; exact hdr)
            obtain ⟨X, hX⟩ : ∃ z, (Utf8.decode s pos).1 = z := ⟨_, rfl⟩
            rw [hX] at hx hnx
            have HC := Lib.hid (read_any ⟨w1, some ib, some (.stringIter s (pos + (Utf8.decode s pos).2))⟩ _ rb mb s tv l pos c r (X : Int) HI.out HV1.out (by omega) hp (by omega) (by rw [HSL.out]; exact hdr) hx)
            clear hit hdr hx hX
            go_wp2_with fail
            refine HC.out.mono ?_
            intro e w5 hst
            cases hstep : stepT pos c r with
            | bad x =>
              rw [hstep] at hst
              obtain ⟨rfl, tv', hR5⟩ := hst
              have hx0 := step_bad hstep
              have HALL : Hid (allT L = .bad x pos) := Lib.hid (by
                unfold allT
                rw [HLN.out, if_neg hbig, ← HSC.out, HDR.out, scan_bad hstep])
              have nbX := HNB.out.touch hR5.t (by simp)
              have d0_ := nbX.cell (i := 0) rfl
              have d1_ := nbX.cell (i := 1) rfl
              have df := nbX.free
              have nbY := (nbX.set 0 (.int .i64 x)).set 1 (.int .i64 (pos : Int))
              have HTE : Hid (Touch [] w ((w5.setCell ⟨w.heap.size, 0, none⟩ (.int .i64 x)).setCell ⟨w.heap.size, 1, none⟩ (.int .i64 (pos : Int)))) := Lib.hid ((HT1.out.trans hR5.t).transF (((Touch.refl [w.heap.size] w5).setCell (by simp) _).setCell (by simp) _) (fun q hq hlt => by have := List.mem_singleton.1 hq; omega))
              have bx0 : (x == 0) = false := by simpa using hx0
              have e0_ := nbY.cell (i := 0) rfl
              have e1_ := nbY.cell (i := 1) rfl
              clear hR5 nbX nbY hstep
              go_wp2_with fail
              (try simp only [Exit.inBlock, Exit.then]); refine bodyPost_ret (by simp [results, Tryd.results7, go_sem, e0_, e1_]; try rfl) rfl ?_
              refine ⟨HTE.out, ?_⟩
              rw [HALL.out]
            | go k ts =>
              rw [hstep] at hst
              obtain ⟨rfl, tv', hR5⟩ := hst
              have HR5 := Lib.hid hR5
              have hk := step_le hstep
              have hlast := step_last hstep
              have HS2 : Hid (scan (L.drop (pos + 1 + k)) (pos + 1 + k) (l ++ ts) = scan L 0 []) := Lib.hid (by rw [← HSC.out, HDR.out, scan_go hstep, drop_more HDR.out])
              have hrl : r.length + 1 + pos = s.size := rest_size (by rw [HSL.out]; exact HDR.out) hp
              have hgk : L.getD (pos + 1 + k - 1) 0 = (c :: r).getD k 0 := by
                rw [show pos + 1 + k - 1 = pos + k from by omega, ← HDR.out, List.getD_eq_getElem?_getD, List.getD_eq_getElem?_getD, List.getElem?_drop]
              have HLA : Hid ((L.getD (pos + 1 + k - 1) 0).toNat < 128) := Lib.hid (by rw [hgk]; exact hlast.1)
              have HNR : Hid (pos + (Utf8.decode s pos).2 ≤ pos + 1 + k) := Lib.hid (next_rune s hp (by omega) (by omega) (by rw [HSL.out]; exact HLA.out))
              have HTL : Hid ((l ++ ts).length ≤ pos + 1 + k) := Lib.hid (by have := hlast.2; rw [List.length_append]; omega)
              clear hR5 hstep hgk hlast
              go_wp2_with fail
              go_roundw
              case rel => exact ⟨pos + (Utf8.decode s pos).2, pos + 1 + k, l ++ ts, tv', by push_cast; rfl, HNR.out, by omega, fun _ => HLA.out, HTL.out, HS2.out, HR5.out⟩
              case measure =>
                have h1 := HIT.out
                have h2 := (HR5.out.it ib rfl).1
                simp only [World.iterPos, h1, h2]
                omega
        · have hnx : ∀ ty, (Instr.next (.pointer (some ⟨ib, 0, none⟩)) true ty).run Tryd.prog wr = _ := fun ty => Lib.run_next_end_at wr ib s pos ty hit hp
          obtain rfl : nx = n := by omega
          clear hit
          obtain ⟨ta, tc, htv, _⟩ := Av.form HR.out.tk
          subst htv
          have nt : Blk (wr.alloc (.cells #[.int .i64 5, .int .i64 (nx : Int), .int .i64 0, .string ⟨#[]⟩] 38)) wr.heap.size #[.int .i64 5, .int .i64 (nx : Int), .int .i64 0, .string ⟨#[]⟩] 38 := Blk.new rfl
          have tX : Touch [] wr (wr.alloc (.cells #[.int .i64 5, .int .i64 (nx : Int), .int .i64 0, .string ⟨#[]⟩] 38)) := (Touch.refl [] wr).alloc _
          have HRX := Lib.hid (HR.out.touch tX)
          obtain ⟨v', w', hr, hk, htt, hn2⟩ := HRX.out.tk.app HRX.out.t.size ⟨5, nx, 0, []⟩ (by omega) ⟨wr.heap.size, 0, none⟩ (fun j hj => by
            rcases (by omega : j = 0 ∨ j = 1 ∨ j = 2 ∨ j = 3) with rfl | rfl | rfl | rfl
            · exact nt.cell (i := 0) rfl
            · exact nt.cell (i := 1) rfl
            · exact nt.cell (i := 2) rfl
            · exact nt.cell (i := 3) rfl)
          obtain ⟨ta', tc', htv', _⟩ := Av.form hk
          subst htv'
          have hlen : (l ++ [(⟨5, nx, 0, []⟩ : Tok)]).length = l.length + 1 := by simp
          rw [hlen] at hr hk hn2
          have HTW : Hid (Touch [] w1 w') := Lib.hid (HRX.out.t.transF htt (fun q hq hlt => by have := (HRX.out.tk.own q (Option.mem_toList.1 hq)).1; omega))
          have nbX := HNB.out.touch HTW.out (by simp)
          have d0_ := nbX.cell (i := 0) rfl
          have d1_ := nbX.cell (i := 1) rfl
          have df := nbX.free
          have nbY := (nbX.set 0 (.int .i64 0)).set 1 (.int .i64 0)
          have tY : Touch [w.heap.size] w' ((w'.setCell ⟨w.heap.size, 0, none⟩ (.int .i64 0)).setCell ⟨w.heap.size, 1, none⟩ (.int .i64 0)) := ((Touch.refl [w.heap.size] w').setCell (by simp) _).setCell (by simp) _
          have HTE : Hid (Touch [] w ((w'.setCell ⟨w.heap.size, 0, none⟩ (.int .i64 0)).setCell ⟨w.heap.size, 1, none⟩ (.int .i64 0))) := Lib.hid ((HT1.out.trans HTW.out).transF tY (fun q hq hlt => by have := List.mem_singleton.1 hq; omega))
          have hw1s : w.heap.size < w1.heap.size := HNB.out.lt
          have HTK : Hid (Tks ((w'.setCell ⟨w.heap.size, 0, none⟩ (.int .i64 0)).setCell ⟨w.heap.size, 1, none⟩ (.int .i64 0)) w.heap.size (.slice ta' (l.length + 1) tc') (l ++ [⟨5, nx, 0, []⟩])) := Lib.hid ((hk.touch tY (fun k hk2 => by have h9 := (hk.own k hk2).1; have h9 : w1.heap.size ≤ k := h9; simp; omega)).mono (by show w.heap.size ≤ w1.heap.size; omega))
          have HALL : Hid (allT L = .ok (l ++ [⟨5, nx, 0, []⟩])) := Lib.hid (by
            unfold allT
            rw [HLN.out, if_neg hbig, ← HSC.out, show L.drop nx = [] from List.drop_eq_nil_of_le (by rw [HLN.out]; exact Nat.le_refl _), scan_nil])
          have c2 := HR.out.obj.cell (i := 2) rfl
          have e0_ := nbY.cell (i := 0) rfl
          have e1_ := nbY.cell (i := 1) rfl
          clear nt tX hk htt hn2 nbX nbY tY
          go_wp2_with (at_builtin; refine Lib.wpList_append_run _ rfl _ _ _ _ rfl _ _ rfl rfl _ _ (hr _) ?_)
          (try simp only [Exit.inBlock, Exit.then]); refine bodyPost_ret (by simp [results, Tryd.results7, go_sem, e0_, e1_]; try rfl) rfl ?_
          refine ⟨HTE.out, ?_⟩
          rw [HALL.out]
          exact ⟨_, rfl, HTK.out⟩
end Go.Proofs.YtdlhaadnfmpldaaDoor
