/-
  The reference's Encode.
-/
import Derived.Test.YtoedkomckgidiaaCH
import Derived.Deep.RegionHeld3
set_option linter.unusedVariables false
namespace Go.Proofs.Ytoedkomckgidiaa
open Go Go.RowKit

set_option maxHeartbeats 32000000 in
set_option maxRecDepth 100000 in
theorem rput_any (v : Value) (bs : List Nat) (x : Int) (n : Nat) (hn8 : n ≤ 8) (w : World) (base : Nat) (hq : Qb w base v bs) (hbase : base ≤ w.heap.size) (hlen : bs.length ≤ 1000000) : Calls Try.prog 32 #[v, .int .i64 x, .int .i64 (n : Int)] w (NumP w base v (bs ++ leN n (uns x))) := by
  obtain ⟨i0, hi, hz0, hz1, hz2⟩ := infoU
  obtain ⟨U, hU⟩ : ∃ U, uns x = U := ⟨_, rfl⟩
  have hcv : IntKind.wrap .u64 x = (U : Int) := by rw [uns_wrap, hU]
  have HN : Hid (leN n (uns x) = leN n U) := Lib.hid (by rw [hU])
  have HQ0 := Lib.hid (Bw.refl hq)
  have HN8 := Lib.hid hn8
  clear hU hq
  go_enter Try.func32, Try.ntmps32
  go_wp2
  go_loopw [0, 7, 8] (fun bv uv kv wr => ∃ k : Nat, k ≤ n ∧ kv = .int .i64 (k : Int) ∧ uv = .int .u64 ((U / 256 ^ k : Nat) : Int) ∧ Bw w base v wr bv (bs ++ leN k U)) (fun _ _ kv _ => n + 1 - (intOf kv).toNat)
  case atStart => exact ⟨0, by omega, rfl, by simp, by simpa [leN] using HQ0.out⟩
  case round =>
    obtain ⟨k, hk, rfl, rfl, hb⟩ := hrel
    have hl8 : (leN k U).length = k := leN_length _ _
    obtain ⟨cs, hcs⟩ : ∃ cs, bs ++ leN k U = cs := ⟨_, rfl⟩
    have hcl : cs.length = bs.length + k := by rw [← hcs, List.length_append, hl8]
    rw [hcs] at hb
    have HB := Lib.hid hb
    clear hb HQ0 hl8
    obtain ⟨q, hq⟩ : ∃ q, U / 256 ^ k = q := ⟨_, rfl⟩
    have HS : Hid (bs ++ leN (k + 1) U = cs ++ [q % 256]) := Lib.hid (by rw [leN_snoc, hq, ← hcs, List.append_assoc])
    have HD : Hid (U / 256 ^ (k + 1) = q / 256) := Lib.hid (by rw [← hq, Nat.pow_succ, Nat.div_div_eq_div_mul])
    rw [hq]
    clear hq
    by_cases hlt : k < n
    · have hw8 : IntKind.wrap .u8 (q : Int) = ((q % 256 : Nat) : Int) := wrap_u8 q
      obtain ⟨bt, hbt⟩ : ∃ bt, q % 256 = bt := ⟨_, rfl⟩
      rw [hbt] at hw8 HS
      clear hbt hcs
      have HQ1 := Lib.hid (HB.out.q.alloc (.cells #[.int .u8 (bt : Int)] 5))
      have hsz := HB.out.t.size
      go_wp2_with (at_builtin; refine wpList_append_q Try.underlying32 hi hz0 hz1 hz2 rfl rfl _ _ rfl base _ _ rfl HQ1.out (by simp; omega) ⟨wr.heap.size, 0, none⟩ 1 (.int .u8 (bt : Int)) rfl ?c1 rfl ?c2 ?c3 ?_)
      case c1 => exact World.cell?_alloc_at _ _ _ _ rfl
      case c2 => simp; omega
      case c3 => simp; omega
      intro v' w2 hq2 hg hnew
      have HB2 := Lib.hid (HB.out.trans (Bw.one (b := bt) (.cells #[.int .u8 (bt : Int)] 5) hq2 hg (by simpa using hnew)))
      clear hq2 hg hnew
      go_wp2
      go_roundw
      case rel => exact ⟨k + 1, by omega, by go_num, by rw [HD.out]; simp, HB2.out.eq HS.out.symm⟩
      case measure => simp [intOf]; omega
    · obtain rfl : k = n := by omega
      go_wp2
      go_ret
      exact ⟨_, rfl, HB.out.eq (by rw [HN.out]; exact hcs.symm)⟩
theorem rput8_w (w0 : World) (v : Value) (bs : List Nat) (x : Int) (w : World) (h0 : Touch [] w0 w) (hq : Qb w w0.heap.size v bs) (hlen : bs.length ≤ 1000000) : Calls Try.prog 32 #[v, .int .i64 x, .int .i64 8] w (Wr w0 (bs ++ num8 x)) :=
  (rput_any v bs x 8 (by omega) w _ hq h0.size hlen).mono fun e w' ⟨v', he, hb⟩ => ⟨v', he, hb.q, hb.keep h0 hq⟩
theorem rput2_w (w0 : World) (v : Value) (bs : List Nat) (m : Nat) (w : World) (hm : m < 18446744073709551616) (h0 : Touch [] w0 w) (hq : Qb w w0.heap.size v bs) (hlen : bs.length ≤ 1000000) : Calls Try.prog 32 #[v, .int .i64 (m : Int), .int .i64 2] w (Wr w0 (bs ++ leN 2 m)) :=
  (rput_any v bs (m : Int) 2 (by omega) w _ hq h0.size hlen).mono fun e w' ⟨v', he, hb⟩ => ⟨v', he, by have := hb.q; rw [uns_nat m hm] at this; exact this, hb.keep h0 hq⟩
set_option maxHeartbeats 32000000 in
set_option maxRecDepth 100000 in
theorem rputs_w (w0 : World) (v lv : Value) (bs : List Nat) (w : World) (xs : List Int) (n : Nat) (hn : xs.length = n) (hl : Sl w0 lv xs) (h0 : Touch [] w0 w) (hq : Qb w w0.heap.size v bs) (hb : bs.length + 8 * n ≤ 900000) :
    Calls Try.prog 33 #[v, lv] w (Wr w0 (bs ++ secB n xs)) := by
  obtain ⟨la, lc, rfl⟩ := hl.form
  rw [hn] at hl ⊢
  have HL := Lib.hid hl
  have HN := Lib.hid hn
  have HQ0 := Lib.hid hq
  have H0 := Lib.hid h0
  clear hl h0 hq hn
  go_enter Try.func33, Try.ntmps33
  go_wp2_with fail
  refine (rput2_w w0 _ bs n _ (by omega) H0.out HQ0.out (by omega)).mono ?_
  rintro e w1 ⟨v1, rfl, hq1, ht1⟩
  have HQ1 := Lib.hid hq1
  have HT1 := Lib.hid ht1
  clear hq1 ht1
  go_wp2
  go_loopw [0, 5] (fun bv kv wr => ∃ k : Nat, k ≤ n ∧ kv = .int .i64 (k : Int) ∧ Qb wr w0.heap.size bv (bs ++ leN 2 n ++ (xs.take k).flatMap num8) ∧ Touch [] w0 wr) (fun _ kv _ => n + 1 - (intOf kv).toNat)
  case atStart => exact ⟨0, by omega, rfl, by simpa using HQ1.out, HT1.out⟩
  case round =>
    obtain ⟨k, hk, rfl, hq, ht⟩ := hrel
    clear HQ1 HT1 HQ0
    have HT := Lib.hid ht
    obtain ⟨cs, hcs⟩ : ∃ cs, bs ++ leN 2 n ++ (xs.take k).flatMap num8 = cs := ⟨_, rfl⟩
    have hcl : cs.length ≤ 950000 := by
      rw [← hcs, List.length_append, List.length_append, flat8_length, List.length_take, leN_length]
      omega
    rw [hcs] at hq
    have HQ := Lib.hid hq
    clear hq ht
    by_cases hlt : k < n
    · obtain ⟨x, hx⟩ : ∃ x, xs.getD k 0 = x := ⟨_, rfl⟩
      have HCS : Hid (bs ++ leN 2 n ++ (xs.take (k + 1)).flatMap num8 = cs ++ num8 x) := Lib.hid (by rw [flat_take _ _ (by rw [HN.out]; exact hlt), ← List.append_assoc, hcs, hx])
      clear hcs
      obtain ⟨g, off, hga, hc⟩ := HL.out.ix (q := k) (by rw [HN.out]; exact hlt)
      subst hga
      rw [hx] at hc
      have hci := hc wr HT.out
      clear hc hx
      go_wp2_with fail
      refine (rput8_w w0 _ cs x wr HT.out HQ.out (by omega)).mono ?_
      rintro e w2 ⟨v2, rfl, hq2, ht2⟩
      have HQ2 := Lib.hid hq2
      have HT2 := Lib.hid ht2
      clear hq2 ht2
      go_wp2
      go_roundw
      case rel => exact ⟨k + 1, by omega, by go_num, by rw [HCS.out]; exact HQ2.out, HT2.out⟩
      case measure => simp [intOf]; omega
    · obtain rfl : k = n := by omega
      rw [← HN.out, List.take_length] at hcs
      go_wp2
      go_ret
      exact ⟨_, rfl, by unfold secB; rw [← List.append_assoc, ← HN.out, hcs]; exact HQ.out, HT.out⟩
theorem flatI_flat (k n : Nat) (z : Nat → Nat → Int) : (flatI k (n + 1) z).flatMap num8 = (flatI k n z).flatMap num8 ++ ((List.range k).map (z n)).flatMap num8 := by rw [flatI_succ, List.flatMap_append]
theorem flatten_le : ∀ (l : List (List Int)) (m : Nat), (∀ v ∈ l, v.length ≤ m) → l.flatten.length ≤ l.length * m
  | [], m, _ => by simp
  | a :: l, m, h => by
    have h1 := flatten_le l m (fun v hv => h v (List.mem_cons_of_mem _ hv))
    have h2 := h a List.mem_cons_self
    rw [List.flatten_cons, List.length_append, List.length_cons, Nat.add_mul, Nat.one_mul]
    omega
theorem take_flatten (l : List (List Int)) (k : Nat) (h : k < l.length) : (l.take (k + 1)).flatten = (l.take k).flatten ++ rw_ l k := by
  rw [List.take_add_one, List.flatten_append, List.getElem?_eq_getElem h]
  simp [rw_, List.getD_eq_getElem?_getD, h]
set_option maxHeartbeats 64000000 in
set_option maxRecDepth 100000 in
theorem renc_any (pv : Value) (P : Pg) (w : World) (h : PgV w pv P) : Calls Try.prog 11 #[pv] w (EncP P w) := by
  have HPV := Lib.hid h
  obtain ⟨n1, z1, n2, z2, n3, z3, rg, se, tt, ve, n8, z8, cl⟩ := P
  obtain ⟨v1, v2, v3, v5, v6, v7, v8, rfl, h1, h2, h3, h5, h6, h7, h8⟩ := h
  dsimp only at h1 h2 h3 h5 h6 h7 h8 ⊢
  obtain ⟨a1, c1, rfl⟩ := h1.form
  obtain ⟨a2, c2, rfl⟩ := h2.form
  obtain ⟨a3, c3, rfl⟩ := h3.form
  obtain ⟨a5, c5, rfl⟩ := h5.form
  obtain ⟨a6, c6, rfl⟩ := h6.form
  obtain ⟨a7, c7, rfl⟩ := h7.form
  obtain ⟨a8, c8, rfl⟩ := h8.form
  obtain ⟨l5, hl5⟩ : ∃ l, se.length = l := ⟨_, rfl⟩
  obtain ⟨l6, hl6⟩ : ∃ l, tt.length = l := ⟨_, rfl⟩
  obtain ⟨l7, hl7⟩ : ∃ l, ve.length = l := ⟨_, rfl⟩
  rw [hl5, hl6, hl7] at HPV
  rw [hl5] at h5
  rw [hl6] at h6
  rw [hl7] at h7
  rw [hl5, hl6, hl7]
  obtain ⟨PP, hPP⟩ : ∃ PP : Pg, PP = ⟨n1, z1, n2, z2, n3, z3, rg, se, tt, ve, n8, z8, cl⟩ := ⟨_, rfl⟩
  have HPP := Lib.hid hPP
  rw [← hPP]
  have HL5 := Lib.hid hl5
  have HL6 := Lib.hid hl6
  have HL7 := Lib.hid hl7
  clear hl5 hl6 hl7 hPP
  have ht0 : Touch [] w (w.alloc (.cells #[.slice a1 n1 c1, .slice a2 n2 c2, .slice a3 n3 c3, .int .i64 rg, .slice a5 l5 c5, .slice a6 l6 c6, .slice a7 l7 c7, .slice a8 n8 c8, .int .i64 cl] 29)) := (Touch.refl [] w).alloc _
  have hb0 : Blk (w.alloc (.cells #[.slice a1 n1 c1, .slice a2 n2 c2, .slice a3 n3 c3, .int .i64 rg, .slice a5 l5 c5, .slice a6 l6 c6, .slice a7 l7 c7, .slice a8 n8 c8, .int .i64 cl] 29)) w.heap.size #[.slice a1 n1 c1, .slice a2 n2 c2, .slice a3 n3 c3, .int .i64 rg, .slice a5 l5 c5, .slice a6 l6 c6, .slice a7 l7 c7, .slice a8 n8 c8, .int .i64 cl] 29 := Blk.new rfl
  obtain ⟨w1, hw1⟩ : ∃ x, w.alloc (.cells #[.slice a1 n1 c1, .slice a2 n2 c2, .slice a3 n3 c3, .int .i64 rg, .slice a5 l5 c5, .slice a6 l6 c6, .slice a7 l7 c7, .slice a8 n8 c8, .int .i64 cl] 29) = x := ⟨_, rfl⟩
  obtain ⟨B, hB⟩ : ∃ B, w.heap.size = B := ⟨_, rfl⟩
  rw [hw1, hB] at hb0
  rw [hw1] at ht0
  have hM := may_any (.agg #[.slice a1 n1 c1, .slice a2 n2 c2, .slice a3 n3 c3, .int .i64 rg, .slice a5 l5 c5, .slice a6 l6 c6, .slice a7 l7 c7, .slice a8 n8 c8, .int .i64 cl]) ⟨n1, z1, n2, z2, n3, z3, rg, se, tt, ve, n8, z8, cl⟩ w1 (HPV.out.touch ht0)
  rw [← HPP.out] at hM
  have HM := Lib.hid hM
  have HT0 := Lib.hid ht0
  have HBK := Lib.hid hb0
  have HX : Hid (∀ w', Touch [] w1 w' → Blk w' B #[.slice a1 n1 c1, .slice a2 n2 c2, .slice a3 n3 c3, .int .i64 rg, .slice a5 l5 c5, .slice a6 l6 c6, .slice a7 l7 c7, .slice a8 n8 c8, .int .i64 cl] 29) := Lib.hid (fun w' ht => HBK.out.touch ht (by simp))
  have H1 := Lib.hid (h1.touch ht0)
  have H2 := Lib.hid (h2.touch ht0)
  have H3 := Lib.hid (h3.touch ht0)
  have H5 := Lib.hid (h5.touch ht0 (by simp))
  have H6 := Lib.hid (h6.touch ht0 (by simp))
  have H7 := Lib.hid (h7.touch ht0)
  have H8 := Lib.hid (h8.touch ht0)
  have HPR : Hid (PgV w1 (.agg #[.slice a1 n1 c1, .slice a2 n2 c2, .slice a3 n3 c3, .int .i64 rg, .slice a5 l5 c5, .slice a6 l6 c6, .slice a7 l7 c7, .slice a8 n8 c8, .int .i64 cl]) PP) := Lib.hid (by rw [HPP.out]; have := HPV.out.touch ht0; exact this)
  clear h1 h2 h3 h5 h6 h7 h8 ht0 hb0 hM HPV
  have e00 := HBK.out.cell (i := 0) rfl
  have e01 := HBK.out.cell (i := 1) rfl
  have e02 := HBK.out.cell (i := 2) rfl
  have e03 := HBK.out.cell (i := 3) rfl
  have e04 := HBK.out.cell (i := 4) rfl
  have e05 := HBK.out.cell (i := 5) rfl
  have e06 := HBK.out.cell (i := 6) rfl
  have e07 := HBK.out.cell (i := 7) rfl
  have e08 := HBK.out.cell (i := 8) rfl
  go_enter Try.func11, Try.ntmps11
  go_wp2_with fail
  clear hw1 e00 e01 e02 e03 e04 e05 e06 e07 e08
  have hM2 := rmay_any (.agg #[.slice a1 n1 c1, .slice a2 n2 c2, .slice a3 n3 c3, .int .i64 rg, .slice a5 l5 c5, .slice a6 l6 c6, .slice a7 l7 c7, .slice a8 n8 c8, .int .i64 cl]) PP w1 HPR.out
  refine hM2.mono ?_
  rintro e wM ⟨rfl, htM⟩
  have HTM := Lib.hid htM
  have hzM : w1.heap.size ≤ wM.heap.size := htM.size
  clear htM HM hM2
  by_cases hmay : MayP PP
  · rw [show decide (MayP PP) = true from decide_eq_true hmay]
    have HMY := Lib.hid hmay
    obtain ⟨m1, m2, m2', m3, m5, m6, m7, m8, mv⟩ := (by have := hmay; rw [HPP.out] at this; exact this : MayP ⟨n1, z1, n2, z2, n3, z3, rg, se, tt, ve, n8, z8, cl⟩)
    dsimp only at m1 m2 m2' m3 m5 m6 m7 m8 mv
    have MV : Hid (∀ v ∈ ve, v.length ≤ 6) := Lib.hid (fun v hv => by rw [mv v hv]; exact m6)
    have M5 : Hid (se.length ≤ 8) := Lib.hid m5
    have M6 : Hid (tt.length ≤ 6) := Lib.hid m6
    have M7 : Hid (ve.length ≤ 1000) := Lib.hid m7
    have MVt : Hid (∀ v ∈ ve, v.length = tt.length) := Lib.hid mv
    have M1 : Hid (n1 ≤ 5000) := Lib.hid m1
    have M2 : Hid (n2 ≤ 13) := Lib.hid m2'
    have M3 : Hid (n3 ≤ 16) := Lib.hid m3
    have M8 : Hid (n8 ≤ 1000) := Lib.hid m8
    clear hmay m1 m2 m2' m3 m5 m6 m7 m8 mv
    have HT : Hid (Touch [] w1 (wM.alloc (.cells #[.int .u8 83, .int .u8 66] 5))) := Lib.hid (HTM.out.alloc _)
    have hq := qb_two wM w1.heap.size hzM
    obtain ⟨b0, hcs⟩ : ∃ b0 : List Nat, [83, 66] = b0 := ⟨_, rfl⟩
    rw [hcs] at hq
    have HQ := Lib.hid hq
    have HCS : Hid ([83, 66] = b0) := Lib.hid hcs
    have LB : Hid (b0.length = 2) := Lib.hid (by rw [← hcs]; rfl)
    have fc0 := (HX.out _ HT.out).cell (i := 0) rfl
    clear hcs hq
    go_wp2_with fail
    refine (rput2_w w1 _ b0 n1 _ (by have := M1.out; have := M2.out; have := M3.out; have := M5.out; have := M6.out; have := M7.out; have := M8.out; have := HL5.out; have := HL6.out; have := HL7.out; have := LB.out; omega) HT.out HQ.out (by have := M1.out; have := M2.out; have := M3.out; have := M5.out; have := M6.out; have := M7.out; have := M8.out; have := HL5.out; have := HL6.out; have := HL7.out; have := LB.out; omega)).mono ?_
    rintro e wE ⟨uE, rfl, hq, ht⟩
    obtain ⟨d0, hds⟩ : ∃ b, b0 ++ leN 2 n1 = b := ⟨_, rfl⟩
    rw [hds] at hq
    have HDS0 : Hid (b0 ++ leN 2 n1 = d0) := Lib.hid hds
    have HQ := Lib.hid hq
    have HT := Lib.hid ht
    have LD : Hid (d0.length = b0.length + 2) := Lib.hid (by rw [← hds, List.length_append, leN_length])
    have cc := (HX.out _ ht).cell (i := 0) rfl
    clear hq ht hds fc0
    go_wp2
    go_loopw [4, 5] (fun bv kv wr => ∃ k : Nat, k ≤ n1 ∧ kv = .int .i64 (k : Int) ∧ Qb wr w1.heap.size bv (d0 ++ (flatI 3 k z1).flatMap num8) ∧ Touch [] w1 wr) (fun _ kv _ => n1 + 1 - (intOf kv).toNat)
    case atStart => exact ⟨0, by omega, rfl, by simpa [flatI_zero] using HQ.out, HT.out⟩
    case round =>
      obtain ⟨k, hk, rfl, hq, ht⟩ := hrel
      clear HQ HT cc
      have HT := Lib.hid ht
      have HXE := HX.out _ ht
      have cc := HXE.cell (i := 0) rfl
      obtain ⟨b1, hes⟩ : ∃ es, d0 ++ (flatI 3 k z1).flatMap num8 = es := ⟨_, rfl⟩
      have hel : b1.length = d0.length + 8 * (k * 3) := by rw [← hes, List.length_append, flat8_length, flatI_length]
      rw [hes] at hq
      have HQ := Lib.hid hq
      clear hq ht HXE
      by_cases hlt : k < n1
      · have HES : Hid (d0 ++ (flatI 3 (k + 1) z1).flatMap num8 = b1 ++ ((List.range 3).map (z1 k)).flatMap num8) := Lib.hid (by rw [flatI_flat, ← List.append_assoc, hes])
        clear hes
        obtain ⟨g, off, hga, hc⟩ := H1.out.at3 hlt
        subst hga
        obtain ⟨y0, hy0⟩ : ∃ x, z1 k 0 = x := ⟨_, rfl⟩
        obtain ⟨y1, hy1⟩ : ∃ x, z1 k 1 = x := ⟨_, rfl⟩
        obtain ⟨y2, hy2⟩ : ∃ x, z1 k 2 = x := ⟨_, rfl⟩
        rw [hy0, hy1, hy2] at hc
        have HLV : Hid (((List.range 3).map (z1 k)) = [y0, y1, y2]) := Lib.hid (by simp [List.range_succ, hy0, hy1, hy2])
        clear hy0 hy1 hy2
        have HC := Lib.hid hc
        obtain ⟨q0, q1, q2⟩ := hc wr HT.out
        clear hc
        have HB0 : Hid (b1.length ≤ 900000) := Lib.hid (by have := LD.out; have := M1.out; have := M2.out; have := M3.out; have := M5.out; have := M6.out; have := M7.out; have := M8.out; have := HL5.out; have := HL6.out; have := HL7.out; have := LB.out; omega)
        go_wp2_with fail
        have HT := Lib.hid HT.out.drew
        have HQ0 : Hid (Qb _ w1.heap.size u4 b1) := Lib.hid (Qu.touch HQ.out (Touch.refl [] wr).drew (fun _ _ => by simp))
        go_region_held3 (fun w' => w'.cell? ⟨B, 0, none⟩ = some (.slice (some ⟨g, off, none⟩) n1 c1) ∧ w'.cell? ⟨g, off + k * 3, none⟩ = some (.int .i64 y0) ∧ w'.cell? ⟨g, off + k * 3 + 1, none⟩ = some (.int .i64 y1) ∧ w'.cell? ⟨g, off + k * 3 + 2, none⟩ = some (.int .i64 y2)) (first | go_keep | exact ⟨(HX.out _ HT.out).cell (i := 0) rfl, HC.out _ HT.out⟩)
          ((first
            | (go_at_call_of 32 (Value.int .i64 y0); refine (rput8_w w1 _ (b1) y0 _ HT.out HQ0.out (by have := HB0.out; omega)).mono ?_; rintro e w' ⟨v', rfl, hq, ht⟩; have HQ1 := Lib.hid hq; have HT := Lib.hid ht; clear hq ht)
            | (go_at_call_of 32 (Value.int .i64 y1); refine (rput8_w w1 _ (b1 ++ num8 y0) y1 _ HT.out HQ1.out (by have := HB0.out; simp only [List.length_append, num8_length]; omega)).mono ?_; rintro e w' ⟨v', rfl, hq, ht⟩; have HQ2 := Lib.hid hq; have HT := Lib.hid ht; clear hq ht)
            | (go_at_call_of 32 (Value.int .i64 y2); refine (rput8_w w1 _ (b1 ++ num8 y0 ++ num8 y1) y2 _ HT.out HQ2.out (by have := HB0.out; simp only [List.length_append, num8_length]; omega)).mono ?_; rintro e w' ⟨v', rfl, hq, ht⟩; have HQ3 := Lib.hid hq; have HT := Lib.hid ht; clear hq ht)))
        clear q0 q1 q2 cc
        have hkm : k ≤ 5000 := by have := M1.out; have := M2.out; have := M3.out; have := M8.out; omega
        go_wp2
        go_roundw
        case rel => exact ⟨k + 1, by omega, by go_num, by rw [HES.out, HLV.out]; simpa [List.append_assoc] using HQ3.out, HT.out⟩
        case measure => simp [intOf]; omega
      · obtain rfl : n1 = k := by omega
        have HES0 : Hid (d0 ++ (flatI 3 n1 z1).flatMap num8 = b1) := Lib.hid hes
        have LB : Hid (b1.length ≤ 120004) := Lib.hid (by rw [hel]; have := LD.out; have := M1.out; have := M2.out; have := M3.out; have := M5.out; have := M6.out; have := M7.out; have := M8.out; have := HL5.out; have := HL6.out; have := HL7.out; have := LB.out; omega)
        have fc1 := (HX.out _ HT.out).cell (i := 1) rfl
        clear hel hes hlt hk
        go_wp2_with fail
        refine (rput2_w w1 _ b1 n2 _ (by have := M1.out; have := M2.out; have := M3.out; have := M5.out; have := M6.out; have := M7.out; have := M8.out; have := HL5.out; have := HL6.out; have := HL7.out; have := LB.out; omega) HT.out HQ.out (by have := M1.out; have := M2.out; have := M3.out; have := M5.out; have := M6.out; have := M7.out; have := M8.out; have := HL5.out; have := HL6.out; have := HL7.out; have := LB.out; omega)).mono ?_
        rintro e wE ⟨uE, rfl, hq, ht⟩
        obtain ⟨d1, hds⟩ : ∃ b, b1 ++ leN 2 n2 = b := ⟨_, rfl⟩
        rw [hds] at hq
        have HDS1 : Hid (b1 ++ leN 2 n2 = d1) := Lib.hid hds
        have HQ := Lib.hid hq
        have HT := Lib.hid ht
        have LD : Hid (d1.length = b1.length + 2) := Lib.hid (by rw [← hds, List.length_append, leN_length])
        have cc := (HX.out _ ht).cell (i := 1) rfl
        clear hq ht hds fc1
        go_wp2
        go_loopw [4, 6] (fun bv kv wr => ∃ k : Nat, k ≤ n2 ∧ kv = .int .i64 (k : Int) ∧ Qb wr w1.heap.size bv (d1 ++ (flatI 3 k z2).flatMap num8) ∧ Touch [] w1 wr) (fun _ kv _ => n2 + 1 - (intOf kv).toNat)
        case atStart => exact ⟨0, by omega, rfl, by simpa [flatI_zero] using HQ.out, HT.out⟩
        case round =>
          obtain ⟨k, hk, rfl, hq, ht⟩ := hrel
          clear HQ HT cc
          have HT := Lib.hid ht
          have HXE := HX.out _ ht
          have cc := HXE.cell (i := 1) rfl
          obtain ⟨b2, hes⟩ : ∃ es, d1 ++ (flatI 3 k z2).flatMap num8 = es := ⟨_, rfl⟩
          have hel : b2.length = d1.length + 8 * (k * 3) := by rw [← hes, List.length_append, flat8_length, flatI_length]
          rw [hes] at hq
          have HQ := Lib.hid hq
          clear hq ht HXE
          by_cases hlt : k < n2
          · have HES : Hid (d1 ++ (flatI 3 (k + 1) z2).flatMap num8 = b2 ++ ((List.range 3).map (z2 k)).flatMap num8) := Lib.hid (by rw [flatI_flat, ← List.append_assoc, hes])
            clear hes
            obtain ⟨g, off, hga, hc⟩ := H2.out.at3 hlt
            subst hga
            obtain ⟨y0, hy0⟩ : ∃ x, z2 k 0 = x := ⟨_, rfl⟩
            obtain ⟨y1, hy1⟩ : ∃ x, z2 k 1 = x := ⟨_, rfl⟩
            obtain ⟨y2, hy2⟩ : ∃ x, z2 k 2 = x := ⟨_, rfl⟩
            rw [hy0, hy1, hy2] at hc
            have HLV : Hid (((List.range 3).map (z2 k)) = [y0, y1, y2]) := Lib.hid (by simp [List.range_succ, hy0, hy1, hy2])
            clear hy0 hy1 hy2
            have HC := Lib.hid hc
            obtain ⟨q0, q1, q2⟩ := hc wr HT.out
            clear hc
            have HB0 : Hid (b2.length ≤ 900000) := Lib.hid (by have := LD.out; have := M1.out; have := M2.out; have := M3.out; have := M5.out; have := M6.out; have := M7.out; have := M8.out; have := HL5.out; have := HL6.out; have := HL7.out; have := LB.out; omega)
            go_wp2_with fail
            have HT := Lib.hid HT.out.drew
            have HQ0 : Hid (Qb _ w1.heap.size u4 b2) := Lib.hid (Qu.touch HQ.out (Touch.refl [] wr).drew (fun _ _ => by simp))
            go_region_held3 (fun w' => w'.cell? ⟨B, 1, none⟩ = some (.slice (some ⟨g, off, none⟩) n2 c2) ∧ w'.cell? ⟨g, off + k * 3, none⟩ = some (.int .i64 y0) ∧ w'.cell? ⟨g, off + k * 3 + 1, none⟩ = some (.int .i64 y1) ∧ w'.cell? ⟨g, off + k * 3 + 2, none⟩ = some (.int .i64 y2)) (first | go_keep | exact ⟨(HX.out _ HT.out).cell (i := 1) rfl, HC.out _ HT.out⟩)
              ((first
                | (go_at_call_of 32 (Value.int .i64 y0); refine (rput8_w w1 _ (b2) y0 _ HT.out HQ0.out (by have := HB0.out; omega)).mono ?_; rintro e w' ⟨v', rfl, hq, ht⟩; have HQ1 := Lib.hid hq; have HT := Lib.hid ht; clear hq ht)
                | (go_at_call_of 32 (Value.int .i64 y1); refine (rput8_w w1 _ (b2 ++ num8 y0) y1 _ HT.out HQ1.out (by have := HB0.out; simp only [List.length_append, num8_length]; omega)).mono ?_; rintro e w' ⟨v', rfl, hq, ht⟩; have HQ2 := Lib.hid hq; have HT := Lib.hid ht; clear hq ht)
                | (go_at_call_of 32 (Value.int .i64 y2); refine (rput8_w w1 _ (b2 ++ num8 y0 ++ num8 y1) y2 _ HT.out HQ2.out (by have := HB0.out; simp only [List.length_append, num8_length]; omega)).mono ?_; rintro e w' ⟨v', rfl, hq, ht⟩; have HQ3 := Lib.hid hq; have HT := Lib.hid ht; clear hq ht)))
            clear q0 q1 q2 cc
            have hkm : k ≤ 5000 := by have := M1.out; have := M2.out; have := M3.out; have := M8.out; omega
            go_wp2
            go_roundw
            case rel => exact ⟨k + 1, by omega, by go_num, by rw [HES.out, HLV.out]; simpa [List.append_assoc] using HQ3.out, HT.out⟩
            case measure => simp [intOf]; omega
          · obtain rfl : n2 = k := by omega
            have HES1 : Hid (d1 ++ (flatI 3 n2 z2).flatMap num8 = b2) := Lib.hid hes
            have LB : Hid (b2.length ≤ 120318) := Lib.hid (by rw [hel]; have := LD.out; have := M1.out; have := M2.out; have := M3.out; have := M5.out; have := M6.out; have := M7.out; have := M8.out; have := HL5.out; have := HL6.out; have := HL7.out; have := LB.out; omega)
            have fc2 := (HX.out _ HT.out).cell (i := 2) rfl
            clear hel hes hlt hk
            go_wp2_with fail
            refine (rput2_w w1 _ b2 n3 _ (by have := M1.out; have := M2.out; have := M3.out; have := M5.out; have := M6.out; have := M7.out; have := M8.out; have := HL5.out; have := HL6.out; have := HL7.out; have := LB.out; omega) HT.out HQ.out (by have := M1.out; have := M2.out; have := M3.out; have := M5.out; have := M6.out; have := M7.out; have := M8.out; have := HL5.out; have := HL6.out; have := HL7.out; have := LB.out; omega)).mono ?_
            rintro e wE ⟨uE, rfl, hq, ht⟩
            obtain ⟨d2, hds⟩ : ∃ b, b2 ++ leN 2 n3 = b := ⟨_, rfl⟩
            rw [hds] at hq
            have HDS2 : Hid (b2 ++ leN 2 n3 = d2) := Lib.hid hds
            have HQ := Lib.hid hq
            have HT := Lib.hid ht
            have LD : Hid (d2.length = b2.length + 2) := Lib.hid (by rw [← hds, List.length_append, leN_length])
            have cc := (HX.out _ ht).cell (i := 2) rfl
            clear hq ht hds fc2
            go_wp2
            go_loopw [4, 7] (fun bv kv wr => ∃ k : Nat, k ≤ n3 ∧ kv = .int .i64 (k : Int) ∧ Qb wr w1.heap.size bv (d2 ++ (flatI 2 k z3).flatMap num8) ∧ Touch [] w1 wr) (fun _ kv _ => n3 + 1 - (intOf kv).toNat)
            case atStart => exact ⟨0, by omega, rfl, by simpa [flatI_zero] using HQ.out, HT.out⟩
            case round =>
              obtain ⟨k, hk, rfl, hq, ht⟩ := hrel
              clear HQ HT cc
              have HT := Lib.hid ht
              have HXE := HX.out _ ht
              have cc := HXE.cell (i := 2) rfl
              obtain ⟨b3, hes⟩ : ∃ es, d2 ++ (flatI 2 k z3).flatMap num8 = es := ⟨_, rfl⟩
              have hel : b3.length = d2.length + 8 * (k * 2) := by rw [← hes, List.length_append, flat8_length, flatI_length]
              rw [hes] at hq
              have HQ := Lib.hid hq
              clear hq ht HXE
              by_cases hlt : k < n3
              · have HES : Hid (d2 ++ (flatI 2 (k + 1) z3).flatMap num8 = b3 ++ ((List.range 2).map (z3 k)).flatMap num8) := Lib.hid (by rw [flatI_flat, ← List.append_assoc, hes])
                clear hes
                obtain ⟨g, off, hga, hc⟩ := H3.out.at2 hlt
                subst hga
                obtain ⟨y0, hy0⟩ : ∃ x, z3 k 0 = x := ⟨_, rfl⟩
                obtain ⟨y1, hy1⟩ : ∃ x, z3 k 1 = x := ⟨_, rfl⟩
                rw [hy0, hy1] at hc
                have HLV : Hid (((List.range 2).map (z3 k)) = [y0, y1]) := Lib.hid (by simp [List.range_succ, hy0, hy1])
                clear hy0 hy1
                have HC := Lib.hid hc
                obtain ⟨q0, q1⟩ := hc wr HT.out
                clear hc
                have HB0 : Hid (b3.length ≤ 900000) := Lib.hid (by have := LD.out; have := M1.out; have := M2.out; have := M3.out; have := M5.out; have := M6.out; have := M7.out; have := M8.out; have := HL5.out; have := HL6.out; have := HL7.out; have := LB.out; omega)
                go_wp2_with fail
                have HT := Lib.hid HT.out.drew
                have HQ0 : Hid (Qb _ w1.heap.size u4 b3) := Lib.hid (Qu.touch HQ.out (Touch.refl [] wr).drew (fun _ _ => by simp))
                go_region_held3 (fun w' => w'.cell? ⟨B, 2, none⟩ = some (.slice (some ⟨g, off, none⟩) n3 c3) ∧ w'.cell? ⟨g, off + k * 2, none⟩ = some (.int .i64 y0) ∧ w'.cell? ⟨g, off + k * 2 + 1, none⟩ = some (.int .i64 y1)) (first | go_keep | exact ⟨(HX.out _ HT.out).cell (i := 2) rfl, HC.out _ HT.out⟩)
                  ((first
                    | (go_at_call_of 32 (Value.int .i64 y0); refine (rput8_w w1 _ (b3) y0 _ HT.out HQ0.out (by have := HB0.out; omega)).mono ?_; rintro e w' ⟨v', rfl, hq, ht⟩; have HQ1 := Lib.hid hq; have HT := Lib.hid ht; clear hq ht)
                    | (go_at_call_of 32 (Value.int .i64 y1); refine (rput8_w w1 _ (b3 ++ num8 y0) y1 _ HT.out HQ1.out (by have := HB0.out; simp only [List.length_append, num8_length]; omega)).mono ?_; rintro e w' ⟨v', rfl, hq, ht⟩; have HQ2 := Lib.hid hq; have HT := Lib.hid ht; clear hq ht)))
                clear q0 q1 cc
                have hkm : k ≤ 5000 := by have := M1.out; have := M2.out; have := M3.out; have := M8.out; omega
                go_wp2
                go_roundw
                case rel => exact ⟨k + 1, by omega, by go_num, by rw [HES.out, HLV.out]; simpa [List.append_assoc] using HQ2.out, HT.out⟩
                case measure => simp [intOf]; omega
              · obtain rfl : n3 = k := by omega
                have HES2 : Hid (d2 ++ (flatI 2 n3 z3).flatMap num8 = b3) := Lib.hid hes
                have LB : Hid (b3.length ≤ 120576) := Lib.hid (by rw [hel]; have := LD.out; have := M1.out; have := M2.out; have := M3.out; have := M5.out; have := M6.out; have := M7.out; have := M8.out; have := HL5.out; have := HL6.out; have := HL7.out; have := LB.out; omega)
                have fc3 := (HX.out _ HT.out).cell (i := 3) rfl
                clear hel hes hlt hk
                go_wp2_with fail
                refine (rput8_w w1 _ b3 rg _ HT.out HQ.out (by have := M1.out; have := M2.out; have := M3.out; have := M5.out; have := M6.out; have := M7.out; have := M8.out; have := HL5.out; have := HL6.out; have := HL7.out; have := LB.out; omega)).mono ?_
                rintro e wE ⟨uE, rfl, hq, ht⟩
                obtain ⟨b4, hds⟩ : ∃ b, b3 ++ num8 rg = b := ⟨_, rfl⟩
                rw [hds] at hq
                have HNS3 : Hid (b3 ++ num8 rg = b4) := Lib.hid hds
                have HQ := Lib.hid hq
                have HT := Lib.hid ht
                have LB : Hid (b4.length ≤ 120584) := Lib.hid (by rw [← hds, List.length_append, num8_length]; have := LB.out; omega)
                have fc4 := (HX.out _ ht).cell (i := 4) rfl
                clear hq ht hds fc3
                have fc5 := (HX.out _ HT.out).cell (i := 5) rfl
                go_wp2_with fail
                have HQ0 : Hid (Qb _ w1.heap.size uE b4) := Lib.hid (Qu.touch HQ.out (Touch.refl [] wE).drew (fun _ _ => by simp))
                have HT := Lib.hid HT.out.drew
                go_region_held3 (fun w' => w'.cell? ⟨B, 4, none⟩ = some (.slice a5 l5 c5) ∧ w'.cell? ⟨B, 5, none⟩ = some (.slice a6 l6 c6)) (first | go_keep | exact ⟨(HX.out _ HT.out).cell (i := 4) rfl, (HX.out _ HT.out).cell (i := 5) rfl⟩)
                  ((first
                    | (go_at_call_of 33 (Value.slice a5 l5 c5); refine (rputs_w w1 _ _ b4 _ se l5 HL5.out H5.out HT.out HQ0.out (by have := M1.out; have := M2.out; have := M3.out; have := M5.out; have := M6.out; have := M7.out; have := M8.out; have := HL5.out; have := HL6.out; have := HL7.out; have := LB.out; omega)).mono ?_; rintro e w' ⟨v', rfl, hq, ht⟩; have HQ1 := Lib.hid hq; have HT := Lib.hid ht; clear hq ht)
                    | (go_at_call_of 33 (Value.slice a6 l6 c6); refine (rputs_w w1 _ _ (b4 ++ secB l5 se) _ tt l6 HL6.out H6.out HT.out HQ1.out (by rw [List.length_append, secB_length]; have := M1.out; have := M2.out; have := M3.out; have := M5.out; have := M6.out; have := M7.out; have := M8.out; have := HL5.out; have := HL6.out; have := HL7.out; have := LB.out; omega)).mono ?_; rintro e w' ⟨v', rfl, hq, ht⟩; have HQ2 := Lib.hid hq; have HT := Lib.hid ht; clear hq ht)))
                obtain ⟨b5, hb5⟩ : ∃ b, b4 ++ secB l5 se = b := ⟨_, rfl⟩
                obtain ⟨b6, hb6⟩ : ∃ b, b5 ++ secB l6 tt = b := ⟨_, rfl⟩
                have HQ := HQ2
                rw [hb5, hb6] at HQ
                have HNS4 := Lib.hid hb5
                have HNS5 := Lib.hid hb6
                have LB : Hid (b6.length ≤ 120700) := Lib.hid (by rw [← hb6, ← hb5, List.length_append, List.length_append, secB_length, secB_length]; have := M1.out; have := M2.out; have := M3.out; have := M5.out; have := M6.out; have := M7.out; have := M8.out; have := HL5.out; have := HL6.out; have := HL7.out; have := LB.out; omega)
                have fc6 := (HX.out _ HT.out).cell (i := 6) rfl
                clear hb5 hb6 fc4 fc5 HQ1 HQ2 HQ0
                go_wp2_with fail
                refine (rput2_w w1 _ b6 l7 _ (by have := M1.out; have := M2.out; have := M3.out; have := M5.out; have := M6.out; have := M7.out; have := M8.out; have := HL5.out; have := HL6.out; have := HL7.out; have := LB.out; omega) HT.out HQ.out (by have := M1.out; have := M2.out; have := M3.out; have := M5.out; have := M6.out; have := M7.out; have := M8.out; have := HL5.out; have := HL6.out; have := HL7.out; have := LB.out; omega)).mono ?_
                rintro e wE ⟨uE, rfl, hq, ht⟩
                obtain ⟨d6, hds⟩ : ∃ b, b6 ++ leN 2 l7 = b := ⟨_, rfl⟩
                rw [hds] at hq
                have HDS6 : Hid (b6 ++ leN 2 l7 = d6) := Lib.hid hds
                have HQ := Lib.hid hq
                have HT := Lib.hid ht
                have LD : Hid (d6.length = b6.length + 2) := Lib.hid (by rw [← hds, List.length_append, leN_length])
                have cc := (HX.out _ ht).cell (i := 6) rfl
                clear hq ht hds fc6
                go_wp2
                go_loopw [4, 8] (fun bv kv wr => ∃ k : Nat, k ≤ l7 ∧ kv = .int .i64 (k : Int) ∧ Qb wr w1.heap.size bv (d6 ++ ((ve.take k).flatten).flatMap num8) ∧ Touch [] w1 wr) (fun _ kv _ => l7 + 1 - (intOf kv).toNat)
                case atStart => exact ⟨0, by omega, rfl, by simpa using HQ.out, HT.out⟩
                case round =>
                  obtain ⟨k, hk, rfl, hq, ht⟩ := hrel
                  clear HQ HT cc
                  have HT := Lib.hid ht
                  have cc := (HX.out _ ht).cell (i := 6) rfl
                  obtain ⟨b7, hes⟩ : ∃ es, d6 ++ ((ve.take k).flatten).flatMap num8 = es := ⟨_, rfl⟩
                  have HEL : Hid (b7.length ≤ d6.length + 8 * (1000 * 6)) := Lib.hid (by rw [← hes, List.length_append, flat8_length]; have := flatten_le (ve.take k) 6 (fun v hv => MV.out v (List.mem_of_mem_take hv)); rw [List.length_take] at this; have h2 : min k ve.length * 6 ≤ 1000 * 6 := Nat.mul_le_mul_right _ (by have := M7.out; omega); omega)
                  rw [hes] at hq
                  have HQ := Lib.hid hq
                  clear hq ht
                  by_cases hlt : k < l7
                  · obtain ⟨ys, hys⟩ : ∃ ys, rw_ ve k = ys := ⟨_, rfl⟩
                    have HES : Hid (d6 ++ ((ve.take (k + 1)).flatten).flatMap num8 = b7 ++ ys.flatMap num8) := Lib.hid (by rw [take_flatten ve k (by have := HL7.out; omega), hys, List.flatMap_append, ← List.append_assoc, hes])
                    clear hes
                    obtain ⟨g, off, hga, ra, rc, hrow, hc⟩ := H7.out.at (i := k) (by have := HL7.out; omega)
                    subst hga
                    have HY6 : Hid (ys.length ≤ 6) := Lib.hid (by rw [← hys]; exact MV.out _ (rw_mem (by have := HL7.out; omega)))
                    rw [hys] at hrow hc
                    obtain ⟨yl, hyl⟩ : ∃ l, ys.length = l := ⟨_, rfl⟩
                    rw [hyl] at hrow hc HY6
                    have HYL := Lib.hid hyl
                    have HROW := Lib.hid hrow
                    have HC := Lib.hid hc
                    have cr := hc wr HT.out
                    have HB0 : Hid (b7.length ≤ 900000) := Lib.hid (by have := HEL.out; have := LD.out; have := LB.out; omega)
                    clear hys hyl hrow hc
                    go_wp2
                    go_loopw [4, 9] (fun bv jv wi => ∃ j : Nat, j ≤ yl ∧ jv = .int .i64 (j : Int) ∧ Qb wi w1.heap.size bv (b7 ++ (ys.take j).flatMap num8) ∧ Touch [] w1 wi) (fun _ jv _ => yl + 1 - (intOf jv).toNat)
                    case atStart => exact ⟨0, by omega, rfl, by simpa using HQ.out, HT.out⟩
                    case round =>
                      obtain ⟨j, hj, rfl, hq, ht⟩ := hrel
                      clear HQ HT cc cr
                      have HT := Lib.hid ht
                      have cc := (HX.out _ ht).cell (i := 6) rfl
                      have cr := HC.out wr ht
                      obtain ⟨es, hes⟩ : ∃ es, b7 ++ (ys.take j).flatMap num8 = es := ⟨_, rfl⟩
                      have hel : es.length ≤ 950000 := by rw [← hes, List.length_append, flat8_length, List.length_take]; have := HB0.out; have := HY6.out; have := HYL.out; omega
                      rw [hes] at hq
                      have HQ := Lib.hid hq
                      clear hq ht
                      by_cases hltj : j < yl
                      · obtain ⟨x, hx⟩ : ∃ x, ys.getD j 0 = x := ⟨_, rfl⟩
                        have HJ : Hid (b7 ++ (ys.take (j + 1)).flatMap num8 = es ++ num8 x) := Lib.hid (by rw [flat_take _ _ (by rw [HYL.out]; exact hltj), ← List.append_assoc, hes, hx])
                        obtain ⟨g2, off2, hga2, hc2⟩ := HROW.out.ix (q := j) (by rw [HYL.out]; exact hltj)
                        subst hga2
                        rw [hx] at hc2
                        have ci := hc2 wr HT.out
                        clear hc2 hx hes
                        go_wp2_with fail
                        refine (rput8_w w1 _ es x wr HT.out HQ.out (by omega)).mono ?_
                        rintro e w2 ⟨v2, rfl, hq2, ht2⟩
                        have HQ := Lib.hid hq2
                        have HT := Lib.hid ht2
                        clear hq2 ht2 ci cc cr
                        have hkm : j ≤ 5000 := by have := HY6.out; omega
                        go_wp2
                        go_roundw
                        case rel => exact ⟨j + 1, by omega, by go_num, by rw [HJ.out]; exact HQ.out, HT.out⟩
                        case measure => simp [intOf]; omega
                      · obtain rfl : yl = j := by omega
                        have HE : Hid (b7 ++ ys.flatMap num8 = es) := Lib.hid (by rw [← hes, ← HYL.out, List.take_length])
                        clear hes
                        have hkm : k ≤ 5000 := by have := M7.out; have := HL7.out; omega
                        go_wp2
                        go_roundw
                        case rel => exact ⟨k + 1, by omega, by go_num, by rw [HES.out, HE.out]; exact HQ.out, HT.out⟩
                        case measure => simp [intOf]; omega
                  · obtain rfl : l7 = k := by omega
                    have HES6 : Hid (d6 ++ (ve.flatten).flatMap num8 = b7) := Lib.hid (by rw [← hes, ← HL7.out, List.take_length])
                    have LB : Hid (b7.length ≤ 168702) := Lib.hid (by have := HEL.out; have := LD.out; have := LB.out; omega)
                    have fc7 := (HX.out _ HT.out).cell (i := 7) rfl
                    clear hes hlt hk HEL
                    go_wp2_with fail
                    refine (rput2_w w1 _ b7 n8 _ (by have := M1.out; have := M2.out; have := M3.out; have := M5.out; have := M6.out; have := M7.out; have := M8.out; have := HL5.out; have := HL6.out; have := HL7.out; have := LB.out; omega) HT.out HQ.out (by have := M1.out; have := M2.out; have := M3.out; have := M5.out; have := M6.out; have := M7.out; have := M8.out; have := HL5.out; have := HL6.out; have := HL7.out; have := LB.out; omega)).mono ?_
                    rintro e wE ⟨uE, rfl, hq, ht⟩
                    obtain ⟨d7, hds⟩ : ∃ b, b7 ++ leN 2 n8 = b := ⟨_, rfl⟩
                    rw [hds] at hq
                    have HDS7 : Hid (b7 ++ leN 2 n8 = d7) := Lib.hid hds
                    have HQ := Lib.hid hq
                    have HT := Lib.hid ht
                    have LD : Hid (d7.length = b7.length + 2) := Lib.hid (by rw [← hds, List.length_append, leN_length])
                    have cc := (HX.out _ ht).cell (i := 7) rfl
                    clear hq ht hds fc7
                    go_wp2
                    go_loopw [4, 10] (fun bv kv wr => ∃ k : Nat, k ≤ n8 ∧ kv = .int .i64 (k : Int) ∧ Qb wr w1.heap.size bv (d7 ++ (flatI 2 k z8).flatMap num8) ∧ Touch [] w1 wr) (fun _ kv _ => n8 + 1 - (intOf kv).toNat)
                    case atStart => exact ⟨0, by omega, rfl, by simpa [flatI_zero] using HQ.out, HT.out⟩
                    case round =>
                      obtain ⟨k, hk, rfl, hq, ht⟩ := hrel
                      clear HQ HT cc
                      have HT := Lib.hid ht
                      have HXE := HX.out _ ht
                      have cc := HXE.cell (i := 7) rfl
                      obtain ⟨b8, hes⟩ : ∃ es, d7 ++ (flatI 2 k z8).flatMap num8 = es := ⟨_, rfl⟩
                      have hel : b8.length = d7.length + 8 * (k * 2) := by rw [← hes, List.length_append, flat8_length, flatI_length]
                      rw [hes] at hq
                      have HQ := Lib.hid hq
                      clear hq ht HXE
                      by_cases hlt : k < n8
                      · have HES : Hid (d7 ++ (flatI 2 (k + 1) z8).flatMap num8 = b8 ++ ((List.range 2).map (z8 k)).flatMap num8) := Lib.hid (by rw [flatI_flat, ← List.append_assoc, hes])
                        clear hes
                        obtain ⟨g, off, hga, hc⟩ := H8.out.at2 hlt
                        subst hga
                        obtain ⟨y0, hy0⟩ : ∃ x, z8 k 0 = x := ⟨_, rfl⟩
                        obtain ⟨y1, hy1⟩ : ∃ x, z8 k 1 = x := ⟨_, rfl⟩
                        rw [hy0, hy1] at hc
                        have HLV : Hid (((List.range 2).map (z8 k)) = [y0, y1]) := Lib.hid (by simp [List.range_succ, hy0, hy1])
                        clear hy0 hy1
                        have HC := Lib.hid hc
                        obtain ⟨q0, q1⟩ := hc wr HT.out
                        clear hc
                        have HB0 : Hid (b8.length ≤ 900000) := Lib.hid (by have := LD.out; have := M1.out; have := M2.out; have := M3.out; have := M5.out; have := M6.out; have := M7.out; have := M8.out; have := HL5.out; have := HL6.out; have := HL7.out; have := LB.out; omega)
                        go_wp2_with fail
                        have HT := Lib.hid HT.out.drew
                        have HQ0 : Hid (Qb _ w1.heap.size u4 b8) := Lib.hid (Qu.touch HQ.out (Touch.refl [] wr).drew (fun _ _ => by simp))
                        go_region_held3 (fun w' => w'.cell? ⟨B, 7, none⟩ = some (.slice (some ⟨g, off, none⟩) n8 c8) ∧ w'.cell? ⟨g, off + k * 2, none⟩ = some (.int .i64 y0) ∧ w'.cell? ⟨g, off + k * 2 + 1, none⟩ = some (.int .i64 y1)) (first | go_keep | exact ⟨(HX.out _ HT.out).cell (i := 7) rfl, HC.out _ HT.out⟩)
                          ((first
                            | (go_at_call_of 32 (Value.int .i64 y0); refine (rput8_w w1 _ (b8) y0 _ HT.out HQ0.out (by have := HB0.out; omega)).mono ?_; rintro e w' ⟨v', rfl, hq, ht⟩; have HQ1 := Lib.hid hq; have HT := Lib.hid ht; clear hq ht)
                            | (go_at_call_of 32 (Value.int .i64 y1); refine (rput8_w w1 _ (b8 ++ num8 y0) y1 _ HT.out HQ1.out (by have := HB0.out; simp only [List.length_append, num8_length]; omega)).mono ?_; rintro e w' ⟨v', rfl, hq, ht⟩; have HQ2 := Lib.hid hq; have HT := Lib.hid ht; clear hq ht)))
                        clear q0 q1 cc
                        have hkm : k ≤ 5000 := by have := M1.out; have := M2.out; have := M3.out; have := M8.out; omega
                        go_wp2
                        go_roundw
                        case rel => exact ⟨k + 1, by omega, by go_num, by rw [HES.out, HLV.out]; simpa [List.append_assoc] using HQ2.out, HT.out⟩
                        case measure => simp [intOf]; omega
                      · obtain rfl : n8 = k := by omega
                        have HES7 : Hid (d7 ++ (flatI 2 n8 z8).flatMap num8 = b8) := Lib.hid hes
                        have LB : Hid (b8.length ≤ 184704) := Lib.hid (by rw [hel]; have := LD.out; have := M1.out; have := M2.out; have := M3.out; have := M5.out; have := M6.out; have := M7.out; have := M8.out; have := HL5.out; have := HL6.out; have := HL7.out; have := LB.out; omega)
                        have fc8 := (HX.out _ HT.out).cell (i := 8) rfl
                        clear hel hes hlt hk
                        go_wp2_with fail
                        refine (rput8_w w1 _ b8 cl _ HT.out HQ.out (by have := M1.out; have := M2.out; have := M3.out; have := M5.out; have := M6.out; have := M7.out; have := M8.out; have := HL5.out; have := HL6.out; have := HL7.out; have := LB.out; omega)).mono ?_
                        rintro e wE ⟨uE, rfl, hq, ht⟩
                        obtain ⟨b9, hds⟩ : ∃ b, b8 ++ num8 cl = b := ⟨_, rfl⟩
                        rw [hds] at hq
                        have HNS8 : Hid (b8 ++ num8 cl = b9) := Lib.hid hds
                        have HQ := Lib.hid hq
                        have HT := Lib.hid ht
                        have LB : Hid (b9.length ≤ 184712) := Lib.hid (by rw [← hds, List.length_append, num8_length]; have := LB.out; omega)
                        clear hq ht hds fc8
                        have HEN : Hid (b9 = encL PP) := Lib.hid (by
                          rw [HPP.out, ← HNS8.out, ← HES7.out, ← HDS7.out, ← HES6.out, ← HDS6.out, ← HNS5.out, ← HNS4.out, ← HNS3.out, ← HES2.out, ← HDS2.out, ← HES1.out, ← HDS1.out, ← HES0.out, ← HDS0.out, ← HCS.out]
                          simp only [encL, secB, HL5.out, HL6.out, HL7.out, List.append_assoc])
                        go_wp2
                        go_ret2
                        refine ⟨_, _, rfl, HT0.out.trans HT.out, .inl ⟨HMY.out, rfl, ?_⟩⟩
                        rw [← HEN.out]
                        exact Qu.mono HQ.out (by rw [← hB] at *; exact HT0.out.size)
  · rw [show decide (MayP PP) = false from decide_eq_false hmay]
    have HMY := Lib.hid hmay
    clear hmay
    go_wp2
    go_ret2
    exact ⟨_, _, rfl, HT0.out.trans HTM.out, .inr ⟨HMY.out, rfl, rfl⟩⟩
end Go.Proofs.Ytoedkomckgidiaa
