/-
  The program's Encode.
-/
import Derived.Test.YtoedkomckgidiaaCG
import Derived.Lib.SlBytesConst
set_option linter.unusedVariables false
namespace Go.Proofs.Ytoedkomckgidiaa
open Go Go.RowKit

theorem flatMap_sing {α β : Type} (g : α → β) : ∀ l : List α, l.flatMap (fun i => [g i]) = l.map g
  | [] => rfl
  | a :: l => by rw [List.flatMap_cons, flatMap_sing g l]; rfl
theorem flat_sing (xs : List Int) : (List.range xs.length).flatMap (fun i => [xs.getD i 0]) = xs := by
  rw [flatMap_sing]
  apply List.ext_getElem?
  intro i
  by_cases h : i < xs.length
  · simp [h]
  · rw [List.getElem?_eq_none (by simp; omega), List.getElem?_eq_none (by omega)]
theorem flat_rows (l : List (List Int)) : (List.range l.length).flatMap (fun i => rw_ l i) = l.flatten := by
  have : (List.range l.length).map (fun i => rw_ l i) = l := by
    apply List.ext_getElem?
    intro i
    by_cases h : i < l.length
    · simp [h, rw_]
    · rw [List.getElem?_eq_none (by simp; omega), List.getElem?_eq_none (by omega)]
  rw [List.flatMap_def, this]
theorem wl_instr (w0 : World) (v lv : Value) (bs : List Nat) (w : World) (z : Nat → Nat → Int) (n : Nat) (hl : Slr w0 lv n 3 z) (h0 : Touch [] w0 w) (hq : Qb w w0.heap.size v bs) (hb : bs.length + 24 * n ≤ 900000) :
    Calls Try.prog 19 #[v, lv, .func (.func 20) #[] #[]] w (Wr w0 (bs ++ secB n (flatI 3 n z))) := by
  have := wlist_instr w0 v lv bs w z n hl h0 (.of h0 hq (by omega)) hb
  rw [flatI_list, List.append_assoc] at this
  exact this
theorem wl_entry (w0 : World) (v lv : Value) (bs : List Nat) (w : World) (z : Nat → Nat → Int) (n : Nat) (hl : Slr w0 lv n 3 z) (h0 : Touch [] w0 w) (hq : Qb w w0.heap.size v bs) (hb : bs.length + 24 * n ≤ 900000) :
    Calls Try.prog 21 #[v, lv, .func (.func 22) #[] #[]] w (Wr w0 (bs ++ secB n (flatI 3 n z))) := by
  have := wlist_entry w0 v lv bs w z n hl h0 (.of h0 hq (by omega)) hb
  rw [flatI_list, List.append_assoc] at this
  exact this
theorem wl_cell (w0 : World) (v lv : Value) (bs : List Nat) (w : World) (z : Nat → Nat → Int) (n : Nat) (hl : Slr w0 lv n 2 z) (h0 : Touch [] w0 w) (hq : Qb w w0.heap.size v bs) (hb : bs.length + 16 * n ≤ 900000) :
    Calls Try.prog 23 #[v, lv, .func (.func 24) #[] #[]] w (Wr w0 (bs ++ secB n (flatI 2 n z))) := by
  have := wlist_cell w0 v lv bs w z n hl h0 (.of h0 hq (by omega)) hb
  rw [flatI_list, List.append_assoc] at this
  exact this
theorem wl_spawn (w0 : World) (v lv : Value) (bs : List Nat) (w : World) (z : Nat → Nat → Int) (n : Nat) (hl : Slr w0 lv n 2 z) (h0 : Touch [] w0 w) (hq : Qb w w0.heap.size v bs) (hb : bs.length + 16 * n ≤ 900000) :
    Calls Try.prog 30 #[v, lv, .func (.func 31) #[] #[]] w (Wr w0 (bs ++ secB n (flatI 2 n z))) := by
  have := wlist_spawn w0 v lv bs w z n hl h0 (.of h0 hq (by omega)) hb
  rw [flatI_list, List.append_assoc] at this
  exact this
theorem wl_instr0 (w0 : World) (v lv : Value) (bs : List Nat) (w : World) (z : Nat → Nat → Int) (n : Nat) (hl : Slr w0 lv n 3 z) (h0 : Touch [] w0 w) (hq : Ready2 w0 w v bs) (hb : bs.length + 24 * n ≤ 900000) :
    Calls Try.prog 19 #[v, lv, .func (.func 20) #[] #[]] w (Wr w0 (bs ++ secB n (flatI 3 n z))) := by
  have := wlist_instr w0 v lv bs w z n hl h0 hq hb
  rw [flatI_list, List.append_assoc] at this
  exact this
theorem wl_int (w0 : World) (v lv : Value) (bs : List Nat) (w : World) (xs : List Int) (l : Nat) (hxl : xs.length = l) (hl : Sl w0 lv xs) (h0 : Touch [] w0 w) (hq : Qb w w0.heap.size v bs) (hb : bs.length + 8 * l ≤ 900000) :
    Calls Try.prog 26 #[v, lv, .func (.func 27) #[] #[]] w (Wr w0 (bs ++ secB l xs)) := by
  subst hxl
  have := wlist_int w0 v lv bs w xs _ rfl hl h0 (.of h0 hq (by omega)) hb
  rw [flat_sing, List.append_assoc] at this
  exact this
theorem wl_rows (w0 : World) (v lv : Value) (bs : List Nat) (w : World) (l : List (List Int)) (n m : Nat) (hn : l.length = n) (hl : Rws w0 lv l) (hm : ∀ v ∈ l, v.length ≤ m) (h0 : Touch [] w0 w) (hq : Qb w w0.heap.size v bs) (hb : bs.length + 8 * (n * m) ≤ 900000) (hn2 : n ≤ 900000) :
    Calls Try.prog 28 #[v, lv, .func (.func 29) #[] #[]] w (Wr w0 (bs ++ secB n l.flatten)) := by
  subst hn
  have := wlist_rows w0 v lv bs w l _ m rfl hl hm h0 (.of h0 hq (by omega)) hb hn2
  rw [flat_rows, List.append_assoc] at this
  exact this
theorem cell_marked (w : World) (C : Array Value) (e : TypeId) (fr : Nat × Nat) (i : Nat) : (w.alloc (.cells C e fr)).cell? ⟨w.heap.size, i, none⟩ = C[i]? := by
  have h : (w.alloc (.cells C e fr)).heap[w.heap.size]? = some (.cells C e fr) := heap_alloc_new w _
  rw [World.cell?]
  simp only [h, Option.isSome_none, Bool.false_eq_true, if_false]
/-- What Encode hands back. -/
def EncP (P : Pg) (w : World) (e : Ending) (w' : World) : Prop := ∃ v c, e = .returned (.tuple #[v, .int .i64 c]) ∧ Touch [] w w' ∧ ((MayP P ∧ c = 0 ∧ Qb w' w.heap.size v (encL P)) ∨ (¬ MayP P ∧ c = 1 ∧ v = .slice none 0 0))
theorem qb_two (w : World) (base : Nat) (h : base ≤ w.heap.size) : Qb (w.alloc (.cells #[.int .u8 83, .int .u8 66] 5)) base (.slice (some ⟨w.heap.size, 0, none⟩) 2 2) [83, 66] :=
  Qu.made (c := #[.int .u8 83, .int .u8 66]) rfl h rfl (by decide)
set_option maxHeartbeats 32000000 in
set_option maxRecDepth 100000 in
theorem enc_any (pv : Value) (P : Pg) (w : World) (h : PgV w pv P) : Calls Try.prog 10 #[pv] w (EncP P w) := by
  have HPV := Lib.hid h
  obtain ⟨n1, z1, n2, z2, n3, z3, rg, se, tt, ve, n8, z8, cl⟩ := P
  obtain ⟨v1, v2, v3, v5, v6, v7, v8, rfl, h1, h2, h3, h5, h6, h7, h8⟩ := h
  dsimp only at h1 h2 h3 h5 h6 h7 h8 ⊢
  obtain ⟨a1, c1, rfl⟩ := h1.form
  obtain ⟨a2, c2, rfl⟩ := h2.form
  obtain ⟨a3, c3, rfl⟩ := h3.form
  obtain ⟨a5, c5, rfl⟩ := h5.form
  obtain ⟨a6, c6, rfl⟩ := h6.form
  obtain ⟨a7, c7, rfl⟩ := h7.form
  obtain ⟨a8, c8, rfl⟩ := h8.form
  obtain ⟨l5, hl5⟩ : ∃ l, se.length = l := ⟨_, rfl⟩
  obtain ⟨l6, hl6⟩ : ∃ l, tt.length = l := ⟨_, rfl⟩
  obtain ⟨l7, hl7⟩ : ∃ l, ve.length = l := ⟨_, rfl⟩
  rw [hl5, hl6, hl7] at HPV
  rw [hl5] at h5
  rw [hl6] at h6
  rw [hl7] at h7
  rw [hl5, hl6, hl7]
  obtain ⟨PP, hPP⟩ : ∃ PP : Pg, PP = ⟨n1, z1, n2, z2, n3, z3, rg, se, tt, ve, n8, z8, cl⟩ := ⟨_, rfl⟩
  have HPP := Lib.hid hPP
  rw [← hPP]
  have HL5 := Lib.hid hl5
  have HL6 := Lib.hid hl6
  have HL7 := Lib.hid hl7
  clear hl5 hl6 hl7 hPP
  have ht0 : Touch [] w (w.alloc (.cells #[.slice a1 n1 c1, .slice a2 n2 c2, .slice a3 n3 c3, .int .i64 rg, .slice a5 l5 c5, .slice a6 l6 c6, .slice a7 l7 c7, .slice a8 n8 c8, .int .i64 cl] 29)) := (Touch.refl [] w).alloc _
  have hb0 : Blk (w.alloc (.cells #[.slice a1 n1 c1, .slice a2 n2 c2, .slice a3 n3 c3, .int .i64 rg, .slice a5 l5 c5, .slice a6 l6 c6, .slice a7 l7 c7, .slice a8 n8 c8, .int .i64 cl] 29)) w.heap.size #[.slice a1 n1 c1, .slice a2 n2 c2, .slice a3 n3 c3, .int .i64 rg, .slice a5 l5 c5, .slice a6 l6 c6, .slice a7 l7 c7, .slice a8 n8 c8, .int .i64 cl] 29 := Blk.new rfl
  obtain ⟨w1, hw1⟩ : ∃ x, w.alloc (.cells #[.slice a1 n1 c1, .slice a2 n2 c2, .slice a3 n3 c3, .int .i64 rg, .slice a5 l5 c5, .slice a6 l6 c6, .slice a7 l7 c7, .slice a8 n8 c8, .int .i64 cl] 29) = x := ⟨_, rfl⟩
  obtain ⟨B, hB⟩ : ∃ B, w.heap.size = B := ⟨_, rfl⟩
  rw [hw1, hB] at hb0
  rw [hw1] at ht0
  have hM := may_any (.agg #[.slice a1 n1 c1, .slice a2 n2 c2, .slice a3 n3 c3, .int .i64 rg, .slice a5 l5 c5, .slice a6 l6 c6, .slice a7 l7 c7, .slice a8 n8 c8, .int .i64 cl]) ⟨n1, z1, n2, z2, n3, z3, rg, se, tt, ve, n8, z8, cl⟩ w1 (HPV.out.touch ht0)
  rw [← HPP.out] at hM
  have HM := Lib.hid hM
  have HT0 := Lib.hid ht0
  have HBK := Lib.hid hb0
  have HX : Hid (∀ w', Touch [] w1 w' → Blk w' B #[.slice a1 n1 c1, .slice a2 n2 c2, .slice a3 n3 c3, .int .i64 rg, .slice a5 l5 c5, .slice a6 l6 c6, .slice a7 l7 c7, .slice a8 n8 c8, .int .i64 cl] 29) := Lib.hid (fun w' ht => HBK.out.touch ht (by simp))
  have H1 := Lib.hid (h1.touch ht0)
  have H2 := Lib.hid (h2.touch ht0)
  have H3 := Lib.hid (h3.touch ht0)
  have H5 := Lib.hid (h5.touch ht0 (by simp))
  have H6 := Lib.hid (h6.touch ht0 (by simp))
  have H7 := Lib.hid (h7.touch ht0)
  have H8 := Lib.hid (h8.touch ht0)
  clear h1 h2 h3 h5 h6 h7 h8 ht0 hb0 hM HPV
  have e00 := HBK.out.cell (i := 0) rfl
  have e01 := HBK.out.cell (i := 1) rfl
  have e02 := HBK.out.cell (i := 2) rfl
  have e03 := HBK.out.cell (i := 3) rfl
  have e04 := HBK.out.cell (i := 4) rfl
  have e05 := HBK.out.cell (i := 5) rfl
  have e06 := HBK.out.cell (i := 6) rfl
  have e07 := HBK.out.cell (i := 7) rfl
  have e08 := HBK.out.cell (i := 8) rfl
  go_enter Try.func10, Try.ntmps10
  go_wp2_with fail
  clear hw1 e00 e01 e02 e03 e04 e05 e06 e07 e08
  refine HM.out.mono ?_
  rintro e wM ⟨rfl, htM⟩
  have HTM := Lib.hid htM
  have hzM : w1.heap.size ≤ wM.heap.size := htM.size
  clear htM HM
  by_cases hmay : MayP PP
  · rw [show decide (MayP PP) = true from decide_eq_true hmay]
    have HMY := Lib.hid hmay
    obtain ⟨m1, m2, m2', m3, m5, m6, m7, m8, mv⟩ := (by have := hmay; rw [HPP.out] at this; exact this : MayP ⟨n1, z1, n2, z2, n3, z3, rg, se, tt, ve, n8, z8, cl⟩)
    dsimp only at m1 m2 m2' m3 m5 m6 m7 m8 mv
    have MV : Hid (∀ v ∈ ve, v.length ≤ 6) := Lib.hid (fun v hv => by rw [mv v hv]; exact m6)
    have M5 : Hid (se.length ≤ 8) := Lib.hid m5
    have M6 : Hid (tt.length ≤ 6) := Lib.hid m6
    have M7 : Hid (ve.length ≤ 1000) := Lib.hid m7
    have MVt : Hid (∀ v ∈ ve, v.length = tt.length) := Lib.hid mv
    have M1 : Hid (n1 ≤ 5000) := Lib.hid m1
    have M2 : Hid (n2 ≤ 13) := Lib.hid m2'
    have M3 : Hid (n3 ≤ 16) := Lib.hid m3
    have M8 : Hid (n8 ≤ 1000) := Lib.hid m8
    clear hmay m1 m2 m2' m3 m5 m6 m7 m8 mv
    have hcv := Lib.run_convert_bytes_const (P := Try.prog) wM 32 5 #[.int .u8 83, .int .u8 66] 2 2 Try.underlying32 Try.underlying5
    obtain ⟨W2, hW2⟩ : ∃ x, wM.alloc (.cells #[.int .u8 83, .int .u8 66] 5 (2, 3)) = x := ⟨_, rfl⟩
    have hcv2 : (convert 32 32 (.slice (some ⟨wM.heap.size, 0, none⟩) 2 2)).run Try.prog (wM.alloc (.cells #[.int .u8 83, .int .u8 66] 5)) = .ok (.slice (some ⟨wM.heap.size, 0, none⟩) 2 2) W2 := by rw [← hW2]; exact hcv
    have HA0 : Hid (Touch [] w1 W2) := Lib.hid (by rw [← hW2]; exact HTM.out.alloc _)
    have hrd : Ready2 w1 W2 (.slice (some ⟨wM.heap.size, 0, none⟩) 2 2) [83, 66] := .full HA0.out (by rw [← hW2]; exact cell_marked wM _ _ _ 0) (by rw [← hW2]; exact cell_marked wM _ _ _ 1)
    obtain ⟨b0, hb0⟩ : ∃ b0 : List Nat, [83, 66] = b0 := ⟨_, rfl⟩
    rw [hb0] at hrd
    have HB0 := Lib.hid hb0
    have HQ0 := Lib.hid hrd
    have LB0 : Hid (b0.length = 2) := Lib.hid (by rw [← hb0]; rfl)
    have c0 := (HX.out _ HA0.out).cell (i := 0) rfl
    clear hcv hW2 hrd hb0
    go_wp2_with fail
    refine (wl_instr0 w1 _ _ b0 _ z1 n1 H1.out HA0.out HQ0.out (by have := LB0.out; have := M1.out; omega)).mono ?_
    rintro e wE1 ⟨u1, rfl, hq, ht⟩
    obtain ⟨b1, hb⟩ : ∃ b, b0 ++ secB n1 (flatI 3 n1 z1) = b := ⟨_, rfl⟩
    rw [hb] at hq
    have HB1 := Lib.hid hb
    have HQ1 := Lib.hid hq
    have HA1 := Lib.hid ht
    have LB1 : Hid (b1.length = 4 + 24 * n1) := Lib.hid (by rw [← hb]; rw [List.length_append, secB_length, flatI_length]; have := LB0.out; omega)
    have c1 := (HX.out _ ht).cell (i := 1) rfl
    clear hb hq ht c0 hcv2
    go_wp2_with fail
    refine (wl_entry w1 _ _ b1 _ z2 n2 H2.out HA1.out HQ1.out (by have := LB1.out; have := M1.out; have := M2.out; omega)).mono ?_
    rintro e wE2 ⟨u2, rfl, hq, ht⟩
    obtain ⟨b2, hb⟩ : ∃ b, b1 ++ secB n2 (flatI 3 n2 z2) = b := ⟨_, rfl⟩
    rw [hb] at hq
    have HB2 := Lib.hid hb
    have HQ2 := Lib.hid hq
    have HA2 := Lib.hid ht
    have LB2 : Hid (b2.length = 6 + 24 * n1 + 24 * n2) := Lib.hid (by rw [← hb]; rw [List.length_append, secB_length, flatI_length]; have := LB1.out; omega)
    have c2 := (HX.out _ ht).cell (i := 2) rfl
    clear hb hq ht c1
    go_wp2_with fail
    refine (wl_cell w1 _ _ b2 _ z3 n3 H3.out HA2.out HQ2.out (by have := LB2.out; have := M1.out; have := M2.out; have := M3.out; omega)).mono ?_
    rintro e wE3 ⟨u3, rfl, hq, ht⟩
    obtain ⟨b3, hb⟩ : ∃ b, b2 ++ secB n3 (flatI 2 n3 z3) = b := ⟨_, rfl⟩
    rw [hb] at hq
    have HB3 := Lib.hid hb
    have HQ3 := Lib.hid hq
    have HA3 := Lib.hid ht
    have LB3 : Hid (b3.length = 8 + 24 * n1 + 24 * n2 + 16 * n3) := Lib.hid (by rw [← hb]; rw [List.length_append, secB_length, flatI_length]; have := LB2.out; omega)
    have c3 := (HX.out _ ht).cell (i := 3) rfl
    clear hb hq ht c2
    go_wp2_with fail
    refine (wnum_w w1 _ b3 rg _ HA3.out HQ3.out (by have := LB3.out; have := M1.out; have := M2.out; have := M3.out; omega)).mono ?_
    rintro e wE4 ⟨u4, rfl, hq, ht⟩
    obtain ⟨b4, hb⟩ : ∃ b, b3 ++ num8 rg = b := ⟨_, rfl⟩
    rw [hb] at hq
    have HB4 := Lib.hid hb
    have HQ4 := Lib.hid hq
    have HA4 := Lib.hid ht
    have LB4 : Hid (b4.length = 16 + 24 * n1 + 24 * n2 + 16 * n3) := Lib.hid (by rw [← hb]; rw [List.length_append, num8_length]; have := LB3.out; omega)
    have c4 := (HX.out _ ht).cell (i := 4) rfl
    clear hb hq ht c3
    go_wp2_with fail
    refine (wl_int w1 _ _ b4 _ se l5 HL5.out H5.out HA4.out HQ4.out (by have := LB4.out; have := M1.out; have := M2.out; have := M3.out; have := M5.out; have := HL5.out; omega)).mono ?_
    rintro e wE5 ⟨u5, rfl, hq, ht⟩
    obtain ⟨b5, hb⟩ : ∃ b, b4 ++ secB l5 se = b := ⟨_, rfl⟩
    rw [hb] at hq
    have HB5 := Lib.hid hb
    have HQ5 := Lib.hid hq
    have HA5 := Lib.hid ht
    have LB5 : Hid (b5.length = 18 + 24 * n1 + 24 * n2 + 16 * n3 + 8 * se.length) := Lib.hid (by rw [← hb, ← HL5.out]; rw [List.length_append, secB_length]; have := LB4.out; omega)
    have c5 := (HX.out _ ht).cell (i := 5) rfl
    clear hb hq ht c4
    go_wp2_with fail
    refine (wl_int w1 _ _ b5 _ tt l6 HL6.out H6.out HA5.out HQ5.out (by have := LB5.out; have := M1.out; have := M2.out; have := M3.out; have := M5.out; have := M6.out; have := HL6.out; omega)).mono ?_
    rintro e wE6 ⟨u6, rfl, hq, ht⟩
    obtain ⟨b6, hb⟩ : ∃ b, b5 ++ secB l6 tt = b := ⟨_, rfl⟩
    rw [hb] at hq
    have HB6 := Lib.hid hb
    have HQ6 := Lib.hid hq
    have HA6 := Lib.hid ht
    have LB6 : Hid (b6.length = 20 + 24 * n1 + 24 * n2 + 16 * n3 + 8 * se.length + 8 * tt.length) := Lib.hid (by rw [← hb, ← HL6.out]; rw [List.length_append, secB_length]; have := LB5.out; omega)
    have c6 := (HX.out _ ht).cell (i := 6) rfl
    clear hb hq ht c5
    go_wp2_with fail
    refine (wl_rows w1 _ _ b6 _ ve l7 6 HL7.out H7.out MV.out HA6.out HQ6.out (by have := LB6.out; have := M1.out; have := M2.out; have := M3.out; have := M5.out; have := M6.out; have := M7.out; have := HL7.out; omega) (by have := M7.out; have := HL7.out; omega)).mono ?_
    rintro e wE7 ⟨u7, rfl, hq, ht⟩
    obtain ⟨b7, hb⟩ : ∃ b, b6 ++ secB l7 ve.flatten = b := ⟨_, rfl⟩
    rw [hb] at hq
    have HB7 := Lib.hid hb
    have HQ7 := Lib.hid hq
    have HA7 := Lib.hid ht
    have LB7 : Hid (b7.length ≤ 70000 + 24 * n1 + 24 * n2 + 16 * n3 + 8 * se.length + 8 * tt.length) := Lib.hid (by rw [← hb, ← HL7.out]; rw [List.length_append, secB_length, flatten_len tt.length ve MVt.out]; have := LB6.out; have : ve.length * tt.length ≤ 1000 * 6 := Nat.mul_le_mul M7.out M6.out; omega)
    have c7 := (HX.out _ ht).cell (i := 7) rfl
    clear hb hq ht c6
    go_wp2_with fail
    refine (wl_spawn w1 _ _ b7 _ z8 n8 H8.out HA7.out HQ7.out (by have := LB7.out; have := M1.out; have := M2.out; have := M3.out; have := M5.out; have := M6.out; have := M8.out; omega)).mono ?_
    rintro e wE8 ⟨u8, rfl, hq, ht⟩
    obtain ⟨b8, hb⟩ : ∃ b, b7 ++ secB n8 (flatI 2 n8 z8) = b := ⟨_, rfl⟩
    rw [hb] at hq
    have HB8 := Lib.hid hb
    have HQ8 := Lib.hid hq
    have HA8 := Lib.hid ht
    have LB8 : Hid (b8.length ≤ 70002 + 24 * n1 + 24 * n2 + 16 * n3 + 8 * se.length + 8 * tt.length + 16 * n8) := Lib.hid (by rw [← hb]; rw [List.length_append, secB_length, flatI_length]; have := LB7.out; omega)
    have c8 := (HX.out _ ht).cell (i := 8) rfl
    clear hb hq ht c7
    go_wp2_with fail
    refine (wnum_w w1 _ b8 cl _ HA8.out HQ8.out (by have := LB8.out; have := M1.out; have := M2.out; have := M3.out; have := M5.out; have := M6.out; have := M8.out; omega)).mono ?_
    rintro e wE9 ⟨u9, rfl, hq, ht⟩
    obtain ⟨b9, hb⟩ : ∃ b, b8 ++ num8 cl = b := ⟨_, rfl⟩
    rw [hb] at hq
    have HB9 := Lib.hid hb
    have HQ9 := Lib.hid hq
    have HA9 := Lib.hid ht
    clear hb hq ht c8
    have HEN : Hid (b9 = encL PP) := Lib.hid (by
      rw [HPP.out, ← HB9.out, ← HB8.out, ← HB7.out, ← HB6.out, ← HB5.out, ← HB4.out, ← HB3.out, ← HB2.out, ← HB1.out, ← HB0.out, ← HL5.out, ← HL6.out, ← HL7.out]
      simp only [encL, List.append_assoc])
    go_wp2
    go_ret2
    refine ⟨_, _, rfl, HT0.out.trans HA9.out, .inl ⟨HMY.out, rfl, ?_⟩⟩
    rw [← HEN.out]
    exact Qu.mono HQ9.out (by rw [← hB] at *; exact HT0.out.size)
  · rw [show decide (MayP PP) = false from decide_eq_false hmay]
    have HMY := Lib.hid hmay
    clear hmay
    go_wp2
    go_ret2
    exact ⟨_, _, rfl, HT0.out.trans HTM.out, .inr ⟨HMY.out, rfl, rfl⟩⟩
end Go.Proofs.Ytoedkomckgidiaa
