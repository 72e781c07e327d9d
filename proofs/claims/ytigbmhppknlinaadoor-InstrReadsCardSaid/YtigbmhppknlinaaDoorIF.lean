/-
  Instructions read: the program's Read.
-/
import Derived.Test.YtigbmhppknlinaaDoorIE
import Derived.Lib.AtoiAllCases
import Derived.Lib.ConvBytes
set_option linter.unusedVariables false
namespace Go.Proofs.YtigbmhppknlinaaDoor
open Go Go.RowKit

theorem touch_bytes (w : World) (e : TypeId) (t : ByteArray) : Touch [] w (Lib.bytesWorld w e t) :=
  Touch.of_below (Lib.bytesWorld_below w e t)
theorem atoi_ok (p : ByteArray) (hp : p.size ≤ 1000000) (v : Int) (h : Lib.atoiAll p.data.toList = .ok v) (w : World) : Calls Tryd.prog 26 #[.string p] w fun e w' => e = .returned (.tuple #[.int .i64 v, .nilIface]) ∧ Touch [] w w' := by
  refine (Tryd.strconv_Atoi_ok p (by omega) v h w).mono ?_
  rintro e w' ⟨rfl, rfl | ⟨t, rfl⟩⟩
  · exact ⟨rfl, Touch.refl _ _⟩
  · exact ⟨rfl, touch_bytes _ _ _⟩
def AtoiBad (w : World) (e : Ending) (w' : World) : Prop := ∃ v N t, e = .returned (.tuple #[.int .i64 v, .iface t (.pointer (some N))]) ∧ Touch [] w w'
theorem atoi_bad (p : ByteArray) (hp : p.size ≤ 1000000) (h : ∀ x, Lib.atoiAll p.data.toList ≠ .ok x) (w : World) (hv : Vs w) : Calls Tryd.prog 26 #[.string p] w (AtoiBad w) := by
  obtain ⟨t1, p1, h1⟩ := hv.syn
  obtain ⟨t2, p2, h2⟩ := hv.rng
  cases hq : Lib.atoiAll p.data.toList with
  | ok x => exact absurd hq (h x)
  | range =>
    refine (Tryd.strconv_Atoi_range_var p (by omega) hq t2 p2 w h2).mono ?_
    rintro e w' ⟨N, rfl, _, _, hb⟩
    exact ⟨_, _, _, rfl, Touch.of_below hb⟩
  | _ =>
    refine (Tryd.strconv_Atoi_syntax_var p (by omega) (hq.trans rfl) t1 p1 w h1).mono ?_
    rintro e w' ⟨N, rfl, _, _, hb⟩
    exact ⟨_, _, _, rfl, Touch.of_below hb⟩
def SplitP (s : ByteArray) (w : World) (e : Ending) (w' : World) : Prop := ∃ (pb : List ByteArray) (N : Nat), e = .returned (.slice (some ⟨w.heap.size, 0, none⟩) pb.length N) ∧ Touch [] w w' ∧ w'.heap.size = w.heap.size + 1 ∧ N = min 4 (s.size + 1) ∧ pb.length ≤ N ∧ (∀ i, i < pb.length → w'.cell? ⟨w.heap.size, i, none⟩ = some (.string (pb.getD i ByteArray.empty))) ∧
  ((pb = (words s.data.toList).map mk) ∨ (pb.length = 4 ∧ 4 < (words s.data.toList).length))
theorem split_any (s : ByteArray) (hs : s.size ≤ 1000000) (w : World) (hv : Vs w) : Calls Tryd.prog 25 #[.string s, .string ⟨#[32]⟩, .int .i64 4] w (SplitP s w) := by
  obtain ⟨m, hm⟩ := hv.most
  refine (Tryd.strings_SplitN s blank 4 m w (by omega) hm (by decide) (by omega) (by omega)).mono ?_
  rintro e w' ⟨rfl, rfl⟩
  have hN := parts_of s
  obtain ⟨pb, hpb⟩ : ∃ pb, Lib.splitB blank 0 (min 4 (s.size + 1) - 1) s = pb := ⟨_, rfl⟩
  rw [hpb] at hN ⊢
  have hle : pb.length ≤ min 4 (s.size + 1) := by
    have := Lib.splitB_length_le blank 0 (min 4 (s.size + 1) - 1) s
    rw [hpb] at this
    omega
  refine ⟨pb, _, rfl, (Touch.refl _ _).alloc _, by simp, rfl, hle, fun i hi => ?_, ?_⟩
  · rw [World.cell?_alloc_at _ _ _ _ rfl]
    unfold Lib.cellsOf
    rw [List.getElem?_toArray, List.getElem?_append_left (by simpa using hi)]
    simp [hi]
  · rcases hN with ⟨h, _⟩ | ⟨h1, h2, _⟩
    · exact .inl h
    · exact .inr ⟨h1, h2⟩
theorem Touch.setNew3 {a w : World} {b : Nat} (h : Touch [] a w) (hb : a.heap.size ≤ b) (x y z : Value) : Touch [] a (((w.setCell ⟨b, 0, none⟩ x).setCell ⟨b, 1, none⟩ y).setCell ⟨b, 2, none⟩ z) :=
  ((h.setNew (p := ⟨b, 0, none⟩) hb x).setNew (p := ⟨b, 1, none⟩) hb y).setNew (p := ⟨b, 2, none⟩) hb z
/-- Where the first word is no name, nothing is read. -/
theorem rd_none0 {s : ByteArray} {pb : List ByteArray} {p0 : ByteArray} (hpb : pb = (words s.data.toList).map mk ∨ (pb.length = 4 ∧ 4 < (words s.data.toList).length)) (h0 : pb.getD 0 ByteArray.empty = p0) (h : opOf p0 = 0) : rd s = none := by
  unfold rd
  rcases hpb with h1 | ⟨_, h1⟩
  · cases hw : words s.data.toList with
    | nil => exact absurd hw (words_ne _)
    | cons w0 ps =>
      rw [h1, hw] at h0
      have : mk w0 = p0 := by simpa using h0
      simp only [rdW]
      rw [this, if_pos h]
  · match words s.data.toList, h1 with
    | w0 :: a :: b :: c :: ps, _ => simp only [rdW]; split <;> rfl
    | [], h1 => simp at h1
    | [_], h1 => simp at h1
    | [_, _], h1 => simp at h1
    | [_, _, _], h1 => simp at h1
theorem rd_none1 {s : ByteArray} {pb : List ByteArray} {p0 : ByteArray} {op : Int} (hpb : pb = (words s.data.toList).map mk ∨ (pb.length = 4 ∧ 4 < (words s.data.toList).length)) (h0 : pb.getD 0 ByteArray.empty = p0) (h : opOf p0 = op) (hne : (pb.length : Int) ≠ 1 + opZ op) : rd s = none := by
  unfold rd
  rcases hpb with h1 | ⟨_, h1⟩
  · cases hw : words s.data.toList with
    | nil => exact absurd hw (words_ne _)
    | cons w0 ps =>
      rw [h1, hw] at h0
      have e : mk w0 = p0 := by simpa using h0
      rw [h1, hw] at hne
      simp only [rdW, e, h]
      match ps, hne with
      | [], hne =>
        simp only [List.length_map, List.length_cons, List.length_nil] at hne
        have hx : ¬ opZ op = 0 := by omega
        simp [hx]
      | [p], hne =>
        simp only [List.length_map, List.length_cons, List.length_nil] at hne
        have hx : ¬ opZ op = 1 := by omega
        simp [hx]
      | [p, q], hne =>
        simp only [List.length_map, List.length_cons, List.length_nil] at hne
        have hx : ¬ opZ op = 2 := by omega
        simp [hx]
      | _ :: _ :: _ :: _, hne => simp
  · match words s.data.toList, h1 with
    | w0 :: a :: b :: c :: ps, _ => simp only [rdW]; split <;> rfl
    | [], h1 => simp at h1
    | [_], h1 => simp at h1
    | [_, _], h1 => simp at h1
    | [_, _, _], h1 => simp at h1
/-- The number that Atoi tells, or 0. -/
def av (p : List UInt8) : Int := match Lib.atoiAll p with
  | .ok v => v
  | _ => 0
theorem av_ok {p : List UInt8} {v : Int} (h : Lib.atoiAll p = .ok v) : av p = v := by unfold av; rw [h]
theorem av_in (p : List UInt8) : InI (av p) := by
  unfold av
  split
  · rename_i v h; exact Lib.atoiAll_bounds h
  · unfold InI; omega
def vA (ps : List (List UInt8)) (k : Nat) : Int := if 0 < k then av (ps.getD 0 []) else 0
def vB (ps : List (List UInt8)) (k : Nat) : Int := if 1 < k then av (ps.getD 1 []) else 0
theorem vA_1 (ps : List (List UInt8)) : vA ps 1 = av (ps.getD 0 []) := if_pos (by decide)
theorem vA_2 (ps : List (List UInt8)) : vA ps 2 = av (ps.getD 0 []) := if_pos (by decide)
theorem vB_0 (ps : List (List UInt8)) : vB ps 0 = 0 := if_neg (by decide)
theorem vB_1 (ps : List (List UInt8)) : vB ps 1 = 0 := if_neg (by decide)
theorem vB_2 (ps : List (List UInt8)) : vB ps 2 = av (ps.getD 1 []) := if_pos (by decide)
theorem vA_in (ps : List (List UInt8)) (k : Nat) : InI (vA ps k) := by
  unfold vA; split
  · exact av_in _
  · unfold InI; omega
theorem vB_in (ps : List (List UInt8)) (k : Nat) : InI (vB ps k) := by
  unfold vB; split
  · exact av_in _
  · unfold InI; omega
theorem rd_bad {s : ByteArray} {w0 : List UInt8} {ps : List (List UInt8)} (hw : words s.data.toList = w0 :: ps) {k : Nat} (hk : k < ps.length) (hb : ∀ x, Lib.atoiAll (ps.getD k []) ≠ .ok x) : rd s = none := by
  have hn := numL_of_bad hb
  unfold rd
  rw [hw]
  simp only [rdW]
  split
  · rfl
  · match ps, hk, hn with
    | [p], hk, hn =>
      obtain rfl : k = 0 := by simp at hk; omega
      have hn' : numL p = none := hn
      simp [hn']
    | [p, q], hk, hn =>
      rcases (by simp at hk; omega : k = 0 ∨ k = 1) with rfl | rfl
      · have hn' : numL p = none := hn
        simp [hn']
      · have hn' : numL q = none := hn
        simp only [hn', Option.map_none]
        cases numL p <;> simp
    | _ :: _ :: _ :: _, hk, hn => rfl
theorem rd_other {s : ByteArray} {w0 : List UInt8} {ps : List (List UInt8)} {op : Int} (hw : words s.data.toList = w0 :: ps) (ho : opOf (mk w0) = op) (hne : ¬ textZ op (vA ps ps.length) (vB ps ps.length) = s) : rd s = none := by
  cases hr : rd s with
  | none => rfl
  | some x =>
    obtain ⟨op', a, b⟩ := x
    have hs := rd_some hr
    exfalso
    apply hne
    unfold rd at hr
    rw [hw] at hr
    simp only [rdW, ho] at hr
    split at hr
    · cases hr
    · match ps, hr with
      | [], hr =>
        simp only at hr
        split at hr
        · cases hr; exact hs.1
        · cases hr
      | [p], hr =>
        simp only at hr
        split at hr
        · cases hp : numL p with
          | none => rw [hp] at hr; cases hr
          | some x =>
            rw [hp] at hr
            cases hr
            have : vA [p] [p].length = a := av_ok (numL_ok hp)
            rw [this]
            exact hs.1
        · cases hr
      | [p, q], hr =>
        simp only at hr
        split at hr
        · cases hp : numL p with
          | none => rw [hp] at hr; cases hr
          | some x =>
            cases hq : numL q with
            | none => rw [hp, hq] at hr; cases hr
            | some y =>
              rw [hp, hq] at hr
              cases hr
              have e1 : vA [p, q] [p, q].length = a := av_ok (numL_ok hp)
              have e2 : vB [p, q] [p, q].length = b := av_ok (numL_ok hq)
              rw [e1, e2]
              exact hs.1
        · cases hr
theorem rd_same {s : ByteArray} {ps : List (List UInt8)} {op : Int} (h1 : 1 ≤ op) (h2 : op < 39) (hq : opZ op = (ps.length : Int)) (he : textZ op (vA ps ps.length) (vB ps ps.length) = s) : rd s = some (op, vA ps ps.length, vB ps ps.length) := by
  rw [← he, rd_text h1 h2 (vA_in _ _) (vB_in _ _), hq]
  have i0 : (0 < (ps.length : Int)) = (0 < ps.length) := propext ⟨fun h => by omega, fun h => by omega⟩
  have i1 : (1 < (ps.length : Int)) = (1 < ps.length) := propext ⟨fun h => by omega, fun h => by omega⟩
  simp only [i0, i1]
  unfold vA vB
  by_cases h0 : 0 < ps.length <;> by_cases h1 : 1 < ps.length <;> simp [h0, h1]
theorem opOf_empty : opOf (mk []) = 0 := by
  rcases opOf_cases (mk []) with ⟨e, _⟩ | ⟨k, h1, h2, h3, _⟩
  · exact e
  · have := congrArg (fun x : ByteArray => x.data.toList) h3
    simp only [mk_list, nmS_list] at this
    exact absurd this.symm (nmB_ne h1 h2)
set_option maxHeartbeats 8000000 in
set_option maxRecDepth 100000 in
theorem read_any (s : ByteArray) (hs : s.size ≤ 1000000) (w : World) (hv : Vs w) : Calls Tryd.prog 21 #[.string s] w (ReadP (rd s) w) := by
  have t0 := (Touch.refl [] w).alloc (.cells #[.int .i64 0, .int .i64 0, .int .i64 0] 29)
  have hb2 : Blk (w.alloc (.cells #[.int .i64 0, .int .i64 0, .int .i64 0] 29)) w.heap.size #[.int .i64 0, .int .i64 0, .int .i64 0] 29 := Blk.new rfl
  have HV := Lib.hid hv
  have HT0 := Lib.hid t0
  have HB2 := Lib.hid hb2
  clear hv t0 hb2
  go_enter Tryd.func21, Tryd.ntmps21
  go_wp2_with fail
  refine (split_any s hs _ (HV.out.touch HT0.out)).mono ?_
  rintro e w1 ⟨pb, N, rfl, ht1, hs1, hN, hle, hc, hpb⟩
  have HT1 := Lib.hid (HT0.out.trans ht1)
  have HB2 := Lib.hid (HB2.out.touch ht1 (by simp))
  have HC := Lib.hid hc
  have hsz : w.heap.size + 1 < w1.heap.size := by rw [hs1]; simp
  have hne : 0 < pb.length := by
    rcases hpb with h | h
    · rw [h, List.length_map]; exact List.length_pos_iff.2 (words_ne _)
    · omega
  have HC : Hid (∀ i, i < pb.length → w1.cell? ⟨w.heap.size + 1, i, none⟩ = some (.string (pb.getD i ByteArray.empty))) := Lib.hid (fun i hi => by have := hc i hi; simpa using this)
  obtain ⟨p0, hp0⟩ : ∃ p0, pb.getD 0 ByteArray.empty = p0 := ⟨_, rfl⟩
  have hc0 := HC.out 0 hne
  rw [hp0] at hc0
  have HP0 := Lib.hid hp0
  have HP := Lib.hid hpb
  have HN := Lib.hid hN
  obtain ⟨m, hm⟩ : ∃ m, pb.length = m := ⟨_, rfl⟩
  have HM := Lib.hid hm
  have hs1' : w1.heap.size = w.heap.size + 2 := by rw [hs1]; simp
  have HS1 := Lib.hid hs1'
  rw [hm] at hne hle ⊢
  clear ht1 hs1 hs1' hc hpb hN hp0 hm
  go_wp2_with fail
  refine (op_any p0 _ (HV.out.touch HT1.out)).mono ?_
  rintro e w2 ⟨rfl, ht2⟩
  obtain ⟨op, hop⟩ : ∃ op, opOf p0 = op := ⟨_, rfl⟩
  have hrg := opOf_range p0
  rw [hop] at hrg ⊢
  obtain ⟨hop0, hop1⟩ := hrg
  have HOP := Lib.hid hop
  have HT2 := Lib.hid (HT1.out.trans ht2)
  have HB2 := Lib.hid (HB2.out.touch ht2 (by simp))
  have HC2 : Hid (∀ i, i < pb.length → w2.cell? ⟨w.heap.size + 1, i, none⟩ = some (.string (pb.getD i ByteArray.empty))) := Lib.hid (fun i hi => cell_touch (HC.out i hi) ht2 (by simp))
  have hs2 : w.heap.size + 2 ≤ w2.heap.size := by have := ht2.size; rw [HS1.out] at this; exact this
  clear ht2 hop
  have hb5 : Blk (w2.alloc (.cells #[.int .i64 op, .int .i64 0, .int .i64 0] 29)) w2.heap.size #[.int .i64 op, .int .i64 0, .int .i64 0] 29 := Blk.new rfl
  have HB5 := Lib.hid hb5
  clear hb5
  by_cases h0 : op = 0
  · subst h0
    have hf : isZ 0 = false := rfl
    go_wp2_with fail
    refine (is_any _ _).mono ?_
    rintro e w3 ⟨rfl, rfl⟩
    rw [hf]
    have hb2 := HB2.out.alloc (.cells #[.int .i64 0, .int .i64 0, .int .i64 0] 29)
    have c0 := hb2.cell (i := 0) rfl
    have c1 := hb2.cell (i := 1) rfl
    have c2 := hb2.cell (i := 2) rfl
    have f0 := hb2.free 0
    have f1 := hb2.free 1
    have f2 := hb2.free 2
    have HQ : Hid (rd s = none) := Lib.hid (rd_none0 HP.out HP0.out HOP.out)
    clear hb2
    go_wp2
    exact bodyPost_ret (v := .tuple #[.agg #[.int .i64 0, .int .i64 0, .int .i64 0], .bool false]) (by simp [results, Tryd.results21, go_sem, c0, c1, c2]) rfl ⟨by rw [HQ.out]; rfl, (HT2.out.alloc _).setNew3 (Nat.le_refl _) _ _ _⟩
  · have h1 : 1 ≤ op := by omega
    have HI := Lib.hid (isZ_t h1 hop1)
    have hq02 := opT_02 op.toNat
    obtain ⟨q, hq⟩ : ∃ q : Nat, opZ op = (q : Int) := ⟨(opZ op).toNat, by unfold opZ; omega⟩
    have hq2 : q ≤ 2 := by unfold opZ at hq; omega
    have HQ := Lib.hid hq
    clear hq02 hq
    go_wp2_with fail
    refine (is_any _ _).mono ?_
    rintro e w3 ⟨rfl, rfl⟩
    rw [HI.out]
    go_wp2_with fail
    refine (operands_any op _ (HV.out.touch (HT2.out.alloc _))).mono ?_
    rintro e w3 ⟨rfl, rfl⟩
    rw [HQ.out]
    by_cases hm : m = 1 + q
    · obtain ⟨w0, ps, hw⟩ : ∃ w0 ps, words s.data.toList = w0 :: ps := by
        cases hw : words s.data.toList with
        | nil => exact absurd hw (words_ne _)
        | cons a t => exact ⟨a, t, rfl⟩
      have hpw : pb = (w0 :: ps).map mk := by
        rcases HP.out with h | ⟨h, _⟩
        · rw [h, hw]
        · have := HM.out; omega
      have hpl : ps.length = q := by have := HM.out; rw [hpw] at this; simp at this; omega
      have hw0 : mk w0 = p0 := by have := HP0.out; rw [hpw] at this; simpa using this
      have hlen : ∀ x ∈ words s.data.toList, x.length ≤ s.size := fun x hx => by
        have := words_mem_len _ x hx
        have hs : s.data.toList.length = s.size := by rw [Array.length_toList]; rfl
        omega
      have hN1 : 1 < N := by
        have h1 : 1 ≤ s.size := by
          have := hlen w0 (by rw [hw]; simp)
          rcases Nat.eq_zero_or_pos s.size with e | e
          · exfalso
            have : w0 = [] := List.eq_nil_of_length_eq_zero (by omega)
            rw [this] at hw0
            have := HOP.out
            rw [← hw0, opOf_empty] at this
            omega
          · exact e
        have := HN.out
        omega
      have HPS : Hid (∀ i, i < q → (mk (ps.getD i [])).size ≤ 1000000) := Lib.hid (fun i hi => by
        have hm : ps.getD i [] ∈ words s.data.toList := by
          rw [hw, List.getD_eq_getElem?_getD, List.getElem?_eq_getElem (by omega)]
          exact List.mem_cons_of_mem _ (List.getElem_mem _)
        have := hlen _ hm
        have e : (mk (ps.getD i [])).size = (ps.getD i []).length := by
          show (mk (ps.getD i [])).data.size = _
          rw [← Array.length_toList, mk_list]
        omega)
      have HCP : Hid (∀ i, i < q → w2.cell? ⟨w.heap.size + 1, i + 1, none⟩ = some (.string (mk (ps.getD i [])))) := Lib.hid (fun i hi => by
        have := HC2.out (i + 1) (by rw [HM.out]; omega)
        rw [this, hpw]
        simp [show i < ps.length from by omega])
      have HW := Lib.hid hw
      have HPL := Lib.hid hpl
      have HW0 : Hid (opOf (mk w0) = op) := Lib.hid (by rw [hw0]; exact HOP.out)
      subst hm
      clear hw hpw hpl hw0 hlen
      have hmq : (((1 + q : Nat) : Int) != 1 + (q : Int)) = false := bneF (by omega)
      go_wp2
      go_loopw [34] (fun kv wr => ∃ k : Nat, k ≤ q ∧ kv = .int .i64 (k : Int) ∧ Blk wr w2.heap.size #[.int .i64 op, .int .i64 (vA ps k), .int .i64 (vB ps k)] 29 ∧ Blk wr w.heap.size #[.int .i64 0, .int .i64 0, .int .i64 0] 29 ∧ Touch [] w wr ∧ w2.heap.size < wr.heap.size ∧ (∀ i, i < q → wr.cell? ⟨w.heap.size + 1, i + 1, none⟩ = some (.string (mk (ps.getD i [])))) ∧ ∀ i, i < k → ∃ x, Lib.atoiAll (ps.getD i []) = .ok x) (fun kv _ => q + 1 - (intOf kv).toNat)
      case atStart => exact ⟨0, by omega, rfl, HB5.out, HB2.out.alloc _, HT2.out.alloc _, by simp, fun i hi => cell_touch (HCP.out i hi) ((Touch.refl [] _).alloc _) (by simp), fun i hi => by omega⟩
      case round =>
        obtain ⟨k, hk, rfl, hb5, hb2, ht, hsr, hcr, hok⟩ := hrel
        have HB5r := Lib.hid hb5
        have HB2r := Lib.hid hb2
        have HTr := Lib.hid ht
        have HCr := Lib.hid hcr
        have HOK := Lib.hid hok
        have hvr := HV.out.touch ht
        clear hb5 hb2 ht hcr hok
        by_cases hlt : k < q
        · rcases (by omega : k = 0 ∨ k = 1) with rfl | rfl
          · have hkq : 0 < q := by omega
            have hc7 := HCr.out 0 hkq
            cases hat : Lib.atoiAll (ps.getD 0 []) with
            | ok v =>
              have hv : Lib.atoiAll (mk (ps.getD 0 [])).data.toList = .ok v := by rw [mk_list]; exact hat
              have HAT := Lib.hid hat
              clear hat
              go_wp2_with fail
              refine (atoi_ok _ (HPS.out 0 hkq) v hv _).mono ?_
              rintro e w4 ⟨rfl, ht4⟩
              have hb5' := HB5r.out.touch ht4 (by simp)
              have d0 := hb5'.cell (i := 1) rfl
              have g0 := hb5'.free 1
              have HB5n := Lib.hid (hb5'.set 1 (.int .i64 v))
              have HB2n := Lib.hid ((HB2r.out.touch ht4 (by simp)).other (a := ⟨w2.heap.size, 1, none⟩) (by show w.heap.size ≠ w2.heap.size; omega) (.int .i64 v))
              have HTn := Lib.hid ((HTr.out.trans ht4).setNew (p := ⟨w2.heap.size, 1, none⟩) (by show w.heap.size ≤ w2.heap.size; omega) (.int .i64 v))
              have HCn : Hid (∀ i, i < q → (w4.setCell ⟨w2.heap.size, 1, none⟩ (.int .i64 v)).cell? ⟨w.heap.size + 1, i + 1, none⟩ = some (.string (mk (ps.getD i [])))) := Lib.hid (fun i hi => cell_touch (S := [w2.heap.size]) (cell_touch (HCr.out i hi) ht4 (by simp)) ((Touch.refl _ _).setCell (by simp) _) (by simp; omega))
              have hsn : w2.heap.size < w4.heap.size := by have := ht4.size; omega
              clear hb5' ht4
              go_wp2
              go_roundw
              case rel =>
                refine ⟨1, by omega, by go_num, ?_, HB2n.out, HTn.out, by simpa [World.setCell] using hsn, HCn.out, fun i hi => ?_⟩
                · have := HB5n.out
                  rw [← av_ok HAT.out, show (#[.int .i64 op, .int .i64 (vA ps 0), .int .i64 (vB ps 0)] : Array Value).setIfInBounds 1 (.int .i64 (av (ps.getD 0 []))) = #[.int .i64 op, .int .i64 (vA ps 1), .int .i64 (vB ps 1)] from by rw [vA_1, vB_1, vB_0]; rfl] at this
                  rw [av_ok HAT.out] at this
                  exact this
                · obtain rfl : i = 0 := by omega
                  exact ⟨v, HAT.out⟩
              case measure => simp [intOf] <;> omega
            | range =>
              have hbad : ∀ x, Lib.atoiAll (ps.getD 0 []) ≠ .ok x := fun x e => by rw [hat] at e; cases e
              clear hat
              have HRn : Hid (rd s = none) := Lib.hid (rd_bad HW.out (k := 0) (by rw [HPL.out]; omega) hbad)
              go_wp2_with fail
              refine (atoi_bad _ (HPS.out 0 hkq) (by rw [mk_list]; exact hbad) _ hvr).mono ?_
              rintro e w4 ⟨v, N4, t4, rfl, ht4⟩
              have hb2 := HB2r.out.touch ht4 (by simp)
              have c0 := hb2.cell (i := 0) rfl
              have c1 := hb2.cell (i := 1) rfl
              have c2 := hb2.cell (i := 2) rfl
              have f0 := hb2.free 0
              have f1 := hb2.free 1
              have f2 := hb2.free 2
              have HT4 := Lib.hid (HTr.out.trans ht4)
              clear hb2 ht4
              go_wp2
              exact bodyPost_ret (v := .tuple #[.agg #[.int .i64 0, .int .i64 0, .int .i64 0], .bool false]) (by simp [results, Tryd.results21, go_sem, c0, c1, c2]) rfl ⟨by rw [HRn.out]; rfl, HT4.out.setNew3 (Nat.le_refl _) _ _ _⟩
    
            | _ =>
              have hbad : ∀ x, Lib.atoiAll (ps.getD 0 []) ≠ .ok x := fun x e => by rw [hat] at e; cases e
              clear hat
              have HRn : Hid (rd s = none) := Lib.hid (rd_bad HW.out (k := 0) (by rw [HPL.out]; omega) hbad)
              go_wp2_with fail
              refine (atoi_bad _ (HPS.out 0 hkq) (by rw [mk_list]; exact hbad) _ hvr).mono ?_
              rintro e w4 ⟨v, N4, t4, rfl, ht4⟩
              have hb2 := HB2r.out.touch ht4 (by simp)
              have c0 := hb2.cell (i := 0) rfl
              have c1 := hb2.cell (i := 1) rfl
              have c2 := hb2.cell (i := 2) rfl
              have f0 := hb2.free 0
              have f1 := hb2.free 1
              have f2 := hb2.free 2
              have HT4 := Lib.hid (HTr.out.trans ht4)
              clear hb2 ht4
              go_wp2
              exact bodyPost_ret (v := .tuple #[.agg #[.int .i64 0, .int .i64 0, .int .i64 0], .bool false]) (by simp [results, Tryd.results21, go_sem, c0, c1, c2]) rfl ⟨by rw [HRn.out]; rfl, HT4.out.setNew3 (Nat.le_refl _) _ _ _⟩
          · have hkq : 1 < q := by omega
            have hc7 := HCr.out 1 hkq
            cases hat : Lib.atoiAll (ps.getD 1 []) with
            | ok v =>
              have hv : Lib.atoiAll (mk (ps.getD 1 [])).data.toList = .ok v := by rw [mk_list]; exact hat
              have HAT := Lib.hid hat
              clear hat
              go_wp2_with fail
              refine (atoi_ok _ (HPS.out 1 hkq) v hv _).mono ?_
              rintro e w4 ⟨rfl, ht4⟩
              have hb5' := HB5r.out.touch ht4 (by simp)
              have d0 := hb5'.cell (i := 2) rfl
              have g0 := hb5'.free 2
              have HB5n := Lib.hid (hb5'.set 2 (.int .i64 v))
              have HB2n := Lib.hid ((HB2r.out.touch ht4 (by simp)).other (a := ⟨w2.heap.size, 2, none⟩) (by show w.heap.size ≠ w2.heap.size; omega) (.int .i64 v))
              have HTn := Lib.hid ((HTr.out.trans ht4).setNew (p := ⟨w2.heap.size, 2, none⟩) (by show w.heap.size ≤ w2.heap.size; omega) (.int .i64 v))
              have HCn : Hid (∀ i, i < q → (w4.setCell ⟨w2.heap.size, 2, none⟩ (.int .i64 v)).cell? ⟨w.heap.size + 1, i + 1, none⟩ = some (.string (mk (ps.getD i [])))) := Lib.hid (fun i hi => cell_touch (S := [w2.heap.size]) (cell_touch (HCr.out i hi) ht4 (by simp)) ((Touch.refl _ _).setCell (by simp) _) (by simp; omega))
              have hsn : w2.heap.size < w4.heap.size := by have := ht4.size; omega
              clear hb5' ht4
              go_wp2
              go_roundw
              case rel =>
                refine ⟨2, by omega, by go_num, ?_, HB2n.out, HTn.out, by simpa [World.setCell] using hsn, HCn.out, fun i hi => ?_⟩
                · have := HB5n.out
                  rw [← av_ok HAT.out, show (#[.int .i64 op, .int .i64 (vA ps 1), .int .i64 (vB ps 1)] : Array Value).setIfInBounds 2 (.int .i64 (av (ps.getD 1 []))) = #[.int .i64 op, .int .i64 (vA ps 2), .int .i64 (vB ps 2)] from by rw [vA_1, vA_2, vB_2]; rfl] at this
                  rw [av_ok HAT.out] at this
                  exact this
                · rcases (by omega : i = 0 ∨ i = 1) with rfl | rfl
                  · exact HOK.out 0 (by omega)
                  · exact ⟨v, HAT.out⟩
              case measure => simp [intOf] <;> omega
            | range =>
              have hbad : ∀ x, Lib.atoiAll (ps.getD 1 []) ≠ .ok x := fun x e => by rw [hat] at e; cases e
              clear hat
              have HRn : Hid (rd s = none) := Lib.hid (rd_bad HW.out (k := 1) (by rw [HPL.out]; omega) hbad)
              go_wp2_with fail
              refine (atoi_bad _ (HPS.out 1 hkq) (by rw [mk_list]; exact hbad) _ hvr).mono ?_
              rintro e w4 ⟨v, N4, t4, rfl, ht4⟩
              have hb2 := HB2r.out.touch ht4 (by simp)
              have c0 := hb2.cell (i := 0) rfl
              have c1 := hb2.cell (i := 1) rfl
              have c2 := hb2.cell (i := 2) rfl
              have f0 := hb2.free 0
              have f1 := hb2.free 1
              have f2 := hb2.free 2
              have HT4 := Lib.hid (HTr.out.trans ht4)
              clear hb2 ht4
              go_wp2
              exact bodyPost_ret (v := .tuple #[.agg #[.int .i64 0, .int .i64 0, .int .i64 0], .bool false]) (by simp [results, Tryd.results21, go_sem, c0, c1, c2]) rfl ⟨by rw [HRn.out]; rfl, HT4.out.setNew3 (Nat.le_refl _) _ _ _⟩
    
            | _ =>
              have hbad : ∀ x, Lib.atoiAll (ps.getD 1 []) ≠ .ok x := fun x e => by rw [hat] at e; cases e
              clear hat
              have HRn : Hid (rd s = none) := Lib.hid (rd_bad HW.out (k := 1) (by rw [HPL.out]; omega) hbad)
              go_wp2_with fail
              refine (atoi_bad _ (HPS.out 1 hkq) (by rw [mk_list]; exact hbad) _ hvr).mono ?_
              rintro e w4 ⟨v, N4, t4, rfl, ht4⟩
              have hb2 := HB2r.out.touch ht4 (by simp)
              have c0 := hb2.cell (i := 0) rfl
              have c1 := hb2.cell (i := 1) rfl
              have c2 := hb2.cell (i := 2) rfl
              have f0 := hb2.free 0
              have f1 := hb2.free 1
              have f2 := hb2.free 2
              have HT4 := Lib.hid (HTr.out.trans ht4)
              clear hb2 ht4
              go_wp2
              exact bodyPost_ret (v := .tuple #[.agg #[.int .i64 0, .int .i64 0, .int .i64 0], .bool false]) (by simp [results, Tryd.results21, go_sem, c0, c1, c2]) rfl ⟨by rw [HRn.out]; rfl, HT4.out.setNew3 (Nat.le_refl _) _ _ _⟩
        · obtain rfl : k = q := by omega
          obtain ⟨x, hx⟩ : ∃ x, vA ps k = x := ⟨_, rfl⟩
          obtain ⟨y, hy⟩ : ∃ y, vB ps k = y := ⟨_, rfl⟩
          have hxi : InI x := by rw [← hx]; exact vA_in _ _
          have hyi : InI y := by rw [← hy]; exact vB_in _ _
          have hb5 := HB5r.out
          rw [hx, hy] at hb5
          have a0 := hb5.cell (i := 0) rfl
          have a1 := hb5.cell (i := 1) rfl
          have a2 := hb5.cell (i := 2) rfl
          have HXI := Lib.hid hxi
          have HYI := Lib.hid hyi
          have HX := Lib.hid hx
          have HY := Lib.hid hy
          have HB5x := Lib.hid hb5
          clear hx hy hb5 hxi hyi
          go_wp2_with fail
          refine (text_any op x y HXI.out HYI.out _ hvr).mono ?_
          rintro e w4 ⟨rfl, ht4⟩
          have hb2 := HB2r.out.touch ht4 (by simp)
          have hb5 := HB5x.out.touch ht4 (by simp)
          have a0 := hb5.cell (i := 0) rfl
          have a1 := hb5.cell (i := 1) rfl
          have a2 := hb5.cell (i := 2) rfl
          have c0 := hb2.cell (i := 0) rfl
          have c1 := hb2.cell (i := 1) rfl
          have c2 := hb2.cell (i := 2) rfl
          have f0 := hb2.free 0
          have f1 := hb2.free 1
          have f2 := hb2.free 2
          have HT4 := Lib.hid (HTr.out.trans ht4)
          clear hb2 hb5 ht4
          by_cases he : textZ op x y = s
          · have HRn : Hid (rd s = some (op, x, y)) := Lib.hid (by
              have := rd_same (s := s) (ps := ps) h1 hop1 (by rw [HQ.out, HPL.out]) (by rw [HPL.out, HX.out, HY.out]; exact he)
              rw [HPL.out, HX.out, HY.out] at this
              exact this)
            have hes := notF he
            clear he
            go_wp2
            exact bodyPost_ret (v := .tuple #[.agg #[.int .i64 op, .int .i64 x, .int .i64 y], .bool true]) (by simp [results, Tryd.results21, go_sem, c0, c1, c2]) rfl ⟨by rw [HRn.out]; rfl, HT4.out.setNew3 (Nat.le_refl _) _ _ _⟩
          · have HRn : Hid (rd s = none) := Lib.hid (rd_other HW.out HW0.out (by rw [HPL.out, HX.out, HY.out]; exact he))
            have hes := notT he
            clear he
            go_wp2
            exact bodyPost_ret (v := .tuple #[.agg #[.int .i64 0, .int .i64 0, .int .i64 0], .bool false]) (by simp [results, Tryd.results21, go_sem, c0, c1, c2]) rfl ⟨by rw [HRn.out]; rfl, HT4.out.setNew3 (Nat.le_refl _) _ _ _⟩
    · have hmq : ((m : Int) != 1 + (q : Int)) = true := bneT (by omega)
      have hb2 := HB2.out.alloc (.cells #[.int .i64 op, .int .i64 0, .int .i64 0] 29)
      have c0 := hb2.cell (i := 0) rfl
      have c1 := hb2.cell (i := 1) rfl
      have c2 := hb2.cell (i := 2) rfl
      have f0 := hb2.free 0
      have f1 := hb2.free 1
      have f2 := hb2.free 2
      have HR : Hid (rd s = none) := Lib.hid (rd_none1 HP.out HP0.out HOP.out (by rw [HM.out, HQ.out]; omega))
      clear hb2
      go_wp2
      exact bodyPost_ret (v := .tuple #[.agg #[.int .i64 0, .int .i64 0, .int .i64 0], .bool false]) (by simp [results, Tryd.results21, go_sem, c0, c1, c2]) rfl ⟨by rw [HR.out]; rfl, (HT2.out.alloc _).setNew3 (Nat.le_refl _) _ _ _⟩
end Go.Proofs.YtigbmhppknlinaaDoor
