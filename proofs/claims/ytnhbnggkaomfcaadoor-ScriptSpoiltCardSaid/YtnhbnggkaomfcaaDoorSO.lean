/-
  Jobs as texts: the reference's ReadScript.
-/
import Derived.Test.YtnhbnggkaomfcaaDoorSM
import Derived.Test.YtnhbnggkaomfcaaDoorSN
set_option linter.unusedVariables false
namespace Go.Proofs.YtnhbnggkaomfcaaDoor
open Go Go.RowKit

theorem lns_cur (l : List UInt8) (i : Nat) (hi : i ≤ l.length) : (l.drop (i - (lnsR (l.take i)).2.length)).take (i - (i - (lnsR (l.take i)).2.length)) = (lnsR (l.take i)).2 ∧ (lnsR (l.take i)).2.length ≤ i := by
  have h := lnsR_suffix (l.take i)
  rw [List.length_take, Nat.min_eq_left hi] at h
  refine ⟨?_, h.2⟩
  rw [← List.drop_take]
  exact h.1
theorem lns_next (l : List UInt8) (i : Nat) (hi : i < l.length) : lnsR (l.take (i + 1)) = if l[i] = 10 then ((lnsR (l.take i)).1 ++ [(lnsR (l.take i)).2], []) else ((lnsR (l.take i)).1, (lnsR (l.take i)).2 ++ [l[i]]) := by
  rw [List.take_succ_eq_append_getElem hi, lnsR_snoc]
theorem flat_len (l : List UInt8) : ∀ L : List (List UInt8), l ∈ L → l.length ≤ (L.flatMap fun x => x ++ [10]).length
  | [], h => by cases h
  | x :: L, h => by
    rw [List.flatMap_cons, List.length_append, List.length_append]
    rcases List.mem_cons.1 h with h | h
    · subst h; omega
    · have := flat_len l L h; omega
theorem lnsR_len (a l : List UInt8) (h : l ∈ (lnsR a).1) : l.length ≤ a.length := by
  have h1 := congrArg List.length (lnsR_glue a)
  rw [List.length_append] at h1
  have h2 := flat_len l _ h
  omega
theorem nums_one {r : Option (List Int)} {w w' : World} {e : Ending} (h : NumsP r w e w') : ∃ v ok, e = .returned (.tuple #[v, .bool ok]) ∧ Hid (Touch [] w w' ∧ ((ok = true ∧ ∃ l, r = some l ∧ Qu w' w.heap.size 3 v (l.map (Value.int .i64))) ∨ (ok = false ∧ r = none ∧ v = .slice none 0 0))) := by
  obtain ⟨h1, ⟨v, l, h2, h3, h4⟩ | ⟨h2, h3⟩⟩ := h
  · exact ⟨v, true, h3, Lib.hid ⟨h1, .inl ⟨rfl, l, h2, h4⟩⟩⟩
  · exact ⟨_, false, h3, Lib.hid ⟨h1, .inr ⟨rfl, h2, rfl⟩⟩⟩
set_option maxHeartbeats 8000000 in
set_option maxRecDepth 100000 in
theorem rscript_any (s : ByteArray) (w : World) (hs : s.size ≤ 50000) : Calls Tryd.prog 11 #[.string s] w (RdR s.data.toList w) := by
  have hsz : s.data.toList.length = s.size := by simp
  have HZ := Lib.hid hsz
  clear hsz
  have hb0 : Blk (w.alloc (.cells #[.bool false, .int .i64 0, .int .i64 0, .int .i64 0, .slice none 0 0, .slice none 0 0] 26)) w.heap.size zC 26 := Blk.new rfl
  have ht0 : Touch [] w (w.alloc (.cells #[.bool false, .int .i64 0, .int .i64 0, .int .i64 0, .slice none 0 0, .slice none 0 0] 26)) := (Touch.refl [] w).alloc _
  obtain ⟨b, hb⟩ : ∃ b, w.heap.size = b := ⟨_, rfl⟩
  have hz1 : (w.alloc (.cells #[.bool false, .int .i64 0, .int .i64 0, .int .i64 0, .slice none 0 0, .slice none 0 0] 26)).heap.size = b + 1 := by simp [hb]
  obtain ⟨W1, hW1⟩ : ∃ x, w.alloc (.cells #[.bool false, .int .i64 0, .int .i64 0, .int .i64 0, .slice none 0 0, .slice none 0 0] 26) = x := ⟨_, rfl⟩
  rw [hW1] at hb0 ht0 hz1
  rw [hb] at hb0
  have HB0 := Lib.hid hb0
  have HT0 := Lib.hid ht0
  have HBE := Lib.hid hb
  have HZ1 := Lib.hid hz1
  have HW1 := Lib.hid hW1
  clear hb0 ht0 hz1 hW1
  go_enter Tryd.func11, Tryd.ntmps11
  go_wp2_with fail
  clear hb
  rw [HW1.out]
  go_loopw [5, 6, 7] (fun ov fv iv wr => ∃ i : Nat, i ≤ s.size ∧ iv = .int .i64 (i : Int) ∧ fv = .int .i64 ((i - (lnsR (s.data.toList.take i)).2.length : Nat) : Int) ∧ Ws wr W1.heap.size ov ((lnsR (s.data.toList.take i)).1.map mk) ∧ Touch [] W1 wr) (fun _ _ iv _ => s.size + 1 - (intOf iv).toNat)
  case atStart =>
    refine ⟨0, Nat.zero_le _, rfl, rfl, ?_, (Touch.refl _ _).alloc _⟩
    have := Ws.empty W1
    first | exact this | (rw [HZ1.out] at this ⊢; exact this)
  case round =>
    obtain ⟨i, hi, rfl, rfl, ha, ht⟩ := hrel
    obtain ⟨va, vc, hv⟩ := ha.form
    subst hv
    have HA := Lib.hid ha
    have HT := Lib.hid ht
    obtain ⟨hcur, hcl⟩ := lns_cur s.data.toList i (by rw [HZ.out]; exact hi)
    obtain ⟨D, hD⟩ : ∃ D, lnsR (s.data.toList.take i) = D := ⟨_, rfl⟩
    rw [hD] at hcur hcl HA ⊢
    obtain ⟨L, cur⟩ := D
    dsimp only at hcur hcl HA ⊢
    obtain ⟨f, hf⟩ : ∃ f, i - cur.length = f := ⟨_, rfl⟩
    rw [hf] at hcur ⊢
    have hfi : f ≤ i := by omega
    by_cases hlt : i < s.size
    · have hiL : i < s.data.toList.length := by rw [HZ.out]; exact hlt
      have hnx := lns_next s.data.toList i hiL
      rw [hD] at hnx
      have hLl : L.length ≤ i := by
        have := lnsR_count (s.data.toList.take i)
        rw [hD, List.length_take] at this
        dsimp only at this
        omega
      obtain ⟨v', w2, hr, hA2, hT2, a2, c2, hv2⟩ := str_born W1 wr (.slice va (L.map mk).length vc) (L.map mk) (s.extract f i) HA.out HT.out (by simp; omega)
      subst hv2
      rw [ex_mk s f i hfi (by omega), hcur] at hA2
      have HR := Lib.hid hr
      have HA2 := Lib.hid hA2
      have HT2 := Lib.hid hT2
      have HNX := Lib.hid hnx
      obtain ⟨n, hn⟩ : ∃ n, (L.map mk).length = n := ⟨_, rfl⟩
      rw [hn] at HR HA2 HA ⊢
      have HN := Lib.hid hn
      clear ha ht hr hA2 hT2 hnx hn hD hcur
      by_cases hb : s.data.toList[i] = 10
      · have hb' : ((s[i].toNat : Int) == 10) = true := by
          have e : s[i] = 10 := hb
          rw [e]; rfl
        have HBB : Hid (lnsR (s.data.toList.take (i + 1)) = (L ++ [cur], [])) := Lib.hid (by rw [HNX.out, if_pos hb])
        clear hb
        have hf0 : (0 : Int) ≤ (f : Int) := by omega
        have hfi2 : (f : Int) ≤ (i : Int) := by omega
        have hil : (i : Int) ≤ (s.size : Int) := by omega
        have hi0 : (0 : Int) ≤ (i : Int) := by omega
        go_wp2_with (at_builtin; refine Lib.wpList_append_run _ rfl _ _ _ _ rfl _ _ rfl rfl _ _ (HR.out _) ?_)
        clear HR
        go_wp2
        go_roundw
        case rel =>
          refine ⟨i + 1, hlt, by go_num, by rw [HBB.out]; go_num, ?_, HT2.out⟩
          rw [HBB.out]
          have := HA2.out
          simpa using this
        case measure => simp [intOf]; omega
      · have hb' : ((s[i].toNat : Int) == 10) = false := by
          refine beqF fun e => hb ?_
          have e2 : s[i].toNat = 10 := by omega
          exact UInt8.toNat_inj.1 (e2.trans (by decide))
        have HBB : Hid (lnsR (s.data.toList.take (i + 1)) = (L, cur ++ [s.data.toList[i]])) := Lib.hid (by rw [HNX.out, if_neg hb])
        clear hb HR
        go_wp2
        go_roundw
        case rel =>
          refine ⟨i + 1, hlt, by go_num, ?_, ?_, HT.out⟩
          · rw [HBB.out]
            show Value.int .i64 (f : Int) = _
            congr 2
            simp
            omega
          · rw [HBB.out]
            exact HA.out
        case measure => simp [intOf]; omega
    · obtain rfl : i = s.size := by omega
      have hall : s.data.toList.take s.size = s.data.toList := by rw [← HZ.out, List.take_length]
      rw [hall] at hD
      have HD := Lib.hid hD
      have hfr : (decide (f < s.size)) = decide (cur ≠ []) := by
        rw [Bool.eq_iff_iff, decide_eq_true_iff, decide_eq_true_iff]
        constructor
        · intro h e; subst e; simp at hf; omega
        · intro h; have := List.length_pos_iff.2 h; omega
      have HFR := Lib.hid hfr
      obtain ⟨n, hn⟩ : ∃ n, L.length = n := ⟨_, rfl⟩
      have HN := Lib.hid hn
      have hn5 : n ≤ 50000 := by
        have := lnsR_count s.data.toList
        rw [hD, HZ.out] at this
        dsimp only at this
        omega
      have HW : Hid (Ws wr W1.heap.size (.slice va n vc) (L.map mk)) := Lib.hid (by have := HA.out; rw [List.length_map, hn] at this; exact this)
      simp only [List.length_map, hn]
      clear ha ht hcur hcl hf hall hD hfr hn hlt hi HA
      have q1 : Blk (wr.alloc (.cells #[.bool false, .int .i64 0, .int .i64 0, .int .i64 0, .slice none 0 0, .slice none 0 0] 26)) wr.heap.size zC 26 := Blk.new rfl
      have q2 : Touch [] wr (wr.alloc (.cells #[.bool false, .int .i64 0, .int .i64 0, .int .i64 0, .slice none 0 0, .slice none 0 0] 26)) := (Touch.refl [] wr).alloc _
      have q3 : Blk ((wr.alloc (.cells #[.bool false, .int .i64 0, .int .i64 0, .int .i64 0, .slice none 0 0, .slice none 0 0] 26)).alloc (.cells #[.string ⟨#[]⟩, .string ⟨#[108, 105, 109, 105, 116, 115]⟩, .string ⟨#[105, 110, 112, 117, 116]⟩, .string ⟨#[112, 105, 99, 107, 115]⟩] 54)) (wr.heap.size + 1) #[.string ⟨#[]⟩, .string ⟨#[108, 105, 109, 105, 116, 115]⟩, .string ⟨#[105, 110, 112, 117, 116]⟩, .string ⟨#[112, 105, 99, 107, 115]⟩] 54 := Blk.new (by simp)
      have q4 : Touch [] (wr.alloc (.cells #[.bool false, .int .i64 0, .int .i64 0, .int .i64 0, .slice none 0 0, .slice none 0 0] 26)) ((wr.alloc (.cells #[.bool false, .int .i64 0, .int .i64 0, .int .i64 0, .slice none 0 0, .slice none 0 0] 26)).alloc (.cells #[.string ⟨#[]⟩, .string ⟨#[108, 105, 109, 105, 116, 115]⟩, .string ⟨#[105, 110, 112, 117, 116]⟩, .string ⟨#[112, 105, 99, 107, 115]⟩] 54)) := (Touch.refl [] _).alloc _
      obtain ⟨w3, hw3⟩ : ∃ x, (wr.alloc (.cells #[.bool false, .int .i64 0, .int .i64 0, .int .i64 0, .slice none 0 0, .slice none 0 0] 26)).alloc (.cells #[.string ⟨#[]⟩, .string ⟨#[108, 105, 109, 105, 116, 115]⟩, .string ⟨#[105, 110, 112, 117, 116]⟩, .string ⟨#[112, 105, 99, 107, 115]⟩] 54) = x := ⟨_, rfl⟩
      have HW3 := Lib.hid hw3
      rw [hw3] at q3 q4
      have hz3 : w3.heap.size = wr.heap.size + 2 := by rw [← hw3]; simp
      obtain ⟨Z, hZ⟩ : ∃ z, wr.heap.size = z := ⟨_, rfl⟩
      have HZZ := Lib.hid hZ
      rw [hZ] at q1 q3 hz3
      have hbz : b + 1 ≤ Z := by have h1 := HT.out.size; have h2 := HZ1.out; omega
      have HJ3 : Hid (JB w3 Z (Z + 2) (jobAt L 0)) := Lib.hid ⟨_, _, q1.touch q4 (by simp), Qu.nil _ _ _, Qu.nil _ _ _⟩
      have HK3 := Lib.hid q3
      have HT3 : Hid (Touch [] W1 w3) := Lib.hid ((HT.out.trans q2).trans q4)
      have HZ3 := Lib.hid hz3
      have HR3 : Hid (Touch [] wr w3) := Lib.hid (q2.trans q4)
      clear q1 q2 q3 q4 hw3 hz3
      go_wp2_with fail
      rw [HW3.out]
      clear hZ
      obtain ⟨wl, rfl⟩ : ∃ x, x = wr := ⟨_, rfl⟩
      go_loopw [10] (fun iv wq => ∃ i : Nat, i ≤ 4 ∧ iv = .int .i64 (i : Int) ∧ OkTo L i ∧ JB wq Z (Z + 2) (jobAt L i) ∧ Blk wq (Z + 1) #[.string ⟨#[]⟩, .string ⟨#[108, 105, 109, 105, 116, 115]⟩, .string ⟨#[105, 110, 112, 117, 116]⟩, .string ⟨#[112, 105, 99, 107, 115]⟩] 54 ∧ Touch [Z] w3 wq) (fun iv _ => 5 - (intOf iv).toNat)
      case atStart => exact ⟨0, by omega, rfl, OkTo.zero L, HJ3.out, HK3.out, Touch.refl _ _⟩
      case round =>
        obtain ⟨wq, rfl⟩ : ∃ x, x = wr := ⟨_, rfl⟩
        obtain ⟨i, hi, rfl, hok, hj, hk, ht⟩ := hrel
        clear HJ3 HK3
        have HOK := Lib.hid hok
        have HJ := Lib.hid hj
        have HK := Lib.hid hk
        have HTq := Lib.hid ht
        have HB1 := Lib.hid ((HB0.out.touch HT3.out (by simp)).touch ht (by simp; omega))
        have HTT : Hid (Touch [] w wq) := Lib.hid ((HT0.out.trans HT3.out).transF ht (fun k hk hlt => by have h9 := HBE.out; have h8 := HZ1.out; have h7 := HT0.out.size; have h6 := List.mem_singleton.1 hk; omega))
        clear hok hj hk ht
        by_cases h4 : i < 4
        · have hd4 : decide ((i : Int) < 4) = true := dT (by omega)
          by_cases hni : n ≤ i
          · have HRD : Hid (RdS (lnsR s.data.toList).1 (lnsR s.data.toList).2 zeroJ (i + 1) 6) := Lib.hid (by rw [HD.out]; exact .inl ⟨i, h4, HOK.out, .inl (by have := HOK.out.1; have := HN.out; show L.length = i; omega), rfl, rfl, rfl⟩)
            have hdn : decide (i < n) = false := dF (by omega)
            have hdm : decide ((i : Int) < (n : Int)) = false := dF (by omega)
            have v0 := HB1.out
            have y0 : wq.cell? ⟨b, 0, none⟩ = some (.bool false) := v0.cell rfl
            have z0 := v0.free 0
            have y1 : wq.cell? ⟨b, 1, none⟩ = some (.int .i64 0) := v0.cell rfl
            have z1 := v0.free 1
            have y2 : wq.cell? ⟨b, 2, none⟩ = some (.int .i64 0) := v0.cell rfl
            have z2 := v0.free 2
            have y3 : wq.cell? ⟨b, 3, none⟩ = some (.int .i64 0) := v0.cell rfl
            have z3 := v0.free 3
            have y4 : wq.cell? ⟨b, 4, none⟩ = some (.slice none 0 0) := v0.cell rfl
            have z4 := v0.free 4
            have y5 : wq.cell? ⟨b, 5, none⟩ = some (.slice none 0 0) := v0.cell rfl
            have z5 := v0.free 5
            go_wp2_with fail
            have hF : Blk ((((((wq.setCell ⟨b, 0, none⟩ (.bool false)).setCell ⟨b, 1, none⟩ (.int .i64 0)).setCell ⟨b, 2, none⟩ (.int .i64 0)).setCell ⟨b, 3, none⟩ (.int .i64 0)).setCell ⟨b, 4, none⟩ (.slice none 0 0)).setCell ⟨b, 5, none⟩ (.slice none 0 0)) b zC 26 := ((((((v0.set 0 (.bool false)).set 1 (.int .i64 0)).set 2 (.int .i64 0)).set 3 (.int .i64 0)).set 4 (.slice none 0 0)).set 5 (.slice none 0 0))
            have tF : Touch [b] wq ((((((wq.setCell ⟨b, 0, none⟩ (.bool false)).setCell ⟨b, 1, none⟩ (.int .i64 0)).setCell ⟨b, 2, none⟩ (.int .i64 0)).setCell ⟨b, 3, none⟩ (.int .i64 0)).setCell ⟨b, 4, none⟩ (.slice none 0 0)).setCell ⟨b, 5, none⟩ (.slice none 0 0)) := (((((((Touch.refl [b] wq).setCell (by simp) (.bool false)).setCell (by simp) (.int .i64 0)).setCell (by simp) (.int .i64 0)).setCell (by simp) (.int .i64 0)).setCell (by simp) (.slice none 0 0)).setCell (by simp) (.slice none 0 0))
            obtain ⟨V, hV⟩ : ∃ V, ((((((wq.setCell ⟨b, 0, none⟩ (.bool false)).setCell ⟨b, 1, none⟩ (.int .i64 0)).setCell ⟨b, 2, none⟩ (.int .i64 0)).setCell ⟨b, 3, none⟩ (.int .i64 0)).setCell ⟨b, 4, none⟩ (.slice none 0 0)).setCell ⟨b, 5, none⟩ (.slice none 0 0)) = V := ⟨_, rfl⟩
            rw [hV] at hF tF ⊢
            have HTF : Hid (Touch [] w V) := Lib.hid ((HTT.out).transF tF (fun k hk hlt => by have h9 := HBE.out; have h6 := List.mem_singleton.1 hk; omega))
            have e0 : V.cell? ⟨b, 0, none⟩ = some (.bool false) := hF.cell rfl
            have e1 : V.cell? ⟨b, 1, none⟩ = some (.int .i64 0) := hF.cell rfl
            have e2 : V.cell? ⟨b, 2, none⟩ = some (.int .i64 0) := hF.cell rfl
            have e3 : V.cell? ⟨b, 3, none⟩ = some (.int .i64 0) := hF.cell rfl
            have e4 : V.cell? ⟨b, 4, none⟩ = some (.slice none 0 0) := hF.cell rfl
            have e5 : V.cell? ⟨b, 5, none⟩ = some (.slice none 0 0) := hF.cell rfl
            clear hV hF tF v0 y0 z0 y1 z1 y2 z2 y3 z3 y4 z4 y5 z5
            (try simp only [Exit.inBlock, Exit.then]); refine bodyPost_ret (by simp [results, Tryd.results11, go_sem, e0, e1, e2, e3, e4, e5]; try rfl) rfl ?_
            exact ⟨_, zeroJ, i + 1, 6, rfl, ⟨_, _, rfl, slnil _, slnil _⟩, HRD.out, HTF.out⟩
          · have hin : i < n := by omega
            have hdn : decide (i < n) = true := dT hin
            have hdm : decide ((i : Int) < (n : Int)) = true := dT (by omega)
            have hnd : decide (n ≤ i) = false := dF (by omega)
            have hml : (L.map mk).length = n := by rw [List.length_map]; exact HN.out
            obtain ⟨g, hga, hlc, hcell⟩ := HW.out.at (i := i) (by rw [hml]; exact hin)
            subst hga
            have hwq : Touch [] wl wq := (HR3.out).transF HTq.out (fun k hk hlt => by have h6 := List.mem_singleton.1 hk; have h7 := HZZ.out; omega)
            have y0 := hcell _ hwq
            have hgl : (L.map mk).getD i ByteArray.empty = mk (L.getD i []) := by
              have hl : i < L.length := by have := HN.out; omega
              simp [List.getD, hl]
            rw [hgl] at y0
            obtain ⟨l, hl⟩ : ∃ l, L.getD i [] = l := ⟨_, rfl⟩
            rw [hl] at y0
            rw [hml] at hlc
            rcases (by omega : i = 0 ∨ i = 1 ∨ i = 2 ∨ i = 3) with e | e | e | e
            · subst e
              obtain ⟨vi, vp, q0, q1, q2⟩ := HJ.out
              have x0 : wq.cell? ⟨Z, 0, none⟩ = some (.bool false) := q0.cell rfl
              have x0f := q0.free 0
              have tt : ∀ v, Touch [Z] wq (wq.setCell ⟨Z, 0, none⟩ v) := fun v => (Touch.refl [Z] wq).setCell (by simp) v
              have x2 : ∀ v, (wq.setCell ⟨Z, 0, none⟩ v).cell? ⟨g, 0, none⟩ = some (.string (mk l)) := fun v => by
                rw [hcell _ (hwq.transF (tt v) (fun k hk hlt => by have h6 := List.mem_singleton.1 hk; have h7 := HZZ.out; omega)), hgl, hl]
              obtain ⟨cl, hcl⟩ : ∃ c : Bool, decide (l = wCl) = c := ⟨_, rfl⟩
              have HJ1 : Hid (JB (wq.setCell ⟨Z, 0, none⟩ (.bool cl)) Z (Z + 2) (jobAt L 1)) := Lib.hid (by
                refine ⟨vi, vp, ?_, q1.touch (tt _) (fun k hk => by have := (q1.own k hk).1; simp; omega), q2.touch (tt _) (fun k hk => by have := (q2.own k hk).1; simp; omega)⟩
                have := q0.set 0 (.bool cl)
                show Blk _ Z (jC { jobAt L 0 with cl := decide (L.getD 0 [] = wCl) } _ _) _
                rw [hl, hcl]
                exact this)
              have HK1 : Hid (Blk (wq.setCell ⟨Z, 0, none⟩ (.bool cl)) (Z + 1) #[.string ⟨#[]⟩, .string ⟨#[108, 105, 109, 105, 116, 115]⟩, .string ⟨#[105, 110, 112, 117, 116]⟩, .string ⟨#[112, 105, 99, 107, 115]⟩] 54) := Lib.hid (HK.out.touch (tt _) (by simp))
              have HT1 : Hid (Touch [Z] w3 (wq.setCell ⟨Z, 0, none⟩ (.bool cl))) := Lib.hid (HTq.out.trans (tt _))
              have HB2 : Hid (Blk (wq.setCell ⟨Z, 0, none⟩ (.bool cl)) b zC 26) := Lib.hid (HB1.out.touch (tt _) (by simp; omega))
              have HTT2 : Hid (Touch [] w (wq.setCell ⟨Z, 0, none⟩ (.bool cl))) := Lib.hid (HTT.out.transF (tt _) (fun k hk hlt => by have h6 := List.mem_singleton.1 hk; have h7 := HBE.out; omega))
              have hlL : 0 < L.length := by have := HN.out; omega
              have HOS : Hid (okL 0 l → OkTo L 1) := Lib.hid (fun h => HOK.out.succ hlL (by rw [hl]; exact h))
              have HRD : Hid (¬ okL 0 l → RdS (lnsR s.data.toList).1 (lnsR s.data.toList).2 zeroJ (0 + 1) 6) := Lib.hid (fun h => by rw [HD.out]; exact .inl ⟨0, by omega, HOK.out, .inr ⟨hlL, by show ¬ okL 0 (L.getD 0 []); rw [hl]; exact h⟩, rfl, rfl, rfl⟩)
              have x3 := x2 (.bool cl)
              clear x2
              clear q0 q1 q2 tt hlL hcell hwq hgl hlc
              by_cases h1 : l = wCl
              · have ec : cl = true := by rw [← hcl]; exact decide_eq_true h1
                subst ec
                have em : mk l = ⟨#[99, 108, 97, 105, 109, 101, 100]⟩ := by rw [h1]; rfl
                rw [em] at y0 x3
                have HO1 := Lib.hid (HOS.out (.inl h1))
                clear hcl h1 em HOS HRD
                go_wp2_with fail
                go_roundw
                case rel => exact ⟨1, by omega, by go_num, HO1.out, HJ1.out, HK1.out, HT1.out⟩
                case measure => simp [intOf]
              · have ec : cl = false := by rw [← hcl]; exact decide_eq_false h1
                subst ec
                by_cases h2 : l = wUn
                · have em : mk l = ⟨#[117, 110, 99, 108, 97, 105, 109, 101, 100]⟩ := by rw [h2]; rfl
                  rw [em] at y0 x3
                  have HO1 := Lib.hid (HOS.out (.inr h2))
                  clear hcl h1 h2 em HOS HRD
                  go_wp2_with fail
                  go_roundw
                  case rel => exact ⟨1, by omega, by go_num, HO1.out, HJ1.out, HK1.out, HT1.out⟩
                  case measure => simp [intOf]
                · have n1 := mk_ne h1
                  have n2 := mk_ne h2
                  have HRD := Lib.hid (HRD.out (fun h => h.elim h1 h2))
                  obtain ⟨T, hT⟩ : ∃ T, mk l = T := ⟨_, rfl⟩
                  rw [hT] at n1 n2 y0 x3
                  unfold wCl at n1
                  unfold wUn at n2
                  clear hcl h1 h2 hT HOS
                  have v0 := HB2.out
                  have y0 : (wq.setCell ⟨Z, 0, none⟩ (.bool false)).cell? ⟨b, 0, none⟩ = some (.bool false) := v0.cell rfl
                  have z0 := v0.free 0
                  have y1 : (wq.setCell ⟨Z, 0, none⟩ (.bool false)).cell? ⟨b, 1, none⟩ = some (.int .i64 0) := v0.cell rfl
                  have z1 := v0.free 1
                  have y2 : (wq.setCell ⟨Z, 0, none⟩ (.bool false)).cell? ⟨b, 2, none⟩ = some (.int .i64 0) := v0.cell rfl
                  have z2 := v0.free 2
                  have y3 : (wq.setCell ⟨Z, 0, none⟩ (.bool false)).cell? ⟨b, 3, none⟩ = some (.int .i64 0) := v0.cell rfl
                  have z3 := v0.free 3
                  have y4 : (wq.setCell ⟨Z, 0, none⟩ (.bool false)).cell? ⟨b, 4, none⟩ = some (.slice none 0 0) := v0.cell rfl
                  have z4 := v0.free 4
                  have y5 : (wq.setCell ⟨Z, 0, none⟩ (.bool false)).cell? ⟨b, 5, none⟩ = some (.slice none 0 0) := v0.cell rfl
                  have z5 := v0.free 5
                  go_wp2_with fail
                  have hF : Blk (((((((wq.setCell ⟨Z, 0, none⟩ (.bool false)).setCell ⟨b, 0, none⟩ (.bool false)).setCell ⟨b, 1, none⟩ (.int .i64 0)).setCell ⟨b, 2, none⟩ (.int .i64 0)).setCell ⟨b, 3, none⟩ (.int .i64 0)).setCell ⟨b, 4, none⟩ (.slice none 0 0)).setCell ⟨b, 5, none⟩ (.slice none 0 0)) b zC 26 := ((((((v0.set 0 (.bool false)).set 1 (.int .i64 0)).set 2 (.int .i64 0)).set 3 (.int .i64 0)).set 4 (.slice none 0 0)).set 5 (.slice none 0 0))
                  have tF : Touch [b] (wq.setCell ⟨Z, 0, none⟩ (.bool false)) (((((((wq.setCell ⟨Z, 0, none⟩ (.bool false)).setCell ⟨b, 0, none⟩ (.bool false)).setCell ⟨b, 1, none⟩ (.int .i64 0)).setCell ⟨b, 2, none⟩ (.int .i64 0)).setCell ⟨b, 3, none⟩ (.int .i64 0)).setCell ⟨b, 4, none⟩ (.slice none 0 0)).setCell ⟨b, 5, none⟩ (.slice none 0 0)) := (((((((Touch.refl [b] (wq.setCell ⟨Z, 0, none⟩ (.bool false))).setCell (by simp) (.bool false)).setCell (by simp) (.int .i64 0)).setCell (by simp) (.int .i64 0)).setCell (by simp) (.int .i64 0)).setCell (by simp) (.slice none 0 0)).setCell (by simp) (.slice none 0 0))
                  obtain ⟨V, hV⟩ : ∃ V, (((((((wq.setCell ⟨Z, 0, none⟩ (.bool false)).setCell ⟨b, 0, none⟩ (.bool false)).setCell ⟨b, 1, none⟩ (.int .i64 0)).setCell ⟨b, 2, none⟩ (.int .i64 0)).setCell ⟨b, 3, none⟩ (.int .i64 0)).setCell ⟨b, 4, none⟩ (.slice none 0 0)).setCell ⟨b, 5, none⟩ (.slice none 0 0)) = V := ⟨_, rfl⟩
                  rw [hV] at hF tF ⊢
                  have HTF : Hid (Touch [] w V) := Lib.hid ((HTT2.out).transF tF (fun k hk hlt => by have h9 := HBE.out; have h6 := List.mem_singleton.1 hk; omega))
                  have e0 : V.cell? ⟨b, 0, none⟩ = some (.bool false) := hF.cell rfl
                  have e1 : V.cell? ⟨b, 1, none⟩ = some (.int .i64 0) := hF.cell rfl
                  have e2 : V.cell? ⟨b, 2, none⟩ = some (.int .i64 0) := hF.cell rfl
                  have e3 : V.cell? ⟨b, 3, none⟩ = some (.int .i64 0) := hF.cell rfl
                  have e4 : V.cell? ⟨b, 4, none⟩ = some (.slice none 0 0) := hF.cell rfl
                  have e5 : V.cell? ⟨b, 5, none⟩ = some (.slice none 0 0) := hF.cell rfl
                  clear hV hF tF v0 y0 z0 y1 z1 y2 z2 y3 z3 y4 z4 y5 z5
                  (try simp only [Exit.inBlock, Exit.then]); refine bodyPost_ret (by simp [results, Tryd.results11, go_sem, e0, e1, e2, e3, e4, e5]; try rfl) rfl ?_
                  exact ⟨_, zeroJ, 0 + 1, 6, rfl, ⟨_, _, rfl, slnil _, slnil _⟩, HRD.out, HTF.out⟩
            · subst e
              have HL := Lib.hid hl
              have hlL : 1 < L.length := by have := HN.out; omega
              have hmk : (mk l).size ≤ 50000 := by
                rw [mk_size]
                have h2 : l ∈ (lnsR s.data.toList).1 := by
                  rw [HD.out, ← hl]
                  show L.getD 1 [] ∈ L
                  rw [List.getD, List.getElem?_eq_getElem hlL]
                  exact List.getElem_mem hlL
                have h3 := lnsR_len _ _ h2
                have h4 := HZ.out
                omega
              have HR := Lib.hid (fun wx => rrow_any (mk l) ⟨#[108, 105, 109, 105, 116, 115]⟩ wx hmk)
              have hrl : lineN (⟨#[108, 105, 109, 105, 116, 115]⟩ : ByteArray).data.toList (mk l).data.toList = lineN wLim l := by rw [mk_list]; rfl
              rw [hrl] at HR
              have HOS : Hid (okL 1 l → OkTo L 2) := Lib.hid (fun h => HOK.out.succ hlL (by rw [hl]; exact h))
              have HRD : Hid (¬ okL 1 l → RdS (lnsR s.data.toList).1 (lnsR s.data.toList).2 zeroJ (1 + 1) 6) := Lib.hid (fun h => by rw [HD.out]; exact .inl ⟨1, by omega, HOK.out, .inr ⟨hlL, by show ¬ okL 1 (L.getD 1 []); rw [hl]; exact h⟩, rfl, rfl, rfl⟩)
              have HJA : Hid (jobAt L 2 = putL 1 l (jobAt L 1)) := Lib.hid (by show putL 1 (L.getD 1 []) (jobAt L 1) = _; rw [hl])
              have k1 : wq.cell? ⟨Z + 1, 1, none⟩ = some (.string ⟨#[108, 105, 109, 105, 116, 115]⟩) := HK.out.cell rfl
              clear hcell hwq hgl hl hmk hlL hrl
              go_wp2
              go_region_with (go_at_call 19; refine (HR.out _).mono ?_; rintro e w5 hnp; obtain ⟨v, ok, rfl, HNP⟩ := nums_one hnp; clear hnp)
              all_goals (
                have HT5 : Hid (Touch [] wq w5) := Lib.hid (by first | with_reducible exact HNP.out.1 | exact ((Touch.refl [] wq).drew).trans HNP.out.1)
                obtain ⟨vi, vp, q0, q1, q2⟩ := HJ.out
                have HP0 := Lib.hid (q0.touch HT5.out (by simp))
                have HP1 := Lib.hid (q1.touch HT5.out (fun k hk => by simp))
                have HP2 := Lib.hid (q2.touch HT5.out (fun k hk => by simp))
                have HKN := Lib.hid (HK.out.touch HT5.out (by simp))
                have HBN := Lib.hid (HB1.out.touch HT5.out (by simp))
                have HTN := Lib.hid (HTT.out.trans HT5.out)
                have HSZ5 := Lib.hid HT5.out.size
                obtain ⟨ai, ci, ei, _⟩ := Qu.shape q1
                obtain ⟨ap, cp, ep, _⟩ := Qu.shape q2
                rw [List.length_map] at ei ep
                subst ei ep
                have HSQ := Lib.hid HTq.out.size
                have HS3 := Lib.hid HZ3.out
                clear q0 q1 q2
                rcases HNP.out.2 with ⟨rfl, m, hm, hq⟩ | ⟨rfl, hm, rfl⟩
                · obtain ⟨av, cv, ev, _⟩ := Qu.shape hq
                  rw [List.length_map] at ev
                  subst ev
                  have HQ := Lib.hid hq
                  have HM := Lib.hid hm
                  clear hq hm
                  by_cases h3 : m.length = 3
                  · obtain ⟨x1, x2, x3, rfl⟩ := three h3
                    obtain ⟨a2, c2, e2, hs2⟩ := Qu.sl HQ.out
                    cases e2
                    obtain ⟨g2, off, rfl, hg2, hr⟩ : ∃ g off, av = some ⟨g, off, none⟩ ∧ g < w5.heap.size ∧ Row w5 g off [x1, x2, x3] := by
                      rcases hs2 with h | h
                      · cases h
                      · exact h
                    have hgB : Z + 2 ≤ g2 := Nat.le_trans (by have h0 : wq.drew.heap.size = wq.heap.size := rfl; have h1 := HSQ.out; have h2 := HS3.out; omega) (HQ.out.own g2 rfl).1
                    have c0 := hr 0 (by simp)
                    have c1 := hr 1 (by simp)
                    have c2_ := hr 2 (by simp)
                    simp only [List.getElem_cons_zero, List.getElem_cons_succ, Nat.add_zero] at c0 c1 c2_
                    have x1c := HP0.out.cell (i := 1) rfl
                    have x2c := HP0.out.cell (i := 2) rfl
                    have x3c := HP0.out.cell (i := 3) rfl
                    have f1 := HP0.out.free 1
                    have f2 := HP0.out.free 2
                    have f3 := HP0.out.free 3
                    have HO1 := Lib.hid (HOS.out ⟨x1, x2, x3, HM.out⟩)
                    have HJE : Hid (jobAt L 2 = { jobAt L 1 with a := x1, b := x2, c := x3 }) := Lib.hid (by rw [HJA.out]; unfold putL; (try dsimp only); rw [HM.out]; rfl)
                    clear h3 hs2 hr
                    go_wp2_with fail
                    go_region
                    go_wp2_with fail
                    have tt : Touch [Z] w5 (World.drew (((w5.setCell ⟨Z, 1, none⟩ (.int .i64 x1)).setCell ⟨Z, 2, none⟩ (.int .i64 x2)).setCell ⟨Z, 3, none⟩ (.int .i64 x3))) := ((((Touch.refl [Z] w5).setCell (by simp) _).setCell (by simp) _).setCell (by simp) _).drew
                    have HJ2 : Hid (JB (World.drew (((w5.setCell ⟨Z, 1, none⟩ (.int .i64 x1)).setCell ⟨Z, 2, none⟩ (.int .i64 x2)).setCell ⟨Z, 3, none⟩ (.int .i64 x3))) Z (Z + 2) (jobAt L 2)) := Lib.hid (by
                      rw [HJE.out]
                      exact ⟨_, _, (((HP0.out.set 1 (.int .i64 x1)).set 2 (.int .i64 x2)).set 3 (.int .i64 x3)).drew, HP1.out.touch tt (fun k hk => by have := (HP1.out.own k hk).1; simp; omega), HP2.out.touch tt (fun k hk => by have := (HP2.out.own k hk).1; simp; omega)⟩)
                    have HK2 := Lib.hid (HKN.out.touch tt (by simp))
                    have HT2 := Lib.hid ((HTq.out.trans (HT5.out.mono (by simp))).trans tt)
                    go_roundw
                    case rel => exact ⟨2, by omega, by go_num, HO1.out, HJ2.out, HK2.out, HT2.out⟩
                    case measure => simp [intOf]
                  · have h3a : ((m.length : Int) == 3) = false := by simp; omega
                    have h3b : ((m.length : Int) != 3) = true := by simp; omega
                    have HRX := Lib.hid (HRD.out (fun ⟨x1, x2, x3, h⟩ => by rw [HM.out] at h; cases h; exact h3 rfl))
                    clear h3
                    have v0 := HBN.out
                    have y0 : w5.cell? ⟨b, 0, none⟩ = some (.bool false) := v0.cell rfl
                    have z0 := v0.free 0
                    have y1 : w5.cell? ⟨b, 1, none⟩ = some (.int .i64 0) := v0.cell rfl
                    have z1 := v0.free 1
                    have y2 : w5.cell? ⟨b, 2, none⟩ = some (.int .i64 0) := v0.cell rfl
                    have z2 := v0.free 2
                    have y3 : w5.cell? ⟨b, 3, none⟩ = some (.int .i64 0) := v0.cell rfl
                    have z3 := v0.free 3
                    have y4 : w5.cell? ⟨b, 4, none⟩ = some (.slice none 0 0) := v0.cell rfl
                    have z4 := v0.free 4
                    have y5 : w5.cell? ⟨b, 5, none⟩ = some (.slice none 0 0) := v0.cell rfl
                    have z5 := v0.free 5
                    go_wp2_with fail
                    have hF : Blk ((((((w5.setCell ⟨b, 0, none⟩ (.bool false)).setCell ⟨b, 1, none⟩ (.int .i64 0)).setCell ⟨b, 2, none⟩ (.int .i64 0)).setCell ⟨b, 3, none⟩ (.int .i64 0)).setCell ⟨b, 4, none⟩ (.slice none 0 0)).setCell ⟨b, 5, none⟩ (.slice none 0 0)) b zC 26 := ((((((v0.set 0 (.bool false)).set 1 (.int .i64 0)).set 2 (.int .i64 0)).set 3 (.int .i64 0)).set 4 (.slice none 0 0)).set 5 (.slice none 0 0))
                    have tF : Touch [b] w5 ((((((w5.setCell ⟨b, 0, none⟩ (.bool false)).setCell ⟨b, 1, none⟩ (.int .i64 0)).setCell ⟨b, 2, none⟩ (.int .i64 0)).setCell ⟨b, 3, none⟩ (.int .i64 0)).setCell ⟨b, 4, none⟩ (.slice none 0 0)).setCell ⟨b, 5, none⟩ (.slice none 0 0)) := (((((((Touch.refl [b] w5).setCell (by simp) (.bool false)).setCell (by simp) (.int .i64 0)).setCell (by simp) (.int .i64 0)).setCell (by simp) (.int .i64 0)).setCell (by simp) (.slice none 0 0)).setCell (by simp) (.slice none 0 0))
                    obtain ⟨V, hV⟩ : ∃ V, (((((w5.setCell ⟨b, 0, none⟩ (.bool false)).setCell ⟨b, 1, none⟩ (.int .i64 0)).setCell ⟨b, 2, none⟩ (.int .i64 0)).setCell ⟨b, 3, none⟩ (.int .i64 0)).setCell ⟨b, 4, none⟩ (.slice none 0 0)).setCell ⟨b, 5, none⟩ (.slice none 0 0) = V := ⟨_, rfl⟩
                    rw [hV] at hF tF ⊢
                    have HTF : Hid (Touch [] w V) := Lib.hid ((HTN.out).transF tF (fun k hk hlt => by have h9 := HBE.out; have h6 := List.mem_singleton.1 hk; omega))
                    have e0 : V.cell? ⟨b, 0, none⟩ = some (.bool false) := hF.cell rfl
                    have e1 : V.cell? ⟨b, 1, none⟩ = some (.int .i64 0) := hF.cell rfl
                    have e2 : V.cell? ⟨b, 2, none⟩ = some (.int .i64 0) := hF.cell rfl
                    have e3 : V.cell? ⟨b, 3, none⟩ = some (.int .i64 0) := hF.cell rfl
                    have e4 : V.cell? ⟨b, 4, none⟩ = some (.slice none 0 0) := hF.cell rfl
                    have e5 : V.cell? ⟨b, 5, none⟩ = some (.slice none 0 0) := hF.cell rfl
                    clear hV hF tF v0 y0 z0 y1 z1 y2 z2 y3 z3 y4 z4 y5 z5
                    (try simp only [Exit.inBlock, Exit.then]); refine bodyPost_ret (by simp [results, Tryd.results11, go_sem, e0, e1, e2, e3, e4, e5]; try rfl) rfl ?_
                    exact ⟨_, zeroJ, 1 + 1, 6, rfl, ⟨_, _, rfl, slnil _, slnil _⟩, HRX.out, HTF.out⟩
                · have HM := Lib.hid hm
                  clear hm
                  have HRX := Lib.hid (HRD.out (fun h => by obtain ⟨x1, x2, x3, h⟩ := h; rw [HM.out] at h; cases h))
                  have v0 := HBN.out
                  have y0 : w5.cell? ⟨b, 0, none⟩ = some (.bool false) := v0.cell rfl
                  have z0 := v0.free 0
                  have y1 : w5.cell? ⟨b, 1, none⟩ = some (.int .i64 0) := v0.cell rfl
                  have z1 := v0.free 1
                  have y2 : w5.cell? ⟨b, 2, none⟩ = some (.int .i64 0) := v0.cell rfl
                  have z2 := v0.free 2
                  have y3 : w5.cell? ⟨b, 3, none⟩ = some (.int .i64 0) := v0.cell rfl
                  have z3 := v0.free 3
                  have y4 : w5.cell? ⟨b, 4, none⟩ = some (.slice none 0 0) := v0.cell rfl
                  have z4 := v0.free 4
                  have y5 : w5.cell? ⟨b, 5, none⟩ = some (.slice none 0 0) := v0.cell rfl
                  have z5 := v0.free 5
                  go_wp2_with fail
                  have hF : Blk ((((((w5.setCell ⟨b, 0, none⟩ (.bool false)).setCell ⟨b, 1, none⟩ (.int .i64 0)).setCell ⟨b, 2, none⟩ (.int .i64 0)).setCell ⟨b, 3, none⟩ (.int .i64 0)).setCell ⟨b, 4, none⟩ (.slice none 0 0)).setCell ⟨b, 5, none⟩ (.slice none 0 0)) b zC 26 := ((((((v0.set 0 (.bool false)).set 1 (.int .i64 0)).set 2 (.int .i64 0)).set 3 (.int .i64 0)).set 4 (.slice none 0 0)).set 5 (.slice none 0 0))
                  have tF : Touch [b] w5 ((((((w5.setCell ⟨b, 0, none⟩ (.bool false)).setCell ⟨b, 1, none⟩ (.int .i64 0)).setCell ⟨b, 2, none⟩ (.int .i64 0)).setCell ⟨b, 3, none⟩ (.int .i64 0)).setCell ⟨b, 4, none⟩ (.slice none 0 0)).setCell ⟨b, 5, none⟩ (.slice none 0 0)) := (((((((Touch.refl [b] w5).setCell (by simp) (.bool false)).setCell (by simp) (.int .i64 0)).setCell (by simp) (.int .i64 0)).setCell (by simp) (.int .i64 0)).setCell (by simp) (.slice none 0 0)).setCell (by simp) (.slice none 0 0))
                  obtain ⟨V, hV⟩ : ∃ V, (((((w5.setCell ⟨b, 0, none⟩ (.bool false)).setCell ⟨b, 1, none⟩ (.int .i64 0)).setCell ⟨b, 2, none⟩ (.int .i64 0)).setCell ⟨b, 3, none⟩ (.int .i64 0)).setCell ⟨b, 4, none⟩ (.slice none 0 0)).setCell ⟨b, 5, none⟩ (.slice none 0 0) = V := ⟨_, rfl⟩
                  rw [hV] at hF tF ⊢
                  have HTF : Hid (Touch [] w V) := Lib.hid ((HTN.out).transF tF (fun k hk hlt => by have h9 := HBE.out; have h6 := List.mem_singleton.1 hk; omega))
                  have e0 : V.cell? ⟨b, 0, none⟩ = some (.bool false) := hF.cell rfl
                  have e1 : V.cell? ⟨b, 1, none⟩ = some (.int .i64 0) := hF.cell rfl
                  have e2 : V.cell? ⟨b, 2, none⟩ = some (.int .i64 0) := hF.cell rfl
                  have e3 : V.cell? ⟨b, 3, none⟩ = some (.int .i64 0) := hF.cell rfl
                  have e4 : V.cell? ⟨b, 4, none⟩ = some (.slice none 0 0) := hF.cell rfl
                  have e5 : V.cell? ⟨b, 5, none⟩ = some (.slice none 0 0) := hF.cell rfl
                  clear hV hF tF v0 y0 z0 y1 z1 y2 z2 y3 z3 y4 z4 y5 z5
                  (try simp only [Exit.inBlock, Exit.then]); refine bodyPost_ret (by simp [results, Tryd.results11, go_sem, e0, e1, e2, e3, e4, e5]; try rfl) rfl ?_
                  exact ⟨_, zeroJ, 1 + 1, 6, rfl, ⟨_, _, rfl, slnil _, slnil _⟩, HRX.out, HTF.out⟩)
            · subst e
              have HL := Lib.hid hl
              have hlL : 2 < L.length := by have := HN.out; omega
              have hmk : (mk l).size ≤ 50000 := by
                rw [mk_size]
                have h2 : l ∈ (lnsR s.data.toList).1 := by
                  rw [HD.out, ← hl]
                  show L.getD 2 [] ∈ L
                  rw [List.getD, List.getElem?_eq_getElem hlL]
                  exact List.getElem_mem hlL
                have h3 := lnsR_len _ _ h2
                have h4 := HZ.out
                omega
              have HR := Lib.hid (fun wx => rrow_any (mk l) ⟨#[105, 110, 112, 117, 116]⟩ wx hmk)
              have hrl : lineN (⟨#[105, 110, 112, 117, 116]⟩ : ByteArray).data.toList (mk l).data.toList = lineN wInp l := by rw [mk_list]; rfl
              rw [hrl] at HR
              have HOS : Hid (okL 2 l → OkTo L 3) := Lib.hid (fun h => HOK.out.succ hlL (by rw [hl]; exact h))
              have HRD : Hid (¬ okL 2 l → RdS (lnsR s.data.toList).1 (lnsR s.data.toList).2 zeroJ (2 + 1) 6) := Lib.hid (fun h => by rw [HD.out]; exact .inl ⟨2, by omega, HOK.out, .inr ⟨hlL, by show ¬ okL 2 (L.getD 2 []); rw [hl]; exact h⟩, rfl, rfl, rfl⟩)
              have HJA : Hid (jobAt L 3 = putL 2 l (jobAt L 2)) := Lib.hid (by show putL 2 (L.getD 2 []) (jobAt L 2) = _; rw [hl])
              have k1 : wq.cell? ⟨Z + 1, 2, none⟩ = some (.string ⟨#[105, 110, 112, 117, 116]⟩) := HK.out.cell rfl
              clear hcell hwq hgl hl hmk hlL hrl
              go_wp2
              go_region_with (go_at_call 19; refine (HR.out _).mono ?_; rintro e w5 hnp; obtain ⟨v, ok, rfl, HNP⟩ := nums_one hnp; clear hnp)
              all_goals (
                have HT5 : Hid (Touch [] wq w5) := Lib.hid (by first | with_reducible exact HNP.out.1 | exact ((Touch.refl [] wq).drew).trans HNP.out.1)
                obtain ⟨vi, vp, q0, q1, q2⟩ := HJ.out
                have HP0 := Lib.hid (q0.touch HT5.out (by simp))
                have HP1 := Lib.hid (q1.touch HT5.out (fun k hk => by simp))
                have HP2 := Lib.hid (q2.touch HT5.out (fun k hk => by simp))
                have HKN := Lib.hid (HK.out.touch HT5.out (by simp))
                have HBN := Lib.hid (HB1.out.touch HT5.out (by simp))
                have HTN := Lib.hid (HTT.out.trans HT5.out)
                have HSZ5 := Lib.hid HT5.out.size
                obtain ⟨ai, ci, ei, _⟩ := Qu.shape q1
                obtain ⟨ap, cp, ep, _⟩ := Qu.shape q2
                rw [List.length_map] at ei ep
                subst ei ep
                have HSQ := Lib.hid HTq.out.size
                have HS3 := Lib.hid HZ3.out
                clear q0 q1 q2
                rcases HNP.out.2 with ⟨rfl, m, hm, hq⟩ | ⟨rfl, hm, rfl⟩
                · obtain ⟨av, cv, ev, _⟩ := Qu.shape hq
                  rw [List.length_map] at ev
                  subst ev
                  have HQ := Lib.hid hq
                  have HM := Lib.hid hm
                  clear hq hm
                  have HO1 := Lib.hid (HOS.out ⟨m, HM.out⟩)
                  have HJE : Hid (jobAt L 3 = { jobAt L 2 with inp := m }) := Lib.hid (by rw [HJA.out]; unfold putL; (try dsimp only); rw [HM.out]; rfl)
                  have x4c := HP0.out.cell (i := 4) rfl
                  have f4 := HP0.out.free 4
                  go_wp2_with fail
                  have tt : Touch [Z] w5 (w5.setCell ⟨Z, 4, none⟩ (.slice av m.length cv)) := (Touch.refl [Z] w5).setCell (by simp) _
                  have HJ2 : Hid (JB (w5.setCell ⟨Z, 4, none⟩ (.slice av m.length cv)) Z (Z + 2) (jobAt L 3)) := Lib.hid (by
                    rw [HJE.out]
                    have hq2 := HQ.out.mono (base' := Z + 2) (by have h0 : wq.drew.heap.size = wq.heap.size := rfl; have h1 := HSQ.out; have h2 := HS3.out; omega)
                    exact ⟨_, _, HP0.out.set 4 (.slice av m.length cv), hq2.touch tt (fun k hk => by have := (hq2.own k hk).1; simp; omega), HP2.out.touch tt (fun k hk => by have := (HP2.out.own k hk).1; simp; omega)⟩)
                  have HK2 := Lib.hid (HKN.out.touch tt (by simp))
                  have HT2 := Lib.hid ((HTq.out.trans (HT5.out.mono (by simp))).trans tt)
                  go_roundw
                  case rel => exact ⟨3, by omega, by go_num, HO1.out, HJ2.out, HK2.out, HT2.out⟩
                  case measure => simp [intOf]
                · have HM := Lib.hid hm
                  clear hm
                  have HRX := Lib.hid (HRD.out (fun h => by obtain ⟨x1, h⟩ := h; rw [HM.out] at h; cases h))
                  have v0 := HBN.out
                  have y0 : w5.cell? ⟨b, 0, none⟩ = some (.bool false) := v0.cell rfl
                  have z0 := v0.free 0
                  have y1 : w5.cell? ⟨b, 1, none⟩ = some (.int .i64 0) := v0.cell rfl
                  have z1 := v0.free 1
                  have y2 : w5.cell? ⟨b, 2, none⟩ = some (.int .i64 0) := v0.cell rfl
                  have z2 := v0.free 2
                  have y3 : w5.cell? ⟨b, 3, none⟩ = some (.int .i64 0) := v0.cell rfl
                  have z3 := v0.free 3
                  have y4 : w5.cell? ⟨b, 4, none⟩ = some (.slice none 0 0) := v0.cell rfl
                  have z4 := v0.free 4
                  have y5 : w5.cell? ⟨b, 5, none⟩ = some (.slice none 0 0) := v0.cell rfl
                  have z5 := v0.free 5
                  go_wp2_with fail
                  have hF : Blk ((((((w5.setCell ⟨b, 0, none⟩ (.bool false)).setCell ⟨b, 1, none⟩ (.int .i64 0)).setCell ⟨b, 2, none⟩ (.int .i64 0)).setCell ⟨b, 3, none⟩ (.int .i64 0)).setCell ⟨b, 4, none⟩ (.slice none 0 0)).setCell ⟨b, 5, none⟩ (.slice none 0 0)) b zC 26 := ((((((v0.set 0 (.bool false)).set 1 (.int .i64 0)).set 2 (.int .i64 0)).set 3 (.int .i64 0)).set 4 (.slice none 0 0)).set 5 (.slice none 0 0))
                  have tF : Touch [b] w5 ((((((w5.setCell ⟨b, 0, none⟩ (.bool false)).setCell ⟨b, 1, none⟩ (.int .i64 0)).setCell ⟨b, 2, none⟩ (.int .i64 0)).setCell ⟨b, 3, none⟩ (.int .i64 0)).setCell ⟨b, 4, none⟩ (.slice none 0 0)).setCell ⟨b, 5, none⟩ (.slice none 0 0)) := (((((((Touch.refl [b] w5).setCell (by simp) (.bool false)).setCell (by simp) (.int .i64 0)).setCell (by simp) (.int .i64 0)).setCell (by simp) (.int .i64 0)).setCell (by simp) (.slice none 0 0)).setCell (by simp) (.slice none 0 0))
                  obtain ⟨V, hV⟩ : ∃ V, (((((w5.setCell ⟨b, 0, none⟩ (.bool false)).setCell ⟨b, 1, none⟩ (.int .i64 0)).setCell ⟨b, 2, none⟩ (.int .i64 0)).setCell ⟨b, 3, none⟩ (.int .i64 0)).setCell ⟨b, 4, none⟩ (.slice none 0 0)).setCell ⟨b, 5, none⟩ (.slice none 0 0) = V := ⟨_, rfl⟩
                  rw [hV] at hF tF ⊢
                  have HTF : Hid (Touch [] w V) := Lib.hid ((HTN.out).transF tF (fun k hk hlt => by have h9 := HBE.out; have h6 := List.mem_singleton.1 hk; omega))
                  have e0 : V.cell? ⟨b, 0, none⟩ = some (.bool false) := hF.cell rfl
                  have e1 : V.cell? ⟨b, 1, none⟩ = some (.int .i64 0) := hF.cell rfl
                  have e2 : V.cell? ⟨b, 2, none⟩ = some (.int .i64 0) := hF.cell rfl
                  have e3 : V.cell? ⟨b, 3, none⟩ = some (.int .i64 0) := hF.cell rfl
                  have e4 : V.cell? ⟨b, 4, none⟩ = some (.slice none 0 0) := hF.cell rfl
                  have e5 : V.cell? ⟨b, 5, none⟩ = some (.slice none 0 0) := hF.cell rfl
                  clear hV hF tF v0 y0 z0 y1 z1 y2 z2 y3 z3 y4 z4 y5 z5
                  (try simp only [Exit.inBlock, Exit.then]); refine bodyPost_ret (by simp [results, Tryd.results11, go_sem, e0, e1, e2, e3, e4, e5]; try rfl) rfl ?_
                  exact ⟨_, zeroJ, 2 + 1, 6, rfl, ⟨_, _, rfl, slnil _, slnil _⟩, HRX.out, HTF.out⟩)
            · subst e
              have HL := Lib.hid hl
              have hlL : 3 < L.length := by have := HN.out; omega
              have hmk : (mk l).size ≤ 50000 := by
                rw [mk_size]
                have h2 : l ∈ (lnsR s.data.toList).1 := by
                  rw [HD.out, ← hl]
                  show L.getD 3 [] ∈ L
                  rw [List.getD, List.getElem?_eq_getElem hlL]
                  exact List.getElem_mem hlL
                have h3 := lnsR_len _ _ h2
                have h4 := HZ.out
                omega
              have HR := Lib.hid (fun wx => rrow_any (mk l) ⟨#[112, 105, 99, 107, 115]⟩ wx hmk)
              have hrl : lineN (⟨#[112, 105, 99, 107, 115]⟩ : ByteArray).data.toList (mk l).data.toList = lineN wPk l := by rw [mk_list]; rfl
              rw [hrl] at HR
              have HOS : Hid (okL 3 l → OkTo L 4) := Lib.hid (fun h => HOK.out.succ hlL (by rw [hl]; exact h))
              have HRD : Hid (¬ okL 3 l → RdS (lnsR s.data.toList).1 (lnsR s.data.toList).2 zeroJ (3 + 1) 6) := Lib.hid (fun h => by rw [HD.out]; exact .inl ⟨3, by omega, HOK.out, .inr ⟨hlL, by show ¬ okL 3 (L.getD 3 []); rw [hl]; exact h⟩, rfl, rfl, rfl⟩)
              have HJA : Hid (jobAt L 4 = putL 3 l (jobAt L 3)) := Lib.hid (by show putL 3 (L.getD 3 []) (jobAt L 3) = _; rw [hl])
              have k1 : wq.cell? ⟨Z + 1, 3, none⟩ = some (.string ⟨#[112, 105, 99, 107, 115]⟩) := HK.out.cell rfl
              clear hcell hwq hgl hl hmk hlL hrl
              go_wp2
              go_region_with (go_at_call 19; refine (HR.out _).mono ?_; rintro e w5 hnp; obtain ⟨v, ok, rfl, HNP⟩ := nums_one hnp; clear hnp)
              all_goals (
                have HT5 : Hid (Touch [] wq w5) := Lib.hid (by first | with_reducible exact HNP.out.1 | exact ((Touch.refl [] wq).drew).trans HNP.out.1)
                obtain ⟨vi, vp, q0, q1, q2⟩ := HJ.out
                have HP0 := Lib.hid (q0.touch HT5.out (by simp))
                have HP1 := Lib.hid (q1.touch HT5.out (fun k hk => by simp))
                have HP2 := Lib.hid (q2.touch HT5.out (fun k hk => by simp))
                have HKN := Lib.hid (HK.out.touch HT5.out (by simp))
                have HBN := Lib.hid (HB1.out.touch HT5.out (by simp))
                have HTN := Lib.hid (HTT.out.trans HT5.out)
                have HSZ5 := Lib.hid HT5.out.size
                obtain ⟨ai, ci, ei, _⟩ := Qu.shape q1
                obtain ⟨ap, cp, ep, _⟩ := Qu.shape q2
                rw [List.length_map] at ei ep
                subst ei ep
                have HSQ := Lib.hid HTq.out.size
                have HS3 := Lib.hid HZ3.out
                clear q0 q1 q2
                rcases HNP.out.2 with ⟨rfl, m, hm, hq⟩ | ⟨rfl, hm, rfl⟩
                · obtain ⟨av, cv, ev, _⟩ := Qu.shape hq
                  rw [List.length_map] at ev
                  subst ev
                  have HQ := Lib.hid hq
                  have HM := Lib.hid hm
                  clear hq hm
                  have HO1 := Lib.hid (HOS.out ⟨m, HM.out⟩)
                  have HJE : Hid (jobAt L 4 = { jobAt L 3 with pk := m }) := Lib.hid (by rw [HJA.out]; unfold putL; (try dsimp only); rw [HM.out]; rfl)
                  have x4c := HP0.out.cell (i := 5) rfl
                  have f4 := HP0.out.free 5
                  go_wp2_with fail
                  have tt : Touch [Z] w5 (w5.setCell ⟨Z, 5, none⟩ (.slice av m.length cv)) := (Touch.refl [Z] w5).setCell (by simp) _
                  have HJ2 : Hid (JB (w5.setCell ⟨Z, 5, none⟩ (.slice av m.length cv)) Z (Z + 2) (jobAt L 4)) := Lib.hid (by
                    rw [HJE.out]
                    have hq2 := HQ.out.mono (base' := Z + 2) (by have h0 : wq.drew.heap.size = wq.heap.size := rfl; have h1 := HSQ.out; have h2 := HS3.out; omega)
                    exact ⟨_, _, HP0.out.set 5 (.slice av m.length cv), HP1.out.touch tt (fun k hk => by have := (HP1.out.own k hk).1; simp; omega), hq2.touch tt (fun k hk => by have := (hq2.own k hk).1; simp; omega)⟩)
                  have HK2 := Lib.hid (HKN.out.touch tt (by simp))
                  have HT2 := Lib.hid ((HTq.out.trans (HT5.out.mono (by simp))).trans tt)
                  go_roundw
                  case rel => exact ⟨4, by omega, by go_num, HO1.out, HJ2.out, HK2.out, HT2.out⟩
                  case measure => simp [intOf]
                · have HM := Lib.hid hm
                  clear hm
                  have HRX := Lib.hid (HRD.out (fun h => by obtain ⟨x1, h⟩ := h; rw [HM.out] at h; cases h))
                  have v0 := HBN.out
                  have y0 : w5.cell? ⟨b, 0, none⟩ = some (.bool false) := v0.cell rfl
                  have z0 := v0.free 0
                  have y1 : w5.cell? ⟨b, 1, none⟩ = some (.int .i64 0) := v0.cell rfl
                  have z1 := v0.free 1
                  have y2 : w5.cell? ⟨b, 2, none⟩ = some (.int .i64 0) := v0.cell rfl
                  have z2 := v0.free 2
                  have y3 : w5.cell? ⟨b, 3, none⟩ = some (.int .i64 0) := v0.cell rfl
                  have z3 := v0.free 3
                  have y4 : w5.cell? ⟨b, 4, none⟩ = some (.slice none 0 0) := v0.cell rfl
                  have z4 := v0.free 4
                  have y5 : w5.cell? ⟨b, 5, none⟩ = some (.slice none 0 0) := v0.cell rfl
                  have z5 := v0.free 5
                  go_wp2_with fail
                  have hF : Blk ((((((w5.setCell ⟨b, 0, none⟩ (.bool false)).setCell ⟨b, 1, none⟩ (.int .i64 0)).setCell ⟨b, 2, none⟩ (.int .i64 0)).setCell ⟨b, 3, none⟩ (.int .i64 0)).setCell ⟨b, 4, none⟩ (.slice none 0 0)).setCell ⟨b, 5, none⟩ (.slice none 0 0)) b zC 26 := ((((((v0.set 0 (.bool false)).set 1 (.int .i64 0)).set 2 (.int .i64 0)).set 3 (.int .i64 0)).set 4 (.slice none 0 0)).set 5 (.slice none 0 0))
                  have tF : Touch [b] w5 ((((((w5.setCell ⟨b, 0, none⟩ (.bool false)).setCell ⟨b, 1, none⟩ (.int .i64 0)).setCell ⟨b, 2, none⟩ (.int .i64 0)).setCell ⟨b, 3, none⟩ (.int .i64 0)).setCell ⟨b, 4, none⟩ (.slice none 0 0)).setCell ⟨b, 5, none⟩ (.slice none 0 0)) := (((((((Touch.refl [b] w5).setCell (by simp) (.bool false)).setCell (by simp) (.int .i64 0)).setCell (by simp) (.int .i64 0)).setCell (by simp) (.int .i64 0)).setCell (by simp) (.slice none 0 0)).setCell (by simp) (.slice none 0 0))
                  obtain ⟨V, hV⟩ : ∃ V, (((((w5.setCell ⟨b, 0, none⟩ (.bool false)).setCell ⟨b, 1, none⟩ (.int .i64 0)).setCell ⟨b, 2, none⟩ (.int .i64 0)).setCell ⟨b, 3, none⟩ (.int .i64 0)).setCell ⟨b, 4, none⟩ (.slice none 0 0)).setCell ⟨b, 5, none⟩ (.slice none 0 0) = V := ⟨_, rfl⟩
                  rw [hV] at hF tF ⊢
                  have HTF : Hid (Touch [] w V) := Lib.hid ((HTN.out).transF tF (fun k hk hlt => by have h9 := HBE.out; have h6 := List.mem_singleton.1 hk; omega))
                  have e0 : V.cell? ⟨b, 0, none⟩ = some (.bool false) := hF.cell rfl
                  have e1 : V.cell? ⟨b, 1, none⟩ = some (.int .i64 0) := hF.cell rfl
                  have e2 : V.cell? ⟨b, 2, none⟩ = some (.int .i64 0) := hF.cell rfl
                  have e3 : V.cell? ⟨b, 3, none⟩ = some (.int .i64 0) := hF.cell rfl
                  have e4 : V.cell? ⟨b, 4, none⟩ = some (.slice none 0 0) := hF.cell rfl
                  have e5 : V.cell? ⟨b, 5, none⟩ = some (.slice none 0 0) := hF.cell rfl
                  clear hV hF tF v0 y0 z0 y1 z1 y2 z2 y3 z3 y4 z4 y5 z5
                  (try simp only [Exit.inBlock, Exit.then]); refine bodyPost_ret (by simp [results, Tryd.results11, go_sem, e0, e1, e2, e3, e4, e5]; try rfl) rfl ?_
                  exact ⟨_, zeroJ, 3 + 1, 6, rfl, ⟨_, _, rfl, slnil _, slnil _⟩, HRX.out, HTF.out⟩)
        · obtain rfl : i = 4 := by omega
          have hl4 : 4 ≤ L.length := HOK.out.1
          by_cases hn4 : 4 < n
          · have hd5 : decide ((4 : Int) < (n : Int)) = true := dT (by omega)
            have HRX : Hid (RdS (lnsR s.data.toList).1 (lnsR s.data.toList).2 zeroJ 5 6) := Lib.hid (by rw [HD.out]; exact .inr (.inl ⟨HOK.out, .inl (by have := HN.out; show 4 < L.length; omega), rfl, rfl, rfl⟩))
            have v0 := HB1.out
            have y0 : wq.cell? ⟨b, 0, none⟩ = some (.bool false) := v0.cell rfl
            have z0 := v0.free 0
            have y1 : wq.cell? ⟨b, 1, none⟩ = some (.int .i64 0) := v0.cell rfl
            have z1 := v0.free 1
            have y2 : wq.cell? ⟨b, 2, none⟩ = some (.int .i64 0) := v0.cell rfl
            have z2 := v0.free 2
            have y3 : wq.cell? ⟨b, 3, none⟩ = some (.int .i64 0) := v0.cell rfl
            have z3 := v0.free 3
            have y4 : wq.cell? ⟨b, 4, none⟩ = some (.slice none 0 0) := v0.cell rfl
            have z4 := v0.free 4
            have y5 : wq.cell? ⟨b, 5, none⟩ = some (.slice none 0 0) := v0.cell rfl
            have z5 := v0.free 5
            go_wp2_with fail
            have hF : Blk ((((((wq.setCell ⟨b, 0, none⟩ (.bool false)).setCell ⟨b, 1, none⟩ (.int .i64 0)).setCell ⟨b, 2, none⟩ (.int .i64 0)).setCell ⟨b, 3, none⟩ (.int .i64 0)).setCell ⟨b, 4, none⟩ (.slice none 0 0)).setCell ⟨b, 5, none⟩ (.slice none 0 0)) b zC 26 := ((((((v0.set 0 (.bool false)).set 1 (.int .i64 0)).set 2 (.int .i64 0)).set 3 (.int .i64 0)).set 4 (.slice none 0 0)).set 5 (.slice none 0 0))
            have tF : Touch [b] wq ((((((wq.setCell ⟨b, 0, none⟩ (.bool false)).setCell ⟨b, 1, none⟩ (.int .i64 0)).setCell ⟨b, 2, none⟩ (.int .i64 0)).setCell ⟨b, 3, none⟩ (.int .i64 0)).setCell ⟨b, 4, none⟩ (.slice none 0 0)).setCell ⟨b, 5, none⟩ (.slice none 0 0)) := (((((((Touch.refl [b] wq).setCell (by simp) (.bool false)).setCell (by simp) (.int .i64 0)).setCell (by simp) (.int .i64 0)).setCell (by simp) (.int .i64 0)).setCell (by simp) (.slice none 0 0)).setCell (by simp) (.slice none 0 0))
            obtain ⟨V, hV⟩ : ∃ V, (((((wq.setCell ⟨b, 0, none⟩ (.bool false)).setCell ⟨b, 1, none⟩ (.int .i64 0)).setCell ⟨b, 2, none⟩ (.int .i64 0)).setCell ⟨b, 3, none⟩ (.int .i64 0)).setCell ⟨b, 4, none⟩ (.slice none 0 0)).setCell ⟨b, 5, none⟩ (.slice none 0 0) = V := ⟨_, rfl⟩
            rw [hV] at hF tF ⊢
            have HTF : Hid (Touch [] w V) := Lib.hid ((HTT.out).transF tF (fun k hk hlt => by have h9 := HBE.out; have h6 := List.mem_singleton.1 hk; omega))
            have e0 : V.cell? ⟨b, 0, none⟩ = some (.bool false) := hF.cell rfl
            have e1 : V.cell? ⟨b, 1, none⟩ = some (.int .i64 0) := hF.cell rfl
            have e2 : V.cell? ⟨b, 2, none⟩ = some (.int .i64 0) := hF.cell rfl
            have e3 : V.cell? ⟨b, 3, none⟩ = some (.int .i64 0) := hF.cell rfl
            have e4 : V.cell? ⟨b, 4, none⟩ = some (.slice none 0 0) := hF.cell rfl
            have e5 : V.cell? ⟨b, 5, none⟩ = some (.slice none 0 0) := hF.cell rfl
            clear hV hF tF v0 y0 z0 y1 z1 y2 z2 y3 z3 y4 z4 y5 z5
            (try simp only [Exit.inBlock, Exit.then]); refine bodyPost_ret (by simp [results, Tryd.results11, go_sem, e0, e1, e2, e3, e4, e5]; try rfl) rfl ?_
            exact ⟨_, zeroJ, 5, 6, rfl, ⟨_, _, rfl, slnil _, slnil _⟩, HRX.out, HTF.out⟩
          · have hd5 : decide ((4 : Int) < (n : Int)) = false := dF (by omega)
            have hn0 : n = 4 := by have := HN.out; omega
            by_cases hc : cur = []
            · have hd6 : decide ((f : Int) < (s.size : Int)) = false := by
                have h := HFR.out
                rw [hc] at h
                have h2 : ¬ f < s.size := by simpa using h
                exact dF (by omega)
              have hd7 : decide (f < s.size) = false := dF (by have := of_decide_eq_false hd6; omega)
              have HRX : Hid (RdS (lnsR s.data.toList).1 (lnsR s.data.toList).2 (jobAt L 4) 0 0) := Lib.hid (by rw [HD.out]; exact .inr (.inr ⟨HOK.out, by have := HN.out; show L.length = 4; omega, hc, rfl, rfl, rfl⟩))
              obtain ⟨J, hJ⟩ : ∃ J, jobAt L 4 = J := ⟨_, rfl⟩
              rw [hJ] at HJ HRX
              obtain ⟨vi, vp, q0, q1, q2⟩ := HJ.out
              obtain ⟨ai, ci, ei, _⟩ := Qu.shape q1
              obtain ⟨ap, cp, ep, _⟩ := Qu.shape q2
              rw [List.length_map] at ei ep
              subst ei ep
              have HQ1 := Lib.hid q1
              have HQ2 := Lib.hid q2
              have x0 : wq.cell? ⟨Z, 0, none⟩ = some (.bool J.cl) := q0.cell rfl
              have x1 : wq.cell? ⟨Z, 1, none⟩ = some (.int .i64 J.a) := q0.cell rfl
              have x2 : wq.cell? ⟨Z, 2, none⟩ = some (.int .i64 J.b) := q0.cell rfl
              have x3 : wq.cell? ⟨Z, 3, none⟩ = some (.int .i64 J.c) := q0.cell rfl
              have x4 : wq.cell? ⟨Z, 4, none⟩ = some (.slice ai J.inp.length ci) := q0.cell rfl
              have x5 : wq.cell? ⟨Z, 5, none⟩ = some (.slice ap J.pk.length cp) := q0.cell rfl
              clear q0 q1 q2 hJ hc hn0 hn4
              have v0 := HB1.out
              have y0 : wq.cell? ⟨b, 0, none⟩ = some (.bool false) := v0.cell rfl
              have z0 := v0.free 0
              have y1 : wq.cell? ⟨b, 1, none⟩ = some (.int .i64 0) := v0.cell rfl
              have z1 := v0.free 1
              have y2 : wq.cell? ⟨b, 2, none⟩ = some (.int .i64 0) := v0.cell rfl
              have z2 := v0.free 2
              have y3 : wq.cell? ⟨b, 3, none⟩ = some (.int .i64 0) := v0.cell rfl
              have z3 := v0.free 3
              have y4 : wq.cell? ⟨b, 4, none⟩ = some (.slice none 0 0) := v0.cell rfl
              have z4 := v0.free 4
              have y5 : wq.cell? ⟨b, 5, none⟩ = some (.slice none 0 0) := v0.cell rfl
              have z5 := v0.free 5
              go_wp2_with fail
              have hF : Blk ((((((wq.setCell ⟨b, 0, none⟩ (.bool J.cl)).setCell ⟨b, 1, none⟩ (.int .i64 J.a)).setCell ⟨b, 2, none⟩ (.int .i64 J.b)).setCell ⟨b, 3, none⟩ (.int .i64 J.c)).setCell ⟨b, 4, none⟩ (.slice ai J.inp.length ci)).setCell ⟨b, 5, none⟩ (.slice ap J.pk.length cp)) b #[.bool J.cl, .int .i64 J.a, .int .i64 J.b, .int .i64 J.c, .slice ai J.inp.length ci, .slice ap J.pk.length cp] 26 := ((((((v0.set 0 (.bool J.cl)).set 1 (.int .i64 J.a)).set 2 (.int .i64 J.b)).set 3 (.int .i64 J.c)).set 4 (.slice ai J.inp.length ci)).set 5 (.slice ap J.pk.length cp))
              have tF : Touch [b] wq ((((((wq.setCell ⟨b, 0, none⟩ (.bool J.cl)).setCell ⟨b, 1, none⟩ (.int .i64 J.a)).setCell ⟨b, 2, none⟩ (.int .i64 J.b)).setCell ⟨b, 3, none⟩ (.int .i64 J.c)).setCell ⟨b, 4, none⟩ (.slice ai J.inp.length ci)).setCell ⟨b, 5, none⟩ (.slice ap J.pk.length cp)) := (((((((Touch.refl [b] wq).setCell (by simp) (.bool J.cl)).setCell (by simp) (.int .i64 J.a)).setCell (by simp) (.int .i64 J.b)).setCell (by simp) (.int .i64 J.c)).setCell (by simp) (.slice ai J.inp.length ci)).setCell (by simp) (.slice ap J.pk.length cp))
              obtain ⟨V, hV⟩ : ∃ V, (((((wq.setCell ⟨b, 0, none⟩ (.bool J.cl)).setCell ⟨b, 1, none⟩ (.int .i64 J.a)).setCell ⟨b, 2, none⟩ (.int .i64 J.b)).setCell ⟨b, 3, none⟩ (.int .i64 J.c)).setCell ⟨b, 4, none⟩ (.slice ai J.inp.length ci)).setCell ⟨b, 5, none⟩ (.slice ap J.pk.length cp) = V := ⟨_, rfl⟩
              rw [hV] at hF tF ⊢
              have HTF : Hid (Touch [] w V) := Lib.hid ((HTT.out).transF tF (fun k hk hlt => by have h9 := HBE.out; have h6 := List.mem_singleton.1 hk; omega))
              have HS1 : Hid (Sl V _ J.inp) := Lib.hid (Qu.sl (HQ1.out.touch tF (fun k hk => by have := (HQ1.out.own k hk).1; simp; omega)))
              have HS2 : Hid (Sl V _ J.pk) := Lib.hid (Qu.sl (HQ2.out.touch tF (fun k hk => by have := (HQ2.out.own k hk).1; simp; omega)))
              have e0 : V.cell? ⟨b, 0, none⟩ = some (.bool J.cl) := hF.cell rfl
              have e1 : V.cell? ⟨b, 1, none⟩ = some (.int .i64 J.a) := hF.cell rfl
              have e2 : V.cell? ⟨b, 2, none⟩ = some (.int .i64 J.b) := hF.cell rfl
              have e3 : V.cell? ⟨b, 3, none⟩ = some (.int .i64 J.c) := hF.cell rfl
              have e4 : V.cell? ⟨b, 4, none⟩ = some (.slice ai J.inp.length ci) := hF.cell rfl
              have e5 : V.cell? ⟨b, 5, none⟩ = some (.slice ap J.pk.length cp) := hF.cell rfl
              clear hV hF tF v0 y0 z0 y1 z1 y2 z2 y3 z3 y4 z4 y5 z5
              (try simp only [Exit.inBlock, Exit.then]); refine bodyPost_ret (by simp [results, Tryd.results11, go_sem, e0, e1, e2, e3, e4, e5]; try rfl) rfl ?_
              exact ⟨_, J, 0, 0, rfl, ⟨_, _, rfl, HS1.out, HS2.out⟩, HRX.out, HTF.out⟩
            · have hd6 : decide ((f : Int) < (s.size : Int)) = true := by
                have h := HFR.out
                have h2 : f < s.size := by simpa [hc] using h
                exact dT (by omega)
              have hd7 : decide (f < s.size) = true := dT (by have := of_decide_eq_true hd6; omega)
              have HRX : Hid (RdS (lnsR s.data.toList).1 (lnsR s.data.toList).2 zeroJ 5 6) := Lib.hid (by rw [HD.out]; exact .inr (.inl ⟨HOK.out, .inr hc, rfl, rfl, rfl⟩))
              clear hc
              have v0 := HB1.out
              have y0 : wq.cell? ⟨b, 0, none⟩ = some (.bool false) := v0.cell rfl
              have z0 := v0.free 0
              have y1 : wq.cell? ⟨b, 1, none⟩ = some (.int .i64 0) := v0.cell rfl
              have z1 := v0.free 1
              have y2 : wq.cell? ⟨b, 2, none⟩ = some (.int .i64 0) := v0.cell rfl
              have z2 := v0.free 2
              have y3 : wq.cell? ⟨b, 3, none⟩ = some (.int .i64 0) := v0.cell rfl
              have z3 := v0.free 3
              have y4 : wq.cell? ⟨b, 4, none⟩ = some (.slice none 0 0) := v0.cell rfl
              have z4 := v0.free 4
              have y5 : wq.cell? ⟨b, 5, none⟩ = some (.slice none 0 0) := v0.cell rfl
              have z5 := v0.free 5
              go_wp2_with fail
              have hF : Blk ((((((wq.setCell ⟨b, 0, none⟩ (.bool false)).setCell ⟨b, 1, none⟩ (.int .i64 0)).setCell ⟨b, 2, none⟩ (.int .i64 0)).setCell ⟨b, 3, none⟩ (.int .i64 0)).setCell ⟨b, 4, none⟩ (.slice none 0 0)).setCell ⟨b, 5, none⟩ (.slice none 0 0)) b zC 26 := ((((((v0.set 0 (.bool false)).set 1 (.int .i64 0)).set 2 (.int .i64 0)).set 3 (.int .i64 0)).set 4 (.slice none 0 0)).set 5 (.slice none 0 0))
              have tF : Touch [b] wq ((((((wq.setCell ⟨b, 0, none⟩ (.bool false)).setCell ⟨b, 1, none⟩ (.int .i64 0)).setCell ⟨b, 2, none⟩ (.int .i64 0)).setCell ⟨b, 3, none⟩ (.int .i64 0)).setCell ⟨b, 4, none⟩ (.slice none 0 0)).setCell ⟨b, 5, none⟩ (.slice none 0 0)) := (((((((Touch.refl [b] wq).setCell (by simp) (.bool false)).setCell (by simp) (.int .i64 0)).setCell (by simp) (.int .i64 0)).setCell (by simp) (.int .i64 0)).setCell (by simp) (.slice none 0 0)).setCell (by simp) (.slice none 0 0))
              obtain ⟨V, hV⟩ : ∃ V, (((((wq.setCell ⟨b, 0, none⟩ (.bool false)).setCell ⟨b, 1, none⟩ (.int .i64 0)).setCell ⟨b, 2, none⟩ (.int .i64 0)).setCell ⟨b, 3, none⟩ (.int .i64 0)).setCell ⟨b, 4, none⟩ (.slice none 0 0)).setCell ⟨b, 5, none⟩ (.slice none 0 0) = V := ⟨_, rfl⟩
              rw [hV] at hF tF ⊢
              have HTF : Hid (Touch [] w V) := Lib.hid ((HTT.out).transF tF (fun k hk hlt => by have h9 := HBE.out; have h6 := List.mem_singleton.1 hk; omega))
              have e0 : V.cell? ⟨b, 0, none⟩ = some (.bool false) := hF.cell rfl
              have e1 : V.cell? ⟨b, 1, none⟩ = some (.int .i64 0) := hF.cell rfl
              have e2 : V.cell? ⟨b, 2, none⟩ = some (.int .i64 0) := hF.cell rfl
              have e3 : V.cell? ⟨b, 3, none⟩ = some (.int .i64 0) := hF.cell rfl
              have e4 : V.cell? ⟨b, 4, none⟩ = some (.slice none 0 0) := hF.cell rfl
              have e5 : V.cell? ⟨b, 5, none⟩ = some (.slice none 0 0) := hF.cell rfl
              clear hV hF tF v0 y0 z0 y1 z1 y2 z2 y3 z3 y4 z4 y5 z5
              (try simp only [Exit.inBlock, Exit.then]); refine bodyPost_ret (by simp [results, Tryd.results11, go_sem, e0, e1, e2, e3, e4, e5]; try rfl) rfl ?_
              exact ⟨_, zeroJ, 5, 6, rfl, ⟨_, _, rfl, slnil _, slnil _⟩, HRX.out, HTF.out⟩
end Go.Proofs.YtnhbnggkaomfcaaDoor
