/-
  What is pending, a list of the caller's own.
  What each waits for, row by row, while it is put together; the place of a number in a list.
  Who is left by reduction.
  The entry of a map that an operation with an assignment makes, and the store into it.
  One holds more of a class, or less.
  One holds more of a class, or less: the allocator.
  Class by class one holds more, or less: what the loops of it come to.
  A copy of a list of rows.
  A row of a list of rows of the call's own is written in its place.
  May an ask be granted now?
  While what is pending is gone through: what has been granted, what is still pending.
-/
import Derived.Deep.RegionLaw
import Derived.WideKeyEntry
import Derived.Deep.RegionHeldLaw
import Derived.Test.YticglfmmjgnicaaGreatYEF
set_option linter.unusedVariables false
set_option linter.unusedSimpArgs false
namespace Go.Proofs.YticglfmmjgnicaaGreat
open Go Go.RowKit

/-- A list of asks that is the call's own, its units, too. -/
structure Aks (w : World) (base : Nat) (v : Value) (l : List (Int × List Int)) (qu : Nat → Value) : Prop where
  s : Av w base 58 2 v l.length (askF l qu)
  u : ∀ i, i < l.length → Qu w base 3 (qu i) ((l.getD i (0, [])).2.map (Value.int .i64)) ∧ ∀ k, (qu i).ownBlock = some k → v.ownBlock ≠ some k
theorem Aks.nil (w : World) (base : Nat) (qu : Nat → Value) : Aks w base (.slice none 0 0) [] qu := ⟨Av.nil _ _ _ _ _, fun i hi => by simp at hi⟩
theorem Aks.touch {w w' : World} {base : Nat} {v : Value} {l : List (Int × List Int)} {qu : Nat → Value} (h : Aks w base v l qu) (ht : Touch [] w w') : Aks w' base v l qu :=
  ⟨h.s.touch ht (fun _ _ => by simp), fun i hi => ⟨(h.u i hi).1.touch ht (fun _ _ => by simp), (h.u i hi).2⟩⟩
theorem infoA : ∃ i0 : TypeInfo, Tryz.prog.info? 58 = some i0 ∧ i0.zero = some (.agg #[.int .i64 0, .slice none 0 0]) ∧ i0.size = 2 ∧ i0.bytes = 32 :=
  info_parts (show (Tryz.prog.info? 58).map (fun i => (i.zero, i.size, i.bytes)) = some (some (.agg #[.int .i64 0, .slice none 0 0]), 2, 32) from by kernel_rfl)
theorem Aks.app {w0 wd : World} {v : Value} {l : List (Int × List Int)} {qu : Nat → Value} (h : Aks wd w0.heap.size v l qu) (ht : Touch [] w0 wd) (hn : l.length ≤ 100000) (q : Int) (u : List Int) (a1 : Option Addr) (l1 n1 : Nat) (hu : Qu wd w0.heap.size 3 (.slice a1 l1 n1) (u.map (Value.int .i64)))
    (hne : ∀ k, (Value.slice a1 l1 n1).ownBlock = some k → v.ownBlock ≠ some k) :
    ∃ v' w2, (∀ ty, (Builtin.append_ #[53, 53] ty #[v, .slice (some ⟨wd.heap.size, 0, none⟩) 1 1]).run Tryz.prog (wd.alloc (.cells #[.int .i64 q, .slice a1 l1 n1] 58)) = .ok v' w2) ∧
      Aks w2 w0.heap.size v' (l ++ [(q, u)]) (fun i => if i = l.length then .slice a1 l1 n1 else qu i) ∧ Touch [] w0 w2 ∧ Touch v.ownBlock.toList wd w2 ∧ ∃ a c, v' = .slice a (l.length + 1) c := by
  obtain ⟨i, hi, hz, h5, h32⟩ := infoA
  have bp : Blk (wd.alloc (.cells #[.int .i64 q, .slice a1 l1 n1] 58)) wd.heap.size #[.int .i64 q, .slice a1 l1 n1] 58 := Blk.new rfl
  have t3 : Touch [] wd (wd.alloc (.cells #[.int .i64 q, .slice a1 l1 n1] 58)) := (Touch.refl _ _).alloc _
  have hs1 := ht.size
  have hs3 := t3.size
  obtain ⟨f, hf⟩ : ∃ f : Nat → Value, f = fun j => if j = 0 then .int .i64 q else .slice a1 l1 n1 := ⟨_, rfl⟩
  obtain ⟨v2, w2, r2, A2, g2, o2⟩ := Av.append (t := 53) Tryz.underlying53 hi hz h5 h32 rfl (h.s.touch t3 (fun _ _ => by simp)) (by omega) ⟨wd.heap.size, 0, none⟩ 1 f (fun j hj => by
    rw [Addr.add_lit, Nat.zero_add, hf]
    have : j = 0 ∨ j = 1 := by omega
    rcases this with rfl | rfl <;> exact bp.cell rfl) (fun j hj => by
    rw [hf]
    have : j = 0 ∨ j = 1 := by omega
    rcases this with rfl | rfl <;> rfl) (by omega) (by omega)
  have tg : Touch v.ownBlock.toList (wd.alloc (.cells #[.int .i64 q, .slice a1 l1 n1] 58)) w2 := Touch.grown (S := v.ownBlock.toList) (Touch.refl _ _) g2 (fun k hk _ => by simp [hk])
  have keep : ∀ (x : Value) zs, Qu wd w0.heap.size 3 x zs → (∀ k, x.ownBlock = some k → v.ownBlock ≠ some k) → Qu w2 w0.heap.size 3 x zs ∧ ∀ k, x.ownBlock = some k → v2.ownBlock ≠ some k := fun x zs hx hk =>
    ⟨(hx.touch t3 (fun _ _ => by simp)).touch tg (fun k h1 hm => hk k h1 (by simpa using hm)), fun k h1 h2 => by
      rcases o2 k h2 with e | e
      · exact hk k h1 e
      · have := (hx.own k h1).2; omega⟩
  refine ⟨v2, w2, r2, ⟨?_, fun j hj => ?_⟩, (ht.trans t3).transF tg (fun k hk hl => by have := (h.s.own k (by simpa using hk)).1; omega), (t3.mono (by simp)).trans tg, ?_⟩
  · rw [List.length_append, List.length_singleton]
    refine A2.congr (fun j hj c hc => ?_)
    unfold addV askF
    by_cases e : j = l.length
    · subst e
      rw [if_pos rfl, hf]
      simp
    · simp only [if_neg e]
      rw [List.getD_eq_getElem?_getD, List.getD_eq_getElem?_getD, List.getElem?_append_left (by omega)]
  · rw [List.length_append, List.length_singleton] at hj
    by_cases e : j = l.length
    · subst e
      simp only [if_true]
      rw [show (l ++ [(q, u)]).getD l.length (0, []) = (q, u) from by simp]
      exact keep _ _ hu hne
    · simp only [if_neg e]
      rw [show (l ++ [(q, u)]).getD j (0, []) = l.getD j (0, []) from by rw [List.getD_eq_getElem?_getD, List.getD_eq_getElem?_getD, List.getElem?_append_left (by omega)]]
      exact keep _ _ (h.u j (by omega)).1 (h.u j (by omega)).2
  · obtain ⟨a2, c2, e2, _⟩ := A2.form
    exact ⟨a2, c2, e2⟩
def PendP (l : List (Int × List Int)) (w : World) (e : Ending) (w' : World) : Prop := ∃ v qu, e = .returned v ∧ Aks w' w.heap.size v l qu ∧ Touch [] w w'
set_option maxRecDepth 100000 in
set_option maxHeartbeats 8000000 in
theorem pending_any (w : World) (F : List Nat) (b : Nat) (m : Am) (p : PaP) (h : Pb w F b m p) (hn : p.pd.length ≤ 1000) (hu : ∀ i, i < p.pd.length → (p.pd.getD i (0, [])).2.length ≤ 6) :
    Calls Tryz.prog 26 #[.pointer (some ⟨b, 0, none⟩)] w (PendP p.pd w) := by
  obtain ⟨base, hpe⟩ := h.pend
  obtain ⟨pa, pc, hpv⟩ : ∃ a c, p.pv = .slice a p.pd.length c := by obtain ⟨a, c, e, _⟩ := hpe.form; exact ⟨a, c, e⟩
  have c4 : w.cell? ⟨b, 4, none⟩ = some (.slice pa p.pd.length pc) := by rw [← hpv]; exact h.blk.cell (i := 4) rfl
  rw [hpv] at hpe
  have HPE := Lib.hid hpe
  have HPU : Hid (∀ i, i < p.pd.length → Sl w (p.pu i) (p.pd.getD i (0, [])).2) := Lib.hid (fun i hi => (h.pu i hi).1)
  have HU := Lib.hid hu
  obtain ⟨L, hL⟩ : ∃ L, p.pd.length = L := ⟨_, rfl⟩
  have HL := Lib.hid hL
  rw [hL] at c4 hn HPE HPU HU
  clear h hpe hpv hL hu
  go_enter Tryz.func26, Tryz.ntmps26
  go_wp2_with fail
  go_loopw [3, 13] (fun lv iv wr => ∃ (i : Nat) (qu : Nat → Value), i ≤ L ∧ iv = .int .i64 i ∧ Aks wr w.heap.size lv (p.pd.take i) qu ∧ Touch [] w wr) (fun _ iv _ => L + 1 - (intOf iv).toNat)
  case atStart => exact ⟨0, fun _ => .slice none 0 0, by omega, rfl, Aks.nil _ _ _, Touch.refl _ _⟩
  case round =>
    obtain ⟨i, qu, hi, rfl, ha, ht⟩ := hrel
    have HA := Lib.hid ha
    have HT := Lib.hid ht
    obtain ⟨va, vc, rfl⟩ : ∃ a c, u3 = .slice a i c := by
      obtain ⟨a, c, e, _⟩ := ha.s.form
      rw [List.length_take, HL.out, Nat.min_eq_left hi] at e
      exact ⟨a, c, e⟩
    by_cases hk : i < L
    · have hlt : (i : Int) < (L : Int) := by omega
      have hk2 : i < p.pd.length := by rw [HL.out]; exact hk
      obtain ⟨g, cap, e, hbg, hg, hcap, hcm, hc, hfr, _⟩ := (HPE.out.touch HT.out (fun _ _ => by simp)).at hk
      cases e
      obtain ⟨ua, uc, hue⟩ := (HPU.out i hk).form
      have hsl := HPU.out i hk
      have hul := HU.out i hk
      have htk : p.pd.take (i + 1) = p.pd.take i ++ [((p.pd.getD i (0, [])).1, (p.pd.getD i (0, [])).2)] := by
        rw [List.take_succ_eq_append_getElem hk2, show p.pd.getD i (0, []) = p.pd[i] from by simp [hk2]]
      have d0 : wr.cell? ⟨g, i * 2, none⟩ = some (.int .i64 (p.pd.getD i (0, [])).1) := hc 0 (by omega)
      have d1 : wr.cell? ⟨g, i * 2 + 1, none⟩ = some (.slice ua (p.pd.getD i (0, [])).2.length uc) := by rw [← hue]; exact hc 1 (by omega)
      rw [hue] at hsl
      obtain ⟨q, hq⟩ : ∃ q, (p.pd.getD i (0, [])).1 = q := ⟨_, rfl⟩
      obtain ⟨u, hu⟩ : ∃ u, (p.pd.getD i (0, [])).2 = u := ⟨_, rfl⟩
      rw [hq] at d0 htk
      rw [hu] at d1 htk hsl hul
      have HTK := Lib.hid htk
      have HSL := Lib.hid hsl
      have HUL := Lib.hid hul
      obtain ⟨N, hN⟩ : ∃ N, u.length = N := ⟨_, rfl⟩
      rw [hN] at d1 HSL
      have HAD : Hid (Touch [] wr (World.drew (wr.alloc (.cells #[.int .i64 q, .slice ua N uc] 58)))) := Lib.hid (((Touch.refl [] wr).alloc _).drew)
      have bx : Blk (wr.alloc (.cells #[.int .i64 q, .slice ua N uc] 58)) wr.heap.size #[.int .i64 q, .slice ua N uc] 58 := Blk.new rfl
      have hown : wr.heap.size ∉ (Value.slice va i vc).ownBlock.toList := fun hm => by have := (HA.out.s.own wr.heap.size (by simpa using hm)).2; omega
      have HBX : Hid (∀ w', Touch (Value.slice va i vc).ownBlock.toList (wr.alloc (.cells #[.int .i64 q, .slice ua N uc] 58)) w' → w'.cell? ⟨wr.heap.size, 0, none⟩ = some (.int .i64 q) ∧ w'.cell? ⟨wr.heap.size, 1, none⟩ = some (.slice ua N uc)) := Lib.hid (fun w' h => ⟨(bx.touch h hown).cell (i := 0) rfl, (bx.touch h hown).cell (i := 1) rfl⟩)
      have HCL := Lib.hid (clone_any (.slice ua N uc) u _ (HSL.out.touch (HT.out.trans HAD.out) (fun _ _ => by simp)) (by have := HUL.out; omega))
      clear ha ht hc hsl hul htk hq hu hN hue bx hown
      go_wp2_with fail
      go_region_held_law (fun w' => w'.cell? ⟨wr.heap.size, 0, none⟩ = some (.int .i64 q) ∧ w'.cell? ⟨wr.heap.size, 1, none⟩ = some (.slice ua N uc)) (first | exact HBX.out _ ((Touch.refl _ _).drew) | exact HBX.out _ (HT2.out.mono (by simp)) | exact HBX.out _ ((HT2.out.mono (by simp)).alloc _) | exact HBX.out _ HT4.out)
        ((first
          | (refine step_append_run rfl _ _ _ _ rfl _ _ rfl rfl _ _ (HR.out _) ?_)
          | (go_simp; go_at_call 40; refine HCL.out.mono ?_; rintro e w2 ⟨v, rfl, hq2, ht2⟩
             have HT2 := Lib.hid (((Touch.refl [] (wr.alloc (.cells #[.int .i64 q, .slice ua N uc] 58))).drew).trans ht2)
             obtain ⟨v2a, v2c, rfl⟩ := Qu.form hq2
             have htw := HT.out.trans (HAD.out.trans ht2)
             obtain ⟨v', w3, hr, hA2, hT2, hT4, a3, c3, hv3⟩ := Aks.app (HA.out.touch (HAD.out.trans ht2)) htw (by rw [List.length_take]; omega) q u v2a u.length v2c (hq2.mono (HT.out.trans HAD.out).size) (fun k hk1 hk2 => by have h1 := (hq2.own k hk1).1; have h2 := (HA.out.s.own k hk2).2; have h3 := HAD.out.size; omega)
             rw [List.length_take, HL.out, Nat.min_eq_left (Nat.le_of_lt hk)] at hv3
             subst hv3
             have HR := Lib.hid hr
             have HA2 := Lib.hid hA2
             have HT3 := Lib.hid hT2
             have HT4 := Lib.hid ((HT2.out.mono (by simp)).trans hT4)
             clear hq2 ht2 htw hr hA2 hT2 hT4)))
      go_wp2_with fail
      go_roundw
      case rel =>
        have hf := HA2.out
        rw [← HTK.out] at hf
        exact ⟨i + 1, _, by omega, by go_num, hf, HT3.out⟩
      case measure => simp [intOf]; omega
    · have hlt : ¬ (i : Int) < (L : Int) := by omega
      obtain rfl : i = L := by omega
      clear ha ht
      go_wp2_with fail
      go_ret
      refine ⟨_, qu, rfl, ?_, HT.out⟩
      have := HA.out
      rw [List.take_of_length_le (by rw [HL.out]; exact Nat.le_refl _)] at this
      exact this
end Go.Proofs.YticglfmmjgnicaaGreat

set_option linter.unusedVariables false
namespace Go.Proofs.YticglfmmjgnicaaGreat
open Go Go.RowKit

/-- What q waits for; z: for nothing. -/
def askOf (z : List Int) (l : List (Int × List Int)) (q : Int) : List Int := l.foldl (fun a x => if x.1 = q then x.2 else a) z
theorem askOf_add (z : List Int) (l : List (Int × List Int)) (x : Int × List Int) (q : Int) : askOf z (l ++ [x]) q = if x.1 = q then x.2 else askOf z l q := by simp [askOf]
def Am.zero (m : Am) : List Int := List.replicate m.tot.length 0
def Am.asks (m : Am) : List (List Int) := m.ps.map (askOf m.zero m.pend)
def Am.stuck (m : Am) : List Int := (stuckL m.avl m.hs m.asks).map fun i => m.ps.getD i.toNat 0
/-- A row of rows, its block g, written in place; what the rows hold. -/
structure AsR (w : World) (g N : Nat) (r : Nat → List Int) : Prop where
  b : ∃ cur : Array Value, Blk w g cur 22 ∧ cur.size = N ∧ ∀ i, i < N → ∃ v, cur[i]? = some v ∧ Sl w v (r i) ∧ v.ownBlock ≠ some g
theorem AsR.made (w : World) (N : Nat) : AsR (w.alloc (.cells (Array.replicate N (.slice none 0 0)) 22)) w.heap.size N (fun _ => []) :=
  ⟨_, Blk.new rfl, by simp, fun i hi => ⟨.slice none 0 0, by simp [hi], Sl.nil _, by simp [Value.ownBlock]⟩⟩
theorem AsR.touch {w w' : World} {g N : Nat} {r : Nat → List Int} (h : AsR w g N r) (ht : Touch [] w w') : AsR w' g N r := by
  obtain ⟨cur, h1, h2, h3⟩ := h
  exact ⟨cur, h1.touch ht (by simp), h2, fun i hi => by obtain ⟨v, a, b, c⟩ := h3 i hi; exact ⟨v, a, b.touch ht (fun _ _ => by simp), c⟩⟩
theorem AsR.set {w : World} {g N : Nat} {r : Nat → List Int} (h : AsR w g N r) {k : Nat} (hk : k < N) {v : Value} {xs : List Int} (hv : Sl w v xs) (hg : v.ownBlock ≠ some g) :
    AsR (w.setCell ⟨g, k, none⟩ v) g N (fun i => if i = k then xs else r i) := by
  obtain ⟨cur, h1, h2, h3⟩ := h
  have ht : Touch [g] w (w.setCell ⟨g, k, none⟩ v) := (Touch.refl [g] w).setCell (by simp) _
  refine ⟨_, h1.set k v, by simpa using h2, fun i hi => ?_⟩
  rw [Array.getElem?_setIfInBounds]
  by_cases e : k = i
  · subst e
    exact ⟨v, by simp [h2, hk], by simpa using hv.touch ht (fun k hk hm => hg (by simp at hm; rw [← hm]; exact hk)), hg⟩
  · obtain ⟨v', a, b, c⟩ := h3 i hi
    refine ⟨v', by rw [if_neg e]; exact a, ?_, c⟩
    simp only [if_neg (Ne.symm e)]
    exact b.touch ht (fun k hk hm => c (by simp at hm; rw [← hm]; exact hk))
theorem AsR.at {w : World} {g N : Nat} {r : Nat → List Int} (h : AsR w g N r) {k : Nat} (hk : k < N) : ∃ v, w.cell? ⟨g, k, none⟩ = some v := by
  obtain ⟨cur, h1, h2, h3⟩ := h
  obtain ⟨v, a, _⟩ := h3 k hk
  exact ⟨v, h1.cell a⟩
theorem AsR.free {w : World} {g N : Nat} {r : Nat → List Int} (h : AsR w g N r) (k : Nat) : w.frozen? ⟨g, k, none⟩ = false := by
  obtain ⟨cur, h1, h2, h3⟩ := h
  exact h1.free k
theorem AsR.lt {w : World} {g N : Nat} {r : Nat → List Int} (h : AsR w g N r) : g < w.heap.size := by
  obtain ⟨cur, h1, h2, h3⟩ := h
  exact h1.lt
theorem AsR.congr {w : World} {g N : Nat} {r r' : Nat → List Int} (h : AsR w g N r) (e : ∀ i, i < N → r i = r' i) : AsR w g N r' := by
  obtain ⟨cur, h1, h2, h3⟩ := h
  exact ⟨cur, h1, h2, fun i hi => by rw [← e i hi]; exact h3 i hi⟩
theorem AsR.rws {w : World} {g N : Nat} {r : Nat → List Int} (h : AsR w g N r) (hN : N ≤ 1000) {l : List (List Int)} (hl : l.length = N) (he : ∀ i, i < N → rw_ l i = r i) : Rws w (.slice (some ⟨g, 0, none⟩) N N) l := by
  obtain ⟨cur, h1, h2, h3⟩ := h
  have hq : Qu w 0 22 (.slice (some ⟨g, 0, none⟩) N N) cur.toList :=
    .inr ⟨g, 0, N, cur, by simp [h2], Nat.zero_le _, h1, by simp [h2], by unfold maxLen; omega, by omega, fun j hj => by simp⟩
  refine hq.rws (by simp [h2, hl]) (fun i hi => ?_)
  rw [hl] at hi
  obtain ⟨v, a, b, _⟩ := h3 i hi
  rw [he i hi]
  have : cur.toList.getD i (.slice none 0 0) = v := by rw [List.getD_eq_getElem?_getD, Array.getElem?_toList, a]; rfl
  rw [this]
  exact b
theorem run_mk_rows (n : Nat) (hn : n ≤ 100000) (w : World) : (Instr.makeSlice 45 (.int .i64 (n : Int)) (.int .i64 (n : Int))).run Tryz.prog w = .ok (.slice (some ⟨w.heap.size, 0, none⟩) n n) (w.alloc (.cells (Array.replicate n (.slice none 0 0)) 22)) := by
  obtain ⟨i0, hi, hz0, hz1, hz2⟩ := info_parts (show (Tryz.prog.info? 22).map (fun i => (i.zero, i.size, i.bytes)) = some (some (.slice none 0 0), 1, 24) from by kernel_rfl)
  have h := run_make (P := Tryz.prog) w 45 22 i0 (.slice none 0 0) Tryz.underlying45 hi hz0 .i64 .i64 n n (by omega) (by omega) (by rw [hz2]; omega) (by omega)
  rw [hz1, Int.toNat_natCast, Nat.mul_one, show madeCells (Value.slice none 0 0).cells n = Array.replicate n (.slice none 0 0) from by
    apply Array.ext_getElem?
    intro j
    simp [madeCells, Value.cells, Array.getElem?_replicate]
    by_cases h : j < n <;> simp [h, Nat.mod_one]] at h
  exact h
set_option maxHeartbeats 2000000 in
theorem idx_any (v : Value) (xs : List Int) (x : Int) (k : Nat) (w : World) (h : Sl w v xs) (hl : xs.length ≤ 1000000) (hk : k < xs.length) (hx : xs.getD k 0 = x) (hno : ∀ j, j < k → xs.getD j 0 ≠ x) :
    Calls Tryz.prog 54 #[v, .int .i64 x] w fun e w' => e = .returned (.int .i64 k) ∧ w = w' := by
  obtain ⟨a, cap, rfl, h⟩ := h
  obtain ⟨n, hn⟩ : ∃ n, xs.length = n := ⟨_, rfl⟩
  have HN := Lib.hid hn
  have HX := Lib.hid hx
  have HNo := Lib.hid hno
  rw [hn] at hl hk ⊢
  rcases h with h | ⟨g, off, rfl, hg, hrow⟩
  · exfalso; have h5 : xs.length = 0 := (by rw [h]; rfl); omega
  have HR := Lib.hid hrow
  clear hrow hx hno hn
  go_enter Tryz.func54, Tryz.ntmps54
  go_wp2
  go_loop [8] (fun i => ∃ j : Nat, j ≤ k ∧ i = .int .i64 j) (fun i => n + 1 - (intOf i).toNat)
  case atStart => exact ⟨0, by omega, rfl⟩
  case round =>
    obtain ⟨j, hj, rfl⟩ := hrel
    have hlt : (j : Int) < (n : Int) := by omega
    have hc := HR.out j (by rw [HN.out]; omega)
    by_cases hjk : j < k
    · have hne := HNo.out j hjk
      obtain ⟨y, hy⟩ : ∃ y, xs.getD j 0 = y := ⟨_, rfl⟩
      rw [hy] at hc hne
      have e1 : (x == y) = false := beqF (Ne.symm hne)
      clear hy hne
      go_wp2
      go_round
      case rel => exact ⟨j + 1, by omega, by go_num⟩
      case measure => simp [intOf]; omega
    · obtain rfl : j = k := by omega
      rw [HX.out] at hc
      go_wp2
      go_ret
      exact ⟨rfl, rfl⟩
/-- The place of one that is in. -/
theorem place_of {ps : List Int} (hr : ps.Pairwise (· < ·)) {q : Int} (hq : q ∈ ps) : ∃ k, k < ps.length ∧ ps.getD k 0 = q ∧ (∀ j, j < k → ps.getD j 0 ≠ q) ∧ ∀ j, j < ps.length → ps.getD j 0 = q → j = k := by
  obtain ⟨k, hk, e⟩ := List.getElem_of_mem hq
  have uniq : ∀ j, j < ps.length → ps.getD j 0 = q → j = k := fun j hj h => by
    have h1 : ps[j] = q := by simpa [hj] using h
    rcases Nat.lt_trichotomy j k with c | c | c
    · have := List.pairwise_iff_getElem.1 hr j k hj hk c; omega
    · exact c
    · have := List.pairwise_iff_getElem.1 hr k j hk hj c; omega
  exact ⟨k, hk, by simp [hk, e], fun j hj h => by have := uniq j (by omega) h; omega, uniq⟩
end Go.Proofs.YticglfmmjgnicaaGreat

set_option linter.unusedVariables false
namespace Go.Proofs.YticglfmmjgnicaaGreat
open Go Go.RowKit

theorem zero_new (n : Nat) (hn : n ≤ 6) (w : World) : Sl (w.alloc (.cells (rowA (fun _ => 0) n) 3)) (.slice (some ⟨w.heap.size, 0, none⟩) n n) (List.replicate n 0) := by
  have hq : Qu (w.alloc (.cells (rowA (fun _ => 0) n) 3)) 0 3 (.slice (some ⟨w.heap.size, 0, none⟩) n n) ((List.replicate n (0 : Int)).map (Value.int .i64)) :=
    .inr ⟨_, 0, n, _, by simp, Nat.zero_le _, Blk.new rfl, by simp, by unfold maxLen; omega, by simp [rowA_size], fun i hi => by
      have hi : i < n := by simpa using hi
      rw [Nat.zero_add, rowA_get _ _ _ hi]
      simp [hi]⟩
  exact hq.sl
theorem app_n (w : World) (base : Nat) (v : Value) (xs : List Int) (x : Int) (h : Qu w base 3 v (xs.map (Value.int .i64))) (hb : base ≤ w.heap.size) (hn : xs.length ≤ 100000) :
    ∃ v' w', (∀ ty, (Builtin.append_ #[22, 22] ty #[v, .slice (some ⟨w.heap.size, 0, none⟩) 1 1]).run Tryz.prog (w.alloc (.cells #[.int .i64 x] 3)) = .ok v' w') ∧ Qu w' base 3 v' ((xs ++ [x]).map (Value.int .i64)) ∧ Touch v.ownBlock.toList w w' := by
  have ta : Touch [] w (w.alloc (.cells #[.int .i64 x] 3)) := (Touch.refl _ _).alloc _
  have hsz := ta.size
  obtain ⟨v', w2, r1, A2, g2, o2⟩ := Qu.appendI (Qu.alloc h (.cells #[.int .i64 x] 3)) (by omega) (show Sl (w.alloc (.cells #[.int .i64 x] 3)) (.slice (some ⟨w.heap.size, 0, none⟩) 1 1) [x] from ⟨_, 1, rfl, .inr ⟨w.heap.size, 0, rfl, by simp, row1 _ _ _ _ rfl⟩⟩) (by simp; omega)
  exact ⟨v', w2, r1, A2, ((Touch.refl v.ownBlock.toList w).alloc _).grown g2 (fun k hk _ => by simp [hk])⟩
theorem stuckL_mem {xs : List Int} {hs qs : List (List Int)} {i : Int} (h : i ∈ stuckL xs hs qs) : 0 ≤ i ∧ i < hs.length := by
  unfold stuckL at h
  split at h
  · exact ⟨(leftL_mem.1 h).1, (leftL_mem.1 h).2.1⟩
  · simp at h
theorem stuckL_len {xs : List Int} {hs qs : List (List Int)} : (stuckL xs hs qs).length ≤ hs.length := by
  unfold stuckL
  split
  · unfold leftL
    rw [List.length_map]
    exact Nat.le_trans (List.length_filter_le _ _) (by simp)
  · simp
/-- The rows while the first loop, and the second one, go. -/
def r1 (n k i : Nat) : List Int := if i < k then List.replicate n 0 else []
set_option maxRecDepth 100000 in
set_option maxHeartbeats 16000000 in
theorem astuck_any (w : World) (F : List Nat) (b : Nat) (m : Am) (p : PaP) (h : Pa w F b m p) (ok : m.Ok) (hpd : p.pd = m.pend) (hpl : m.pend.length ≤ 1000) :
    Calls Tryz.prog 25 #[.pointer (some ⟨b, 0, none⟩)] w (RdOwn w F b m p m.stuck) := by
  have HL := Lib.hid (look_any w F b m p h ok)
  have hbF : b ∈ F := h.fw b (by simp [PaP.W])
  have HF := Lib.hid (And.intro h.lt hbF)
  have HOK := Lib.hid ok
  have HPL := Lib.hid hpl
  have HPD := Lib.hid hpd
  obtain ⟨n, hnn⟩ : ∃ n, m.tot.length = n := ⟨_, rfl⟩
  have HNN := Lib.hid hnn
  have hn6 : n ≤ 6 := by rw [← hnn]; exact ok.nt
  obtain ⟨N, hN⟩ : ∃ N, m.ps.length = N := ⟨_, rfl⟩
  have HNL := Lib.hid hN
  have hN32 : N ≤ 32 := by rw [← hN]; exact ok.few
  clear h ok hbF hpl hpd hnn hN
  go_enter Tryz.func25, Tryz.ntmps25
  go_wp2_with fail
  refine HL.out.mono ?_
  rintro e w1 ⟨s, pv, av, hv, cv, rfl, t, hpa, hst⟩
  obtain ⟨x, hx⟩ := hst.obj
  obtain ⟨pa, pc, hpv⟩ := hst.ps.1.form
  obtain ⟨aa, ac, hav⟩ := hst.av.1.form
  obtain ⟨ha, hc, hhv⟩ := hst.hs.rws.form
  obtain ⟨ta, tc, htv⟩ := hpa.tot.1.form
  rw [HNL.out] at hpv
  rw [HNN.out] at htv
  rw [Am.avl_length, HNN.out] at hav
  rw [show m.hs.length = N from by rw [Am.hs, List.length_map]; exact HNL.out] at hhv
  have HX : Hid (∀ T w', Touch T w1 w' → s ∉ T → b ∉ T → (w'.cell? ⟨s, 3, none⟩ = some (.slice pa N pc) ∧ w'.cell? ⟨s, 4, none⟩ = some (.slice aa n ac) ∧ w'.cell? ⟨s, 5, none⟩ = some (.slice ha N hc)) ∧ w'.cell? ⟨b, 0, none⟩ = some (.slice ta n tc)) :=
    Lib.hid (fun T w' ht h1 h2 => ⟨⟨by rw [← hpv]; exact (hx.touch ht h1).cell (i := 3) rfl, by rw [← hav]; exact (hx.touch ht h1).cell (i := 4) rfl, by rw [← hhv]; exact (hx.touch ht h1).cell (i := 5) rfl⟩, by rw [← htv]; exact (hpa.blk.touch ht h2).cell (i := 0) rfl⟩)
  have HS := Lib.hid hst
  have HP := Lib.hid (And.intro t hpa)
  have HPV := Lib.hid hpv
  have HAV := Lib.hid hav
  have HHV := Lib.hid hhv
  have HLT : Hid (s < w1.heap.size ∧ b < w1.heap.size) := Lib.hid ⟨hx.lt, hpa.blk.lt⟩
  have c3 : w1.cell? ⟨s, 3, none⟩ = some (.slice pa N pc) := (HX.out [] w1 (Touch.refl _ _) (by simp) (by simp)).1.1
  have hmk := run_mk_rows N (by omega) w1
  have HG0 := Lib.hid (AsR.made w1 N)
  have HT0 := Lib.hid ((Touch.refl [] w1).alloc (.cells (Array.replicate N (.slice none 0 0)) 22))
  clear hst hx t hpa HL hpv hav hhv htv
  go_wp2_with fail
  clear hmk c3
  go_loopw [23] (fun iv wr => ∃ k : Nat, k ≤ N ∧ iv = .int .i64 k ∧ AsR wr w1.heap.size N (r1 n k) ∧ Touch [] w1 wr) (fun iv _ => N + 1 - (intOf iv).toNat)
  case atStart => exact ⟨0, by omega, rfl, HG0.out.congr (fun i hi => by simp [r1]), HT0.out⟩
  case round =>
    clear HG0 HT0
    obtain ⟨k, hk, rfl, hg, ht⟩ := hrel
    have HG := Lib.hid hg
    have HT := Lib.hid ht
    by_cases hkn : k < N
    · have hlt : (k : Int) < (N : Int) := by omega
      have b0 : wr.cell? ⟨b, 0, none⟩ = some (.slice ta n tc) := (HX.out [] wr HT.out (by simp) (by simp)).2
      have hmk2 := run_mk_of (P := Tryz.prog) 22 3 Tryz.underlying22 (by kernel_rfl) n (by omega) wr
      have hga := hg.touch ((Touch.refl [] wr).alloc (.cells (rowA (fun _ => 0) n) 3))
      obtain ⟨y, hy⟩ := hga.at hkn
      obtain ⟨y', hy'⟩ := hg.at hkn
      have hf := hg.free k
      have HG2 := Lib.hid (hga.set hkn (zero_new n hn6 wr) (by simp [Value.ownBlock]; have := hg.lt; omega))
      have HT2 : Hid (Touch [] w1 ((wr.alloc (.cells (rowA (fun _ => 0) n) 3)).setCell ⟨w1.heap.size, k, none⟩ (.slice (some ⟨wr.heap.size, 0, none⟩) n n))) := Lib.hid ((HT.out.alloc _).setNew (Nat.le_refl _) _)
      have hlt2 := hg.lt
      have HCM := Lib.hid (World.setCell_alloc_past (w := wr) (.cells (rowA (fun _ => 0) n) 3) w1.heap.size k (.slice (some ⟨wr.heap.size, 0, none⟩) n n) hlt2)
      clear hg ht hga
      go_wp2_with fail
      go_roundw
      case rel =>
        rw [← HCM.out]
        refine ⟨k + 1, by omega, by go_num, HG2.out.congr (fun i hi => ?_), HT2.out⟩
        unfold r1
        by_cases e : i = k
        · subst e; simp
        · rw [if_neg e]
          by_cases e2 : i < k
          · rw [if_pos e2, if_pos (by omega)]
          · rw [if_neg e2, if_neg (by omega)]
      case measure => simp [intOf]; omega
    · have hlt : ¬ (k : Int) < (N : Int) := by omega
      obtain rfl : k = N := by omega
      obtain ⟨L, hL⟩ : ∃ L, m.pend.length = L := ⟨_, rfl⟩
      have HLL := Lib.hid hL
      have hLb : L ≤ 1000 := by rw [← hL]; exact HPL.out
      obtain ⟨base, hpe⟩ := HP.out.2.pend
      have hpe : Av w1 base 58 2 p.pv m.pend.length (askF m.pend p.pu) := by rw [← HPD.out]; exact hpe
      obtain ⟨qa, qc, hqv⟩ : ∃ a c, p.pv = .slice a L c := by obtain ⟨a, c, e, _⟩ := hpe.form; exact ⟨a, c, by rw [← hL]; exact e⟩
      have b4 : wr.cell? ⟨b, 4, none⟩ = some (.slice qa L qc) := by rw [← hqv]; exact (HP.out.2.blk.touch HT.out (by simp)).cell (i := 4) rfl
      have HPE : Hid (Av w1 base 58 2 (.slice qa L qc) L (askF m.pend p.pu)) := Lib.hid (by rw [← hqv]; have := hpe; rw [hL] at this; exact this)
      have HPU : Hid (∀ i, i < L → Sl w1 (p.pu i) (m.pend.getD i (0, [])).2 ∧ ∀ c, (p.pu i).ownBlock = some c → c < w1.heap.size) := Lib.hid (fun i hi => by
        have h1 := HP.out.2.pu i (by show i < p.pd.length; rw [HPD.out, HLL.out]; exact hi)
        have h2 : Sl w1 (p.pu i) (p.pd.getD i (0, [])).2 := h1.1
        rw [HPD.out] at h2
        exact ⟨h2, fun c hc => HP.out.2.lt c (h1.2 c hc).1⟩)
      have HA0 : Hid (AsR wr w1.heap.size k (fun i => askOf m.zero (m.pend.take 0) (m.ps.getD i 0))) := Lib.hid (hg.congr (fun i hi => by simp [r1, hi, askOf, Am.zero, HNN.out]))
      clear hg ht hL hpe hqv
      go_wp2_with fail
      clear b4
      go_loopw [41] (fun iv wr => ∃ j : Nat, j ≤ L ∧ iv = .int .i64 j ∧ AsR wr w1.heap.size k (fun i => askOf m.zero (m.pend.take j) (m.ps.getD i 0)) ∧ Touch [] w1 wr) (fun iv _ => L + 1 - (intOf iv).toNat)
      case atStart => exact ⟨0, by omega, rfl, HA0.out, HT.out⟩
      case round =>
        clear HA0 HT HG
        obtain ⟨j, hj, rfl, hg, ht⟩ := hrel
        have HG := Lib.hid hg
        have HT := Lib.hid ht
        by_cases hjL : j < L
        · have hlt : (j : Int) < (L : Int) := by omega
          have hk2 : j < m.pend.length := by rw [HLL.out]; exact hjL
          obtain ⟨g, cap, e, hbg, hgl, hcap, hcm, hc, hfr, _⟩ := (HPE.out.touch HT.out (fun _ _ => by simp)).at hjL
          cases e
          obtain ⟨hsl, hol⟩ := HPU.out j hjL
          obtain ⟨ua, uc, hue⟩ := hsl.form
          have htk : m.pend.take (j + 1) = m.pend.take j ++ [((m.pend.getD j (0, [])).1, (m.pend.getD j (0, [])).2)] := by
            rw [List.take_succ_eq_append_getElem hk2, show m.pend.getD j (0, []) = m.pend[j] from by simp [hk2]]
          have hqi : (m.pend.getD j (0, [])).1 ∈ m.ps := (HOK.out.pi _ (by rw [show m.pend.getD j (0, []) = m.pend[j] from by simp [hk2]]; exact List.getElem_mem hk2)).1
          have d0 : wr.cell? ⟨g, j * 2, none⟩ = some (.int .i64 (m.pend.getD j (0, [])).1) := hc 0 (by omega)
          have d1 : wr.cell? ⟨g, j * 2 + 1, none⟩ = some (.slice ua (m.pend.getD j (0, [])).2.length uc) := by rw [← hue]; exact hc 1 (by omega)
          rw [hue] at hsl hol
          obtain ⟨q, hq⟩ : ∃ q, (m.pend.getD j (0, [])).1 = q := ⟨_, rfl⟩
          obtain ⟨u, hu⟩ : ∃ u, (m.pend.getD j (0, [])).2 = u := ⟨_, rfl⟩
          rw [hq] at d0 htk hqi
          rw [hu] at d1 htk hsl hol
          obtain ⟨at_, hat, hat2, hno, huq⟩ := place_of HOK.out.rise hqi
          have hatk : at_ < k := by rw [← HNL.out]; exact hat
          have HTK := Lib.hid htk
          have HSL := Lib.hid hsl
          have HUQ := Lib.hid (And.intro hat2 huq)
          obtain ⟨NU, hNU⟩ : ∃ N, u.length = N := ⟨_, rfl⟩
          rw [hNU] at d1 HSL hol
          have bx : Blk (wr.alloc (.cells #[.int .i64 q, .slice ua NU uc] 58)) wr.heap.size #[.int .i64 q, .slice ua NU uc] 58 := Blk.new rfl
          have HAD : Hid (Touch [] wr (wr.alloc (.cells #[.int .i64 q, .slice ua NU uc] 58))) := Lib.hid ((Touch.refl [] wr).alloc _)
          have hglt := hg.lt
          have HBX : Hid (∀ w', Touch [w1.heap.size] (wr.alloc (.cells #[.int .i64 q, .slice ua NU uc] 58)) w' → w'.cell? ⟨wr.heap.size, 0, none⟩ = some (.int .i64 q) ∧ w'.cell? ⟨wr.heap.size, 1, none⟩ = some (.slice ua NU uc) ∧ w'.cell? ⟨s, 3, none⟩ = some (.slice pa k pc)) := Lib.hid (fun w' h =>
            ⟨(bx.touch h (by simp; omega)).cell (i := 0) rfl, (bx.touch h (by simp; omega)).cell (i := 1) rfl, (HX.out [w1.heap.size] w' (((HT.out.trans HAD.out).mono (by simp)).trans h) (by have := HLT.out.1; simp; omega) (by have := HLT.out.2; simp; omega)).1.1⟩)
          have HIX := Lib.hid (idx_any (.slice pa k pc) m.ps q at_ (World.drew (wr.alloc (.cells #[.int .i64 q, .slice ua NU uc] 58))) ((by rw [← HPV.out]; exact HS.out.ps.1 : Sl w1 (.slice pa k pc) m.ps).touch ((HT.out.trans HAD.out).drew) (fun _ _ => by simp)) (by rw [HNL.out]; omega) hat hat2 hno)
          have hga := (hg.touch HAD.out).touch ((Touch.refl [] _).drew)
          obtain ⟨y, hy⟩ := hga.at hatk
          have hf := hga.free at_
          have HG2 := Lib.hid (hga.set hatk ((HSL.out.touch (HT.out.trans (HAD.out.trans ((Touch.refl [] _).drew))) (fun _ _ => by simp)) : Sl (World.drew (wr.alloc (.cells #[.int .i64 q, .slice ua NU uc] 58))) (.slice ua NU uc) u) (fun e => by have := hol _ e; omega))
          have HT2 : Hid (Touch [] w1 ((World.drew (wr.alloc (.cells #[.int .i64 q, .slice ua NU uc] 58))).setCell ⟨w1.heap.size, at_, none⟩ (.slice ua NU uc))) := Lib.hid (((HT.out.trans HAD.out).drew).setNew (Nat.le_refl _) _)
          have HEQ : Hid (World.drew ((wr.setCell ⟨w1.heap.size, at_, none⟩ (.slice ua NU uc)).alloc (.cells #[.int .i64 q, .slice ua NU uc] 58)) = (World.drew (wr.alloc (.cells #[.int .i64 q, .slice ua NU uc] 58))).setCell ⟨w1.heap.size, at_, none⟩ (.slice ua NU uc)) := Lib.hid (by
            rw [← World.setCell_alloc_past (w := wr) (.cells #[.int .i64 q, .slice ua NU uc] 58) w1.heap.size at_ (.slice ua NU uc) hglt]
            rfl)
          have HBX2 := Lib.hid (HBX.out _ (((Touch.refl _ _).drew).setCell (p := ⟨w1.heap.size, at_, none⟩) (by simp) (.slice ua NU uc)))
          rw [← HEQ.out] at HBX2 HG2 HT2
          clear hg ht hga hc hsl hol htk hqi hq hu hue hNU bx hno hat2 huq
          go_wp2_with fail
          go_region_held_law (fun w' => w'.cell? ⟨wr.heap.size, 0, none⟩ = some (.int .i64 q) ∧ w'.cell? ⟨wr.heap.size, 1, none⟩ = some (.slice ua NU uc) ∧ w'.cell? ⟨s, 3, none⟩ = some (.slice pa k pc)) (first | exact HBX.out _ ((Touch.refl _ _).drew) | exact HBX2.out)
            ((go_simp; go_at_call 54; refine HIX.out.mono ?_; rintro e w2 ⟨rfl, rfl⟩))
          go_wp2_with fail
          go_roundw
          case rel =>
            refine ⟨j + 1, by omega, by go_num, HG2.out.congr (fun i hi => ?_), HT2.out⟩
            rw [HTK.out, askOf_add]
            by_cases e : i = at_
            · subst e
              rw [if_pos rfl, if_pos HUQ.out.1.symm]
            · rw [if_neg e, if_neg (fun h => e (HUQ.out.2 i (by rw [HNL.out]; exact hi) h.symm))]
          case measure => simp [intOf]; omega
        · have hlt : ¬ (j : Int) < (L : Int) := by omega
          obtain rfl : j = L := by omega
          have hqr : Rws (World.drew wr) (.slice (some ⟨w1.heap.size, 0, none⟩) k k) m.asks := ((hg.touch ((Touch.refl [] wr).drew)).congr (fun i hi => by rw [List.take_of_length_le (by rw [HLL.out]; exact Nat.le_refl _)])).rws (by omega) (by rw [Am.asks, List.length_map]; exact HNL.out) (fun i hi => by
            have : i < m.ps.length := by rw [HNL.out]; exact hi
            simp [rw_, Am.asks, this])
          have htd := ht.drew
          have hav1 : Sl (World.drew wr) (.slice aa n ac) m.avl := (by rw [← HAV.out]; exact HS.out.av.1 : Sl w1 (.slice aa n ac) m.avl).touch htd (fun _ _ => by simp)
          have hhv1 : Rws (World.drew wr) (.slice ha k hc) m.hs := (by rw [← HHV.out]; exact HS.out.hs.rws : Rws w1 (.slice ha k hc) m.hs).touch htd
          have HST := Lib.hid (stuck_any _ _ _ m.avl m.hs m.asks _ hav1 hhv1 hqr)
          obtain ⟨rs, hrs⟩ : ∃ rs, stuckL m.avl m.hs m.asks = rs := ⟨_, rfl⟩
          have HRS : Hid (stuckL m.avl m.hs m.asks = rs ∧ rs.length ≤ k ∧ ∀ i, i ∈ rs → 0 ≤ i ∧ i < k) := Lib.hid (by
            have hl : m.hs.length = k := by rw [Am.hs, List.length_map]; exact HNL.out
            exact ⟨hrs, by rw [← hrs, ← hl]; exact stuckL_len, fun i hi => by rw [← hrs] at hi; have := stuckL_mem hi; rw [hl] at this; exact this⟩)
          rw [hrs] at HST
          have HX3 : Hid (∀ w', Touch [] wr w' → w'.cell? ⟨s, 4, none⟩ = some (.slice aa n ac) ∧ w'.cell? ⟨s, 5, none⟩ = some (.slice ha k hc)) := Lib.hid (fun w' h => (HX.out [] w' (HT.out.trans h) (by simp) (by simp)).1.2)
          clear hg ht hqr htd hav1 hhv1 hrs
          go_wp2_with fail
          go_region_held_law (fun w' => w'.cell? ⟨s, 4, none⟩ = some (.slice aa n ac) ∧ w'.cell? ⟨s, 5, none⟩ = some (.slice ha k hc)) (first | exact HX3.out _ ((Touch.refl _ _).drew) | exact HX3.out _ HT5.out)
            ((go_simp; go_at_call 32; refine HST.out.mono ?_; rintro e w5 ⟨rv, rfl, hq5, ht5⟩
              have HT5 := Lib.hid (((Touch.refl [] wr).drew).trans ht5)
              obtain ⟨ra, rc, rfl⟩ := Qu.form hq5
              have HR5 := Lib.hid hq5.sl
              clear hq5 ht5))
          obtain ⟨R, hR⟩ : ∃ R, rs.length = R := ⟨_, rfl⟩
          have HRL := Lib.hid hR
          have hRk : R ≤ k := by rw [← hR]; exact HRS.out.2.1
          have HT6 : Hid (Touch [] w1 w5) := Lib.hid (HT.out.trans HT5.out)
          rw [hR] at HR5 ⊢
          clear hR
          go_wp2_with fail
          go_loopw [8, 68] (fun lv iv wr => ∃ i : Nat, i ≤ R ∧ iv = .int .i64 i ∧ Qu wr w5.heap.size 3 lv (((rs.take i).map fun i => m.ps.getD i.toNat 0).map (Value.int .i64)) ∧ Touch [] w5 wr) (fun _ iv _ => R + 1 - (intOf iv).toNat)
          case atStart => exact ⟨0, by omega, rfl, Qu.nil _ _ _, Touch.refl _ _⟩
          case round =>
            obtain ⟨i, hi, rfl, hq, ht⟩ := hrel
            have HQ := Lib.hid hq
            have HT7 := Lib.hid ht
            by_cases hiR : i < R
            · have hlt : (i : Int) < (R : Int) := by omega
              have hir : i < rs.length := by rw [HRL.out]; exact hiR
              obtain ⟨c, hc⟩ : ∃ c : Nat, rs.getD i 0 = (c : Int) := ⟨(rs.getD i 0).toNat, by
                have := (HRS.out.2.2 (rs.getD i 0) (by rw [show rs.getD i 0 = rs[i] from by simp [hir]]; exact List.getElem_mem hir)).1
                omega⟩
              have hck : c < k := by
                have := (HRS.out.2.2 (rs.getD i 0) (by rw [show rs.getD i 0 = rs[i] from by simp [hir]]; exact List.getElem_mem hir)).2
                omega
              obtain ⟨gr, offr, era, hxr⟩ := HR5.out.ix (q := i) hir
              obtain ⟨gp, offp, epa, hxp⟩ := (by rw [← HPV.out]; exact HS.out.ps.1 : Sl w1 (.slice pa k pc) m.ps).ix (q := c) (by rw [HNL.out]; exact hck)
              cases era
              cases epa
              have d1 := hxr wr ht
              rw [hc] at d1
              have d2 := hxp wr (HT6.out.trans ht)
              have d3 : wr.cell? ⟨s, 3, none⟩ = some (.slice (some ⟨gp, offp, none⟩) k pc) := (HX.out [] wr (HT6.out.trans ht) (by simp) (by simp)).1.1
              obtain ⟨q, hq2⟩ : ∃ q, m.ps.getD c 0 = q := ⟨_, rfl⟩
              rw [hq2] at d2
              have htk : (rs.take (i + 1)).map (fun i => m.ps.getD i.toNat 0) = (rs.take i).map (fun i => m.ps.getD i.toNat 0) ++ [q] := by
                rw [List.take_succ_eq_append_getElem hir, List.map_append, show rs[i] = (c : Int) from by rw [← hc]; simp [hir]]
                simp only [List.map_cons, List.map_nil, Int.toNat_natCast, hq2]
              have HTK := Lib.hid htk
              obtain ⟨v', w8, hr, hA2, hT2⟩ := app_n wr w5.heap.size u8 _ q hq ht.size (by rw [List.length_map, List.length_take]; omega)
              have HR := Lib.hid hr
              have HA2 := Lib.hid hA2
              have HT8 : Hid (Touch [] w5 w8) := Lib.hid (ht.transF hT2 (fun z hz hl => by have := (hq.own z (by simpa using hz)).1; omega))
              obtain ⟨la, lc, hla⟩ := Qu.form hq
              obtain ⟨la', lc', hla'⟩ := Qu.form hA2
              have hll : ((rs.take i).map (fun i => m.ps.getD i.toNat 0)).length = i := by rw [List.length_map, List.length_take]; omega
              rw [hll] at hla
              rw [List.length_append, hll, List.length_singleton] at hla'
              subst hla
              subst hla'
              clear hq ht hxr hxp hc hq2 htk hr hA2 hT2
              go_wp2_with (at_builtin; refine Lib.wpList_append_run _ rfl _ _ _ _ rfl _ _ rfl rfl _ _ (HR.out _) ?_)
              go_roundw
              case rel =>
                have hf := HA2.out
                rw [← HTK.out] at hf
                exact ⟨i + 1, by omega, by go_num, hf, HT8.out⟩
              case measure => simp [intOf]; omega
            · have hlt : ¬ (i : Int) < (R : Int) := by omega
              obtain rfl : i = R := by omega
              have HFI := Lib.hid (RdOwn.of HF.out.1 HF.out.2 HP.out.1 HP.out.2 (HT6.out.trans ht) ((by rw [List.take_of_length_le (by rw [HRL.out]; exact Nat.le_refl _), ← HRS.out.1] at hq; exact hq : Qu wr w5.heap.size 3 u8 (m.stuck.map (Value.int .i64))).mono HT6.out.size : Qu wr w1.heap.size 3 u8 (m.stuck.map (Value.int .i64))))
              clear hq ht
              go_wp2_with fail
              go_ret
              exact HFI.out
end Go.Proofs.YticglfmmjgnicaaGreat

set_option linter.unusedVariables false
namespace Go.Proofs.YticglfmmjgnicaaGreat
open Go Go.RowKit Go.MapKept

/-- The block b is this map. -/
def setM (w : World) (b : Nat) (es : Array MapEntry) (clock : Nat) : World := { w with heap := w.heap.setIfInBounds b (.map es clock) }
theorem setM_touch {w : World} {b : Nat} {es : Array MapEntry} {clock : Nat} : Touch [b] w (setM w b es clock) := touch_set
theorem Mp.heap {κ : Type} {enc : κ → Value} {w w' : World} {b n : Nat} {m : κ → Option Value} (h : Mp enc w b m n) (e : w'.heap[b]? = w.heap[b]?) : Mp enc w' b m n := by
  obtain ⟨es, clock, h1, r⟩ := h
  exact ⟨es, clock, e.trans h1, r⟩
section
variable {κ : Type} {enc : κ → Value} {w : World} {b n : Nat} {m : κ → Option Value} {P : Program} {T kt et : TypeId} [DecidableEq κ]
theorem Mp.entry (K : KeyR P kt enc) (ht : P.underlying T = some (.map kt et)) {z : Value} (hz : ∀ w, (zeroValue et).run P w = .ok z w) (h : Mp enc w b m n) (k : κ) :
    ∃ (f : Value → Array MapEntry) (clock st : Nat), (∀ v, Mp enc (setM w b (f v) clock) b (putM m k v) (if (m k).isSome then n else n + 1)) ∧ (Instr.mapEntry T (.map (some b)) (enc k)).run P w = .ok (.tuple #[(m k).getD z, goInt st]) (setM w b (f ((m k).getD z)) clock) ∧
      ∀ (w2 : World) (u v : Value), w2.heap[b]? = some (.map (f u) clock) → (Instr.entryStore T (.map (some b)) (goInt st) v).run P w2 = .ok () (setM w2 b (f v) clock) := by
  have hput := fun v => h.putG K ht k v
  obtain ⟨es, clock, h1, h2, h3, h4, h5, ⟨q1, q2, q5⟩ | ⟨j, e, q1, q2, q3, q4⟩⟩ := h.findG K k
  · refine ⟨fun v => es.push { key := enc k, val := v, born := clock }, clock + 1, clock, fun v => ?_, ?_, fun w2 u v hw2 => ?_⟩
    · obtain ⟨w', r, hm, _⟩ := hput v
      have r2 : (Instr.mapUpdate T (.map (some b)) (enc k) v).run P w = .ok () (setM w b (es.push { key := enc k, val := v, born := clock }) (clock + 1)) := by
        simp [Instr.mapUpdate, run_underlying ht, MapKept.run_getObj_map h1, K.check w _ k, q1, MapKept.run_setObj_map _ h1, Result.andThen, setM]
      rw [r] at r2
      cases r2
      exact hm
    · rw [q2]
      simp [Instr.mapEntry, run_underlying ht, MapKept.run_getObj_map h1, K.check w _ k, q1, hz, MapKept.run_setObj_map _ h1, Result.andThen, setM]
    · have hidx : (es.push ⟨enc k, u, clock⟩).findIdx? (fun e => ((e.born : Nat) : Int) == ((clock : Nat) : Int)) = some es.size := by
        rw [WideElems.findIdx_arr]
        refine WideElems.findIdx_born (l := (es.push ⟨enc k, u, clock⟩).toList) (j := es.size) (e0 := ⟨enc k, u, clock⟩) ?_ (by simp)
        have := (stamped_push (val := u) h2 q5).2.1
        simpa using this
      have hmod : (es.push ⟨enc k, u, clock⟩).modify es.size (fun e => { e with val := v }) = es.push ⟨enc k, v, clock⟩ := by
        apply Array.ext'
        rw [Array.toList_modify, Array.toList_push, Array.toList_push, ← Array.length_toList, WideElems.modify_last]
      simp [Instr.entryStore, MapKept.run_getObj_map hw2, asInt, asIntOf, goInt, hidx, hmod, MapKept.run_setObj_map _ hw2, Result.andThen, setM]
  · refine ⟨fun v => es.modify j fun e => { e with key := enc k, val := v }, clock, e.born, fun v => ?_, ?_, fun w2 u v hw2 => ?_⟩
    · obtain ⟨w', r, hm, _⟩ := hput v
      have r2 : (Instr.mapUpdate T (.map (some b)) (enc k) v).run P w = .ok () (setM w b (es.modify j fun e => { e with key := enc k, val := v }) clock) := by
        simp [Instr.mapUpdate, run_underlying ht, MapKept.run_getObj_map h1, K.check w _ k, q1, q2, q3, K.stays w k, MapKept.run_setObj_map _ h1, Result.andThen, setM]
      rw [r] at r2
      cases r2
      exact hm
    · rw [q4]
      have hsame : (es.modify j fun e => { e with key := enc k }) = es.modify j fun e' => { e' with key := enc k, val := e.val } := by
        apply Array.ext_getElem?
        intro i
        rw [Array.getElem?_modify, Array.getElem?_modify]
        by_cases hij : j = i
        · subst hij
          rw [if_pos rfl, if_pos rfl, q2]
          rfl
        · rw [if_neg hij, if_neg hij]
      simp [Instr.mapEntry, run_underlying ht, MapKept.run_getObj_map h1, K.check w _ k, q1, q2, q3, K.stays w k, hsame, MapKept.run_setObj_map _ h1, Result.andThen, setM]
    · have hnd : ((es.modify j fun e => { e with key := enc k, val := u }).toList.map (·.born)) = es.toList.map (·.born) := by
        apply List.ext_getElem?
        intro i
        rw [List.getElem?_map, List.getElem?_map, Array.getElem?_toList, Array.getElem?_toList, Array.getElem?_modify]
        by_cases hij : j = i
        · subst hij
          rw [if_pos rfl, q2]
          rfl
        · rw [if_neg hij]
      have hgj : (es.modify j fun e => { e with key := enc k, val := u })[j]? = some { e with key := enc k, val := u } := by
        rw [Array.getElem?_modify, if_pos rfl, q2]
        rfl
      have hidx : (es.modify j fun e => { e with key := enc k, val := u }).findIdx? (fun x => ((x.born : Nat) : Int) == ((e.born : Nat) : Int)) = some j := by
        rw [WideElems.findIdx_arr]
        exact WideElems.findIdx_born (e0 := { e with key := enc k, val := u }) (by rw [hnd]; exact h2.2.1) (by rw [Array.getElem?_toList]; exact hgj)
      have hmod : (es.modify j fun e => { e with key := enc k, val := u }).modify j (fun x => { x with val := v }) = es.modify j fun e => { e with key := enc k, val := v } := by
        apply Array.ext_getElem?
        intro i
        rw [Array.getElem?_modify, Array.getElem?_modify, Array.getElem?_modify]
        by_cases hij : j = i
        · subst hij
          rw [if_pos rfl, if_pos rfl, if_pos rfl, q2]
          rfl
        · rw [if_neg hij, if_neg hij, if_neg hij]
      simp [Instr.entryStore, MapKept.run_getObj_map hw2, asInt, asIntOf, goInt, hidx, hmod, MapKept.run_setObj_map _ hw2, Result.andThen, setM]
end
end Go.Proofs.YticglfmmjgnicaaGreat

set_option linter.unusedVariables false
namespace Go.Proofs.YticglfmmjgnicaaGreat
open Go Go.RowKit Go.MapKept

theorem step_delete_run {P : Program} {ops : Array Oper} {o : Oper} {a : Act} {w : World} {K : Act → World → Prop} {Q : Exit → Act → World → Prop} {E : Prop} (hgd : o.guard = none) (s x : Operand) (t tx : TypeId)
    (ho : o.op = .call { callee := .builtin .delete, args := #[s, x], argTypes := #[t, tx] }) (vs vx : Value) (hs : a.eval s = vs) (hx : a.eval x = vx) (v' : Value) (w' : World)
    (hr : (Builtin.delete_ #[t, tx] o.type #[vs, vx]).run P w = .ok v' w') (h : K (a.put o.dst v') w') : if Region.wanted o (yielded ops a.tmps) = true then Oper.wp P o a w K Q else E := by
  have hw : Region.wanted o (yielded ops a.tmps) = true := by simp [Region.wanted, hgd]
  rw [if_pos hw]
  unfold Oper.wp execOp
  simp only [ho, resolve, invoke, builtin, Sem.run_bind, Sem.run_pure, Result.andThen_ok, List.map_toArray, List.map_cons, List.map_nil, hs, hx, hr]
  simp [Oper.upon, h]
def HoldP (w : World) (b bh : Nat) (tv cl mcv pv : Value) (m' : KP → Option Value) (w' : World) : Prop :=
  ∃ n', Mp shK w' bh m' n' ∧ Blk w' b #[tv, cl, mcv, .map (some bh), pv, .pointer none] 73 ∧ Touch [b, bh] w w'
set_option maxRecDepth 100000 in
set_option maxHeartbeats 8000000 in
theorem hold_mem (w : World) (b bh nh : Nat) (tv cl mcv pv sv : Value) (mh : KP → Option Value) (q c old n : Int) (hk : InI q ∧ InI c) (h : Blk w b #[tv, cl, mcv, .map (some bh), pv, sv] 73) (hm : Mp shK w bh mh nh) (hne : bh ≠ b) (hv : (mh ⟨(q, c), hk⟩).getD (.int .i64 0) = .int .i64 old) (hs : InI (old + n)) :
    Calls Tryz.prog 67 #[.pointer (some ⟨b, 0, none⟩), .int .i64 q, .int .i64 c, .int .i64 n] w fun e w' => e = .returned (.tuple #[]) ∧ HoldP w b bh tv cl mcv pv (if old + n = 0 then dropM mh ⟨(q, c), hk⟩ else putM mh ⟨(q, c), hk⟩ (.int .i64 (old + n))) w' := by
  have HB := Lib.hid h
  unfold InI at hs
  have hwr : IntKind.i64.wrap (old + n) = old + n := IntWalk.i64_in _ (by omega)
  obtain ⟨nw, hnw⟩ : ∃ nw, old + n = nw := ⟨_, rfl⟩
  rw [hnw] at hwr hs ⊢
  have hwr : IntKind.i64.wrap (old + n) = nw := by rw [hnw]; exact hwr
  obtain ⟨W0, hW0⟩ : ∃ W0, World.drew (w.alloc (.cells #[.int .i64 q, .int .i64 c] 111)) = W0 := ⟨_, rfl⟩
  have bx : Blk W0 w.heap.size #[.int .i64 q, .int .i64 c] 111 := by rw [← hW0]; exact Blk.new rfl
  have ht0 : Touch [] w W0 := by rw [← hW0]; exact ((Touch.refl [] w).alloc _).drew
  have hm0 : Mp shK W0 bh mh nh := hm.touch ht0 (by simp)
  have hbl := h.lt
  have hmlt := hm.lt
  obtain ⟨k, hkk⟩ : ∃ k : KP, k = ⟨(q, c), hk⟩ := ⟨_, rfl⟩
  have hsk : shK k = .agg #[.int .i64 q, .int .i64 c] := by rw [hkk]; rfl
  rw [← hkk] at hv ⊢
  obtain ⟨mh', hmh'⟩ : ∃ mh', (if nw = 0 then dropM mh k else putM mh k (.int .i64 nw)) = mh' := ⟨_, rfl⟩
  rw [hmh']
  have HMH := Lib.hid hmh'
  clear hmh'
  obtain ⟨f, clock, st, hput, hen, hstore⟩ := Mp.entry shKey Tryz.underlying70 zeroI hm0 k
  rw [hv] at hen
  obtain ⟨N, hN⟩ : ∃ N, (if (mh k).isSome then nh else nh + 1) = N := ⟨_, rfl⟩
  rw [hN] at hput
  obtain ⟨W1, hW1⟩ : ∃ W1, setM W0 bh (f (.int .i64 old)) clock = W1 := ⟨_, rfl⟩
  have m1 := hput (.int .i64 old)
  rw [hW1] at m1 hen
  have t1 : Touch [bh] W0 W1 := by rw [← hW1]; exact setM_touch
  have e1 : W1.heap[bh]? = some (.map (f (.int .i64 old)) clock) := by rw [← hW1]; have := hm0.lt; simp [setM, this]
  have es := hstore W1 (.int .i64 old) (.int .i64 nw) e1
  obtain ⟨W2, hW2⟩ : ∃ W2, setM W1 bh (f (.int .i64 nw)) clock = W2 := ⟨_, rfl⟩
  rw [hW2] at es
  have m2 : Mp shK W2 bh (putM mh k (.int .i64 nw)) N := (hput (.int .i64 nw)).heap (by rw [← hW2]; have h1 := hm0.lt; have h2 := m1.lt; simp [setM, h1, h2])
  have t2 : Touch [bh] W0 W2 := t1.trans (by rw [← hW2]; exact setM_touch)
  have l0 := hm0.lookS k
  have l1 := m1.lookS k
  have l2 := (show Mp shK W2.drew bh (putM mh k (.int .i64 nw)) N from m2).lookS k
  obtain ⟨W4, hdel, m4, t4, _⟩ := (show Mp shK W2.drew.drew bh (putM mh k (.int .i64 nw)) N from m2).dropG shKey Tryz.underlying70 k
  rw [hv] at l0
  rw [show putM mh k (.int .i64 old) k = some (.int .i64 old) from by simp [putM]] at l1
  rw [show putM mh k (.int .i64 nw) k = some (.int .i64 nw) from by simp [putM]] at l2
  simp only [Option.getD_some] at l1 l2
  rw [show dropM (putM mh k (.int .i64 nw)) k = dropM mh k from by funext k'; unfold dropM putM; by_cases e : k' = k <;> simp [e]] at m4
  rw [hsk] at l0 l1 l2 hen hdel
  simp only [goInt] at hen es
  have HX : Hid (∀ w', Touch [bh] W0 w' → w'.cell? ⟨b, 3, none⟩ = some (.map (some bh)) ∧ w'.cell? ⟨w.heap.size, 0, none⟩ = some (.int .i64 q) ∧ w'.cell? ⟨w.heap.size, 1, none⟩ = some (.int .i64 c)) := Lib.hid (fun w' ht =>
    ⟨((HB.out.touch ht0 (by simp)).touch ht (by simpa using Ne.symm hne)).cell (i := 3) rfl, (bx.touch ht (by simp; omega)).cell (i := 0) rfl, (bx.touch ht (by simp; omega)).cell (i := 1) rfl⟩)
  have HM2 := Lib.hid m2
  have HM4 := Lib.hid m4
  have HT := Lib.hid (And.intro ht0 (And.intro t1 (And.intro t2 t4)))
  clear h hm hm0 bx ht0 hput hstore m1 m2 m4 t1 t2 t4 e1 hW1 hW2 hN hsk hkk hv
  subst hW0
  go_enter Tryz.func67, Tryz.ntmps67
  go_wp2_with fail
  go_region_held_law (fun w' => w'.cell? ⟨b, 3, none⟩ = some (.map (some bh)) ∧ w'.cell? ⟨w.heap.size, 0, none⟩ = some (.int .i64 q) ∧ w'.cell? ⟨w.heap.size, 1, none⟩ = some (.int .i64 c)) (first | exact HX.out _ (Touch.refl _ _) | exact HX.out _ HT.out.2.1 | exact HX.out _ HT.out.2.2.1) (fail)
  all_goals
    have HX2 := Lib.hid (HX.out _ HT.out.2.2.1.drew)
    have HX3 := Lib.hid (HX.out _ HT.out.2.2.1.drew.drew)
    have HX4 := Lib.hid (HX.out _ (HT.out.2.2.1.drew.drew.trans HT.out.2.2.2))
    have HT2 : Hid (Touch [bh] w W2) := Lib.hid ((HT.out.1.mono (by simp)).trans HT.out.2.2.1)
    have HT4 : Hid (Touch [bh] w W4) := Lib.hid ((HT2.out.drew.drew).trans HT.out.2.2.2)
    by_cases hz : nw = 0
    · subst hz
      clear hnw
      have hb4 := HB.out.touch HT4.out (by simpa using Ne.symm hne)
      have c5 := hb4.cell (i := 5) rfl
      have f5 := hb4.free 5
      have HB4 := Lib.hid hb4
      clear hb4
      go_wp2_with fail
      go_region_held_law (fun w' => w'.cell? ⟨b, 3, none⟩ = some (.map (some bh)) ∧ w'.cell? ⟨w.heap.size, 0, none⟩ = some (.int .i64 q) ∧ w'.cell? ⟨w.heap.size, 1, none⟩ = some (.int .i64 c)) (first | exact HX2.out) (fail)
      go_wp2_with fail
      go_region_held_law (fun w' => w'.cell? ⟨b, 3, none⟩ = some (.map (some bh)) ∧ w'.cell? ⟨w.heap.size, 0, none⟩ = some (.int .i64 q) ∧ w'.cell? ⟨w.heap.size, 1, none⟩ = some (.int .i64 c)) (first | exact HX3.out | exact HX4.out) (refine step_delete_run rfl _ _ _ _ rfl _ _ rfl rfl _ _ (hdel _) ?_)
      go_wp2_with fail
      first | go_end0 | trace_state
      exact ⟨rfl, _, by rw [← HMH.out, if_pos trivial]; exact HM4.out.touch ((Touch.refl [b] W4).setCell (p := ⟨b, 5, none⟩) (by simp) _) (by simpa using hne), HB4.out.set 5 (.pointer none), (HT4.out.mono (by simp)).setCell (by simp) _⟩
    · have hz2 : (nw == 0) = false := beqF hz
      have hb4 := HB.out.touch (HT2.out.drew) (by simpa using Ne.symm hne)
      have c5 := hb4.cell (i := 5) rfl
      have f5 := hb4.free 5
      have HB4 := Lib.hid hb4
      clear hb4
      go_wp2_with fail
      go_region_held_law (fun w' => w'.cell? ⟨b, 3, none⟩ = some (.map (some bh)) ∧ w'.cell? ⟨w.heap.size, 0, none⟩ = some (.int .i64 q) ∧ w'.cell? ⟨w.heap.size, 1, none⟩ = some (.int .i64 c)) (first | exact HX2.out) (fail)
      go_wp2_with fail
      first | go_end0 | trace_state
      exact ⟨rfl, _, by rw [← HMH.out, if_neg hz]; exact (show Mp shK W2.drew bh (putM mh k (.int .i64 nw)) N from HM2.out).touch ((Touch.refl [b] W2.drew).setCell (p := ⟨b, 5, none⟩) (by simp) (.pointer none)) (by simpa using hne), HB4.out.set 5 (.pointer none), ((HT2.out.drew.mono (by simp)).setCell (p := ⟨b, 5, none⟩) (by simp) (.pointer none))⟩
end Go.Proofs.YticglfmmjgnicaaGreat

set_option linter.unusedVariables false
namespace Go.Proofs.YticglfmmjgnicaaGreat
open Go Go.RowKit

theorem getD_set (xs : List Int) (c j : Nat) (y : Int) (hc : c < xs.length) : (xs.set c y).getD j 0 = if j = c then y else xs.getD j 0 := by
  rw [List.getD_eq_getElem?_getD, List.getElem?_set]
  by_cases e : j = c
  · subst e; simp [hc]
  · rw [if_neg (Ne.symm e), if_neg e, List.getD_eq_getElem?_getD]
def Am.more (m : Am) (q : Int) (c : Nat) (n : Int) : Am := m.put q ((m.held q).set c ((m.held q).getD c 0 + n))
def HeldP (w : World) (F : List Nat) (b : Nat) (m : Am) (p : PaP) (w' : World) : Prop := ∃ mh nh, Pb w' F b m { p with sv := .pointer none, mh := mh, nh := nh } ∧ Touch [b, p.bh] w w'
theorem hold_any (w : World) (F : List Nat) (b : Nat) (m : Am) (p : PaP) (q : Int) (c : Nat) (n : Int) (h : Pb w F b m p) (hm : m.tot.length ≤ 6) (hq : q ∈ m.ps) (hl : (m.held q).length = m.tot.length) (hi : InI q) (hc : c < m.tot.length) (hs : InI ((m.held q).getD c 0 + n)) :
    Calls Tryz.prog 67 #[.pointer (some ⟨b, 0, none⟩), .int .i64 q, .int .i64 (c : Int), .int .i64 n] w fun e w' => e = .returned (.tuple #[]) ∧ HeldP w F b (m.more q c n) p w' := by
  have hci : InI (c : Int) := by unfold InI; omega
  have hnd := h.nd
  have hne : p.bh ≠ b := by simp [PaP.W] at hnd; exact fun e => hnd.1.2.1 e.symm
  have hbc1 : p.bc ≠ b := by simp [PaP.W] at hnd; exact fun e => hnd.1.1 e.symm
  have hbc2 : p.bc ≠ p.bh := by simp [PaP.W] at hnd; exact hnd.2.1.1
  have hpv : ∀ k, p.pv.ownBlock = some k → k ∉ [b, p.bh] := by
    intro k hk
    simp [PaP.W, hk] at hnd ⊢
    exact ⟨fun e => hnd.1.2.2 e.symm, fun e => hnd.2.2 e.symm⟩
  refine (hold_mem w b p.bh p.nh p.tv (.bool m.clm) (.map (some p.bc)) p.pv p.sv p.mh q c _ n ⟨hi, hci⟩ h.blk h.mh hne (h.hv hq hc ⟨hi, hci⟩) hs).mono ?_
  rintro e w' ⟨rfl, n', h1, h2, ht⟩
  have hw : ∀ k, k ∈ [b, p.bh] → k ∈ F → k ∈ p.W b := fun k h1 _ => by simp at h1; rcases h1 with rfl | rfl <;> simp [PaP.W]
  have hs' : ∀ k, k ∈ F → k ∈ p.W b → k ∈ p.W b := fun k _ hk => hk
  obtain ⟨base, hp⟩ := h.pend
  obtain ⟨mh', hmh⟩ : ∃ mh', (if (m.held q).getD c 0 + n = 0 then dropM p.mh ⟨(q, (c : Int)), hi, hci⟩ else putM p.mh ⟨(q, (c : Int)), hi, hci⟩ (.int .i64 ((m.held q).getD c 0 + n))) = mh' := ⟨_, rfl⟩
  rw [hmh] at h1
  refine ⟨rfl, mh', n', ⟨h2, fun k hk => Nat.lt_of_lt_of_le (h.lt k hk) ht.size, h.fw, h.nd, h.tot.to ht hw (fun k hk => hk) hs', h.mc.touch ht (by simp [hbc1, hbc2]), fun q => ⟨fun hq => ?_, (h.mcv q).2⟩, h1, fun k => ?_, ⟨base, hp.touch ht hpv⟩, fun i hi => (h.pu i hi).to ht hw (fun k hk => hk) hs'⟩, ht⟩
  · obtain ⟨v, h1, h2⟩ := (h.mcv q).1 hq
    exact ⟨v, h1, h2.to ht hw (fun k hk => hk) hs'⟩
  · have h0 := h.mhv k
    obtain ⟨⟨a, d⟩, ha, hd⟩ := k
    obtain ⟨y, hy⟩ : ∃ y, (m.held q).getD c 0 + n = y := ⟨_, rfl⟩
    rw [hy] at hmh
    show mh' ⟨(a, d), ha, hd⟩ = if a ∈ m.ps ∧ 0 ≤ d ∧ d < (m.tot.length : Int) ∧ (updF m.held q ((m.held q).set c ((m.held q).getD c 0 + n)) a).getD d.toNat 0 ≠ 0 then some (Value.int .i64 ((updF m.held q ((m.held q).set c ((m.held q).getD c 0 + n)) a).getD d.toNat 0)) else none
    rw [hy, ← hmh]
    by_cases e : a = q ∧ d = (c : Int)
    · obtain ⟨rfl, rfl⟩ := e
      have e1 : (updF m.held a ((m.held a).set c y) a).getD ((c : Int)).toNat 0 = y := by
        unfold updF
        rw [if_pos rfl, Int.toNat_natCast, getD_set _ _ _ _ (by rw [hl]; exact hc), if_pos rfl]
      rw [e1]
      by_cases hz : y = 0
      · rw [if_pos hz, if_neg (by rintro ⟨_, _, _, h⟩; exact h hz)]
        simp [dropM]
      · rw [if_neg hz, if_pos ⟨hq, by omega, by omega, hz⟩]
        simp [putM]
    · have hk : (⟨(a, d), ha, hd⟩ : KP) ≠ ⟨(q, (c : Int)), hi, hci⟩ := fun h => e (by have := congrArg Subtype.val h; simpa using this)
      have e1 : (if y = 0 then dropM p.mh ⟨(q, (c : Int)), hi, hci⟩ else putM p.mh ⟨(q, (c : Int)), hi, hci⟩ (.int .i64 y)) ⟨(a, d), ha, hd⟩ = p.mh ⟨(a, d), ha, hd⟩ := by
        by_cases hz : y = 0
        · rw [if_pos hz, dropM, if_neg hk]
        · rw [if_neg hz, putM, if_neg hk]
      rw [e1, h0]
      by_cases ha2 : a = q
      · subst ha2
        have hd2 : ¬ d = (c : Int) := fun h => e ⟨rfl, h⟩
        by_cases hd0 : 0 ≤ d
        · rw [show updF m.held a ((m.held a).set c y) a = (m.held a).set c y from by simp [updF], getD_set _ _ _ _ (by rw [hl]; exact hc), if_neg (by omega : ¬ d.toNat = c)]
        · rw [if_neg (by rintro ⟨_, h, _⟩; exact hd0 h), if_neg (by rintro ⟨_, h, _⟩; exact hd0 h)]
      · rw [show updF m.held q ((m.held q).set c y) a = m.held a from by simp [updF, ha2]]
end Go.Proofs.YticglfmmjgnicaaGreat

set_option linter.unusedVariables false
namespace Go.Proofs.YticglfmmjgnicaaGreat
open Go Go.RowKit

/-- The first k numbers turned by f. -/
def moreL (xs : List Int) (f : Nat → Int) (k : Nat) : List Int := (List.range xs.length).map fun i => if i < k then xs.getD i 0 + f i else xs.getD i 0
theorem moreL_length (xs : List Int) (f : Nat → Int) (k : Nat) : (moreL xs f k).length = xs.length := by simp [moreL]
theorem moreL_get (xs : List Int) (f : Nat → Int) (k : Nat) {i : Nat} (hi : i < xs.length) : (moreL xs f k).getD i 0 = if i < k then xs.getD i 0 + f i else xs.getD i 0 := by simp [moreL, hi]
theorem extD {xs ys : List Int} (h : xs.length = ys.length) (h2 : ∀ i, i < xs.length → xs.getD i 0 = ys.getD i 0) : xs = ys := by
  apply List.ext_getElem h
  intro i h3 h4
  have := h2 i h3
  simpa [h3, h4] using this
theorem moreL_zero (xs : List Int) (f : Nat → Int) : moreL xs f 0 = xs := extD (by simp [moreL]) (fun i hi => by
  rw [moreL_length] at hi
  rw [moreL_get _ _ _ hi, if_neg (by omega)])
theorem moreL_step (xs : List Int) (f : Nat → Int) (k : Nat) (hk : k < xs.length) : (moreL xs f k).set k ((moreL xs f k).getD k 0 + f k) = moreL xs f (k + 1) :=
  extD (by simp [moreL]) (fun i hi => by
    rw [List.length_set, moreL_length] at hi
    rw [getD_set _ _ _ _ (by rw [moreL_length]; exact hk), moreL_get _ _ _ hi, moreL_get _ _ _ hi, moreL_get _ _ _ hk]
    by_cases e : i = k
    · subst e
      rw [if_pos rfl, if_neg (by omega), if_pos (by omega)]
    · rw [if_neg e]
      by_cases e2 : i < k
      · rw [if_pos e2, if_pos (by omega)]
      · rw [if_neg e2, if_neg (by omega)])
theorem moreL_add (xs u : List Int) (hl : u.length = xs.length) : moreL xs (fun i => u.getD i 0) xs.length = addW xs u :=
  extD (by simp [moreL, addW]) (fun i hi => by
    rw [moreL_length] at hi
    rw [moreL_get _ _ _ hi, if_pos hi, addW_get _ _ _ hi])
theorem moreL_sub (xs u : List Int) (hl : u.length = xs.length) : moreL xs (fun i => - u.getD i 0) xs.length = subW xs u :=
  extD (by simp [moreL, subW]) (fun i hi => by
    rw [moreL_length] at hi
    rw [moreL_get _ _ _ hi, if_pos hi, subW_get _ _ _ hi]
    omega)
/-- The allocator while the loop goes. -/
def Am.moreK (m : Am) (q : Int) (f : Nat → Int) (k : Nat) : Am := m.put q (moreL (m.held q) f k)
theorem put_self (m : Am) (q : Int) : m.put q (m.held q) = m := by
  unfold Am.put
  rw [show updF m.held q (m.held q) = m.held from by funext a; unfold updF; by_cases e : a = q <;> simp [e]]
theorem put_put (m : Am) (q : Int) (v v' : List Int) : (m.put q v).put q v' = m.put q v' := by
  unfold Am.put
  rw [show updF (updF m.held q v) q v' = updF m.held q v' from by funext a; unfold updF; by_cases e : a = q <;> simp [e]]
theorem put_held (m : Am) (q : Int) (v : List Int) : (m.put q v).held q = v := by simp [Am.put, updF]
theorem moreK_zero (m : Am) (q : Int) (f : Nat → Int) : m.moreK q f 0 = m := by rw [Am.moreK, moreL_zero, put_self]
theorem moreK_step (m : Am) (q : Int) (f : Nat → Int) (k : Nat) (hk : k < (m.held q).length) : (m.moreK q f k).more q k (f k) = m.moreK q f (k + 1) := by
  unfold Am.more Am.moreK
  rw [put_put, put_held, moreL_step _ _ _ hk]
theorem moreK_give (m : Am) (q : Int) (u : List Int) (hl : u.length = (m.held q).length) : m.moreK q (fun i => u.getD i 0) (m.held q).length = m.give q u := by rw [Am.moreK, moreL_add _ _ hl, Am.give]
theorem moreK_back (m : Am) (q : Int) (u : List Int) (hl : u.length = (m.held q).length) : m.moreK q (fun i => - u.getD i 0) (m.held q).length = m.back q u := by rw [Am.moreK, moreL_sub _ _ hl, Am.back]
/-- One round of the loop, in memory. -/
def LoopP (w : World) (F : List Nat) (b : Nat) (m : Am) (p : PaP) (wr : World) : Prop := ∃ sv mh nh, Pa wr F b m { p with sv := sv, mh := mh, nh := nh } ∧ Touch [b, p.bh] w wr
theorem holdK (W wr : World) (F : List Nat) (b : Nat) (m : Am) (p : PaP) (q : Int) (f : Nat → Int) (k : Nat) (h : LoopP W F b (m.moreK q f k) p wr) (hm : m.tot.length ≤ 6) (hq : q ∈ m.ps) (hl : (m.held q).length = m.tot.length) (hi : InI q) (hk : k < m.tot.length) (hs : InI ((m.held q).getD k 0 + f k)) :
    Calls Tryz.prog 67 #[.pointer (some ⟨b, 0, none⟩), .int .i64 q, .int .i64 (k : Int), .int .i64 (f k)] wr fun e w' => e = .returned (.tuple #[]) ∧ LoopP W F b (m.moreK q f (k + 1)) p w' := by
  obtain ⟨sv, mh, nh, hp, ht⟩ := h
  refine (hold_any wr F b (m.moreK q f k) _ q k (f k) hp.toPb hm hq (by rw [Am.moreK, put_held, moreL_length]; exact hl) hi hk (by rw [Am.moreK, put_held, moreL_get _ _ _ (by rw [hl]; exact hk), if_neg (by omega)]; exact hs)).mono ?_
  rintro e w' ⟨rfl, mh', nh', h1, h2⟩
  rw [moreK_step _ _ _ _ (by rw [hl]; exact hk)] at h1
  exact ⟨rfl, .pointer none, mh', nh', ⟨h1, .inl rfl⟩, ht.trans h2⟩
end Go.Proofs.YticglfmmjgnicaaGreat

set_option linter.unusedVariables false
namespace Go.Proofs.YticglfmmjgnicaaGreat
open Go Go.RowKit

theorem Qu.src {w : World} {base : Nat} {e : TypeId} {v : Value} {us : List Value} {T e' : TypeId} (hk : Tryz.prog.underlying T = some (.slice e')) (h : Qu w base e v us) (h1 : ∀ u ∈ us, u.oneCell' = true) : Src Tryz.prog 1 T v us.length us w := by
  rcases h with ⟨rfl, rfl⟩ | ⟨g, off, cap, cur, rfl, hb, hg, hle, hmax, hsz, hcells⟩
  · exact Src.ofNil w hk 0
  · refine Src.ofSlice w hk ⟨g, off, none⟩ _ _ us (by simp) (fun j u hj => ?_) h1
    have hjl : j < us.length := by
      rcases Nat.lt_or_ge j us.length with h | h
      · exact h
      · rw [List.getElem?_eq_none h] at hj; cases hj
    show w.cell? ((⟨g, off, none⟩ : Addr).add j) = _
    have hc : w.cell? ⟨g, off + j, none⟩ = some u := hg.cell (by rw [hcells j hjl]; exact hj)
    by_cases h0 : j = 0
    · subst h0; simpa [Addr.add] using hc
    · simpa [Addr.add, h0] using hc
theorem Qu.ones {w : World} {l : List (List Int)} {vs : List Value} (h2 : vs.length = l.length) (h : ∀ i, i < l.length → Sl w (vs.getD i (.slice none 0 0)) (rw_ l i)) : ∀ u ∈ vs, u.oneCell' = true := fun u hu => by
  obtain ⟨i, hi, rfl⟩ := List.getElem_of_mem hu
  have := h i (by omega)
  rw [List.getD_eq_getElem?_getD, List.getElem?_eq_getElem hi] at this
  obtain ⟨a, c, e, _⟩ := this
  have e : vs[i] = _ := e
  rw [e]; rfl
set_option maxHeartbeats 2000000 in
theorem clone_rows (v : Value) (vs : List Value) (base : Nat) (w : World) (h : Qu w base 22 v vs) (h1 : ∀ u ∈ vs, u.oneCell' = true) (hl : vs.length ≤ 1000) :
    Calls Tryz.prog 105 #[v] w fun e w' => ∃ v', e = .returned v' ∧ Qu w' w.heap.size 22 v' vs ∧ Touch [] w w' := by
  have HS := Lib.hid (h.src Tryz.underlying45 h1)
  have HS2 := Lib.hid ((h.alloc (.cells #[] 22)).src Tryz.underlying45 h1)
  have HQ := Lib.hid (Qu.made (w := w) (base := w.heap.size) (e := 22) (b := w.heap.size) (n := 0) (c := #[]) rfl (Nat.le_refl _) rfl (Nat.zero_le _))
  have hq : ∀ (w : World) (a : Option Addr) (n c n' c' : Nat), (binOp .eql 45 (.slice a n c) (.slice none n' c')).run Tryz.prog w = .ok (.bool a.isNone) w := fun w a n c n' c' => Lib.run_eql_slice_nil w _ _ a n c n' c' Tryz.underlying45
  rcases h with ⟨rfl, rfl⟩ | ⟨g, off, cap, cur, rfl, hb, hg, r1, r2, r3, r4⟩
  · clear HQ HS HS2
    go_enter Tryz.func105, Tryz.ntmps105
    go_wp2
    go_ret
    exact ⟨_, rfl, Qu.nil _ _ _, Touch.refl _ _⟩
  · obtain ⟨i0, hi, hz0, hz1, hz2⟩ := info_parts (show (Tryz.prog.info? 22).map (fun i => (i.zero, i.size, i.bytes)) = some (some (.slice none 0 0), 1, 24) from by kernel_rfl)
    obtain ⟨v', w', hr, hq', hg', hn⟩ := Qu.appendL (t := 45) (tx := 45) (xs := []) Tryz.underlying45 hi hz0 hz1 hz2 rfl HQ.out (by simp) (.slice (some ⟨g, off, none⟩) vs.length cap) vs HS2.out (by simp; omega) (by simp; omega)
    have HQ' : Hid (Qu w' w.heap.size 22 v' vs) := Lib.hid (by simpa using hq')
    have HG : Hid (Touch [] w w') := Lib.hid (((Touch.refl _ w).alloc _).grown hg' (fun k hk hlt => by simp [Value.ownBlock] at hk; omega))
    clear hq' hg' hn HQ hg r1 r2 r3 r4 hi hz0 hz1 hz2
    go_enter Tryz.func105, Tryz.ntmps105
    go_wp2_with (at_builtin; refine Lib.wpList_append_run _ rfl _ _ _ _ rfl _ _ rfl rfl _ _ (hr _) ?_)
    go_ret
    exact ⟨_, rfl, HQ'.out, HG.out⟩
end Go.Proofs.YticglfmmjgnicaaGreat

set_option linter.unusedVariables false
namespace Go.Proofs.YticglfmmjgnicaaGreat
open Go Go.RowKit

theorem Qu.setV {w : World} {base : Nat} {t : TypeId} {v : Value} {vs : List Value} (h : Qu w base t v vs) (p : Nat) (hp : p < vs.length) : ∃ g off c, v = .slice (some ⟨g, off, none⟩) vs.length c ∧ base ≤ g ∧ g < w.heap.size ∧ (∀ k, w.frozen? ⟨g, k, none⟩ = false) ∧ w.cell? ⟨g, off + p, none⟩ = some (vs.getD p (.slice none 0 0)) ∧
    ∀ x, Qu (w.setCell ⟨g, off + p, none⟩ x) base t v (vs.set p x) := by
  rcases h with ⟨_, h⟩ | ⟨g, off, c, cur, rfl, hb, hg, h1, h2, h3, h4⟩
  · subst h; simp at hp
  · refine ⟨g, off, c, rfl, hb, hg.lt, fun k => hg.free k, hg.cell (by rw [h4 p hp]; simp [hp]), fun x => .inr ⟨g, off, c, _, by simp, hb, hg.set _ _, by simpa using h1, h2, by simpa using h3, fun j hj => ?_⟩⟩
    have hj : j < vs.length := by simpa using hj
    rw [Array.getElem?_setIfInBounds]
    by_cases e : p = j
    · subst e
      have : off + p < cur.size := by omega
      simp [this, hp]
    · rw [if_neg (by omega), h4 j hj]
      simp [hj, List.getElem_set_ne e]
end Go.Proofs.YticglfmmjgnicaaGreat

set_option linter.unusedVariables false
namespace Go.Proofs.YticglfmmjgnicaaGreat
open Go Go.RowKit

theorem Rd.before {w wb w' : World} {F : List Nat} {b : Nat} {m : Am} {p : PaP} {F' : List Nat} (hl : ∀ k, k ∈ F → k < w.heap.size) (t : Touch [] w wb) (h : Rd wb F b m p F' w') : Rd w F b m p F' w' := by
  obtain ⟨sv, h1, h2, h3⟩ := h
  exact ⟨sv, (Fr.same t hl).trans h1, (t.mono (by simp)).trans h2, h3⟩
theorem grant_sum {m : Am} (ok : m.Ok) {q : Int} (hq : q ∈ m.ps) {u : List Int} (hu : isB u m.tot.length = true) (hf : fitsB u m.avl = true) : mergeL true (m.held q) u = some (addW (m.held q) u) := by
  have h1 := (isB_iff.1 hu).1
  refine mergeL_add (n := m.tot.length) (isB_iff.2 ⟨ok.hl q hq, fun k hk => ?_⟩) hu (fun k hk => ?_)
  · have := ok.le hq hk; have := ok.al hk; have := ok.tb k hk; omega
  · have := ok.le hq hk; have := ok.tb k hk
    have h2 : u.getD k 0 ≤ m.avl.getD k 0 := (fitsB_is hf).2 k (by rw [h1]; exact hk)
    omega
theorem gr_rows {m : Am} {q : Int} {u : List Int} {k : Nat} (hk : k < m.ps.length) (hkq : m.ps.getD k 0 = q) (huq : ∀ j, j < m.ps.length → m.ps.getD j 0 = q → j = k) {w2 w6 : World} {base : Nat} {v x : Value} {vs : List Value} (h : Qu w6 base 22 v (vs.set k x)) (hl : vs.length = m.ps.length)
    (hr : ∀ i, i < m.hs.length → Sl w2 (vs.getD i (.slice none 0 0)) (rw_ m.hs i)) (ht : Touch [] w2 w6) (hx : Sl w6 x (addW (m.held q) u)) : Rws w6 v (m.give q u).hs := by
  have hlen : (m.give q u).hs.length = m.ps.length := by simp [Am.give, Am.put, Am.hs]
  refine h.rws (by rw [hlen, List.length_set, hl]) (fun i hi => ?_)
  rw [hlen] at hi
  have hrow : rw_ (m.give q u).hs i = updF m.held q (addW (m.held q) u) (m.ps.getD i 0) := by simp [rw_, Am.give, Am.put, Am.hs, hi]
  rw [hrow]
  by_cases e : i = k
  · subst e
    rw [hkq, updF_at, show (vs.set i x).getD i (.slice none 0 0) = x from by simp [hl, hi]]
    exact hx
  · rw [updF_ne _ _ (fun h => e (huq i hi h)), show (vs.set k x).getD i (.slice none 0 0) = vs.getD i (.slice none 0 0) from by rw [List.getD_eq_getElem?_getD, List.getD_eq_getElem?_getD, List.getElem?_set_ne (Ne.symm e)]]
    have h2 := (hr i (by simpa [Am.hs] using hi)).touch ht (fun _ _ => by simp)
    rw [show rw_ m.hs i = m.held (m.ps.getD i 0) from by simp [rw_, Am.hs, hi]] at h2
    exact h2
set_option maxRecDepth 100000 in
set_option maxHeartbeats 16000000 in
theorem grant_any (w : World) (F : List Nat) (b : Nat) (m : Am) (p : PaP) (q : Int) (u : List Int) (ua : Option Addr) (uc : Nat) (first : Bool) (h : Pa w F b m p) (ok : m.Ok) (hq : q ∈ m.ps) (hu : Sl w (.slice ua u.length uc) u) (hb : isB u m.tot.length = true) (hub : ∀ k, (Value.slice ua u.length uc).ownBlock = some k → k ≠ b) :
    Calls Tryz.prog 91 #[.pointer (some ⟨b, 0, none⟩), .agg #[.int .i64 q, .slice ua u.length uc], .bool first] w fun e w' => e = .returned (.bool (m.grant (q, u) first)) ∧ ∃ F', Rd w F b m p F' w' := by
  have hbF : b ∈ F := h.fw b (by simp [PaP.W])
  have HF := Lib.hid (And.intro h.lt hbF)
  obtain ⟨NU, hNU⟩ : ∃ N, u.length = N := ⟨_, rfl⟩
  rw [hNU] at hu hub ⊢
  have tb : Touch [] w (w.alloc (.cells #[.int .i64 q, .slice ua NU uc] 58)) := (Touch.refl [] w).alloc _
  have HL := Lib.hid (look_any _ F b m p (h.same tb) ok)
  have bx : Blk (w.alloc (.cells #[.int .i64 q, .slice ua NU uc] 58)) w.heap.size #[.int .i64 q, .slice ua NU uc] 58 := Blk.new rfl
  have HBX := Lib.hid bx
  have HTB := Lib.hid tb
  have HU := Lib.hid hu
  have HOK := Lib.hid ok
  have HB := Lib.hid hb
  have HQ := Lib.hid hq
  have hbw : b < w.heap.size := h.blk.lt
  have HNU := Lib.hid hNU
  clear h ok hbF tb bx hu hb hq hNU
  go_enter Tryz.func91, Tryz.ntmps91
  go_wp2_with fail
  refine HL.out.mono ?_
  rintro e w1 ⟨s, pv, av, hv, cv, rfl, t, hpa, hst⟩
  obtain ⟨x, hx⟩ := hst.obj
  obtain ⟨n, hn⟩ : ∃ n, m.tot.length = n := ⟨_, rfl⟩
  have HN := Lib.hid hn
  have hn6 : n ≤ 6 := by rw [← hn]; exact HOK.out.nt
  obtain ⟨aa, ac, hav⟩ := hst.av.1.form
  rw [Am.avl_length, hn] at hav
  obtain ⟨N, hN⟩ : ∃ N, m.ps.length = N := ⟨_, rfl⟩
  have HNL := Lib.hid hN
  have hN32 : N ≤ 32 := by rw [← hN]; exact HOK.out.few
  obtain ⟨pa, pc, hpv⟩ := hst.ps.1.form
  obtain ⟨ha, hc, hhv⟩ := hst.hs.rws.form
  rw [hN] at hpv
  rw [show m.hs.length = N from by rw [Am.hs, List.length_map]; exact hN] at hhv
  have HX : Hid (∀ w', Touch [] w1 w' → (w'.cell? ⟨s, 4, none⟩ = some (.slice aa n ac) ∧ w'.cell? ⟨w.heap.size, 1, none⟩ = some (.slice ua NU uc)) ∧ w'.cell? ⟨s, 3, none⟩ = some (.slice pa N pc) ∧ w'.cell? ⟨s, 5, none⟩ = some (.slice ha N hc) ∧ w'.cell? ⟨s, 6, none⟩ = some cv ∧ w'.cell? ⟨w.heap.size, 0, none⟩ = some (.int .i64 q) ∧ w'.cell? ⟨b, 1, none⟩ = some (.bool m.clm)) := Lib.hid (fun w' h => by
    have hx' := hx.touch h (by simp)
    have hb' := (HBX.out.touch t (by simp; omega)).touch h (by simp)
    exact ⟨⟨by rw [← hav]; exact hx'.cell (i := 4) rfl, hb'.cell (i := 1) rfl⟩, by rw [← hpv]; exact hx'.cell (i := 3) rfl, by rw [← hhv]; exact hx'.cell (i := 5) rfl, hx'.cell (i := 6) rfl, hb'.cell (i := 0) rfl, (hpa.blk.touch h (by simp)).cell (i := 1) rfl⟩)
  have hsl1 : Sl (World.drew w1) (.slice aa n ac) m.avl := (by rw [← hav]; exact hst.av.1 : Sl w1 (.slice aa n ac) m.avl).touch ((Touch.refl [] w1).drew) (fun _ _ => by simp)
  have hsl2 : Sl (World.drew w1) (.slice ua NU uc) u := ((HU.out.touch HTB.out (fun _ _ => by simp)).touch t (fun k hk => by simpa using hub k hk)).touch ((Touch.refl [] w1).drew) (fun _ _ => by simp)
  have HSL2 : Hid (Sl w1 (.slice ua NU uc) u) := Lib.hid ((HU.out.touch HTB.out (fun _ _ => by simp)).touch t (fun k hk => by simpa using hub k hk))
  have HLS := Lib.hid (less_q _ _ m.avl u _ hsl1 hsl2 (by rw [Am.avl_length, HN.out]; omega) (by have := (isB_iff.1 HB.out).1; omega))
  have HS := Lib.hid hst
  have HPV := Lib.hid hpv
  have HHV := Lib.hid hhv
  have HP := Lib.hid (And.intro t hpa)
  clear hst hx t hpa HL hav hn hsl1 hsl2 hub hpv hhv hN
  go_wp2_with fail
  go_region_held_law (fun w' => w'.cell? ⟨s, 4, none⟩ = some (.slice aa n ac) ∧ w'.cell? ⟨w.heap.size, 1, none⟩ = some (.slice ua NU uc)) (first | exact (HX.out _ ((Touch.refl _ _).drew)).1 | exact (HX.out _ HT2.out).1)
    ((go_simp; go_at_call 99; refine HLS.out.mono ?_; rintro e w2 ⟨la, lc, rfl, hql, htl⟩
      have HT2 := Lib.hid (((Touch.refl [] w1).drew).trans htl)
      have HQL := Lib.hid hql
      clear hql htl))
  have HC := Lib.hid (HX.out _ HT2.out).2
  have HR := Lib.hid (Rd.before HF.out.1 HTB.out (Rd.of (fun k hk => Nat.lt_of_lt_of_le (HF.out.1 k hk) HTB.out.size) HF.out.2 HP.out.1 HP.out.2 HT2.out))
  have c1 := HC.out.2.2.2.2
  by_cases hf : fitsB u m.avl = true
  · have hmg : mergeL false m.avl u = some (subW m.avl u) := by rw [mergeL_sub HOK.out.avB HB.out, if_pos hf]
    rw [hmg] at HQL ⊢
    simp only [Option.isSome_some, Option.getD_some] at HQL ⊢
    by_cases hcl : m.clm = true
    · have HCL := Lib.hid hcl
      rw [hcl] at c1
      have HFT := Lib.hid hf
      clear hf hcl hmg
      obtain ⟨at_, hat, hat2, hno, huq⟩ := place_of HOK.out.rise HQ.out
      have hatk : at_ < N := by rw [← HNL.out]; exact hat
      have HIX := Lib.hid (idx_any (.slice pa N pc) m.ps q at_ (World.drew w2) ((by rw [← HPV.out]; exact HS.out.ps.1 : Sl w1 (.slice pa N pc) m.ps).touch HT2.out.drew (fun _ _ => by simp)) (by rw [HNL.out]; omega) hat hat2 hno)
      have HX5 : Hid (w2.drew.cell? ⟨s, 3, none⟩ = some (.slice pa N pc) ∧ w2.drew.cell? ⟨w.heap.size, 0, none⟩ = some (.int .i64 q)) := Lib.hid ⟨(HX.out _ HT2.out.drew).2.1, (HX.out _ HT2.out.drew).2.2.2.2.1⟩
      have HAT := Lib.hid (And.intro hat2 huq)
      clear hat hat2 hno huq
      go_wp2_with fail
      go_region_held_law (fun w' => w'.cell? ⟨s, 3, none⟩ = some (.slice pa N pc) ∧ w'.cell? ⟨w.heap.size, 0, none⟩ = some (.int .i64 q)) (exact HX5.out)
        ((go_simp; go_at_call 54; refine HIX.out.mono ?_; rintro e w3 ⟨rfl, rfl⟩))
      have HX6 := Lib.hid (HX.out _ HT2.out.drew)
      have c5 := HX6.out.2.2.1
      have hrow : ∃ gh oh, ha = some ⟨gh, oh, none⟩ ∧ ∃ va vl vc, w2.drew.cell? ⟨gh, oh + at_, none⟩ = some (.slice va vl vc) ∧ vl = (m.held q).length ∧ Sl w2.drew (.slice va vl vc) (m.held q) := by
        have hlen : m.hs.length = N := by rw [Am.hs, List.length_map]; exact HNL.out
        have hrw : rw_ m.hs at_ = m.held q := by
          have : at_ < m.ps.length := by rw [HNL.out]; exact hatk
          rw [← HAT.out.1]
          simp [rw_, Am.hs, this]
        obtain ⟨gh, oh, e, ra, rc, h1, h2⟩ := (by rw [← HHV.out]; exact HS.out.hs.rws : Rws w1 (.slice ha N hc) m.hs).at (i := at_) (by rw [hlen]; exact hatk)
        rw [hrw] at h1 h2
        exact ⟨gh, oh, e, ra, _, rc, h2 _ HT2.out.drew, rfl, h1.touch HT2.out.drew (fun _ _ => by simp)⟩
      obtain ⟨gh, oh, rfl, va, vl, vc, crow, hvl, hrs⟩ := hrow
      obtain ⟨nb, hnb⟩ : ∃ nb, noneB (m.held q) = nb := ⟨_, rfl⟩
      have HNQ := Lib.hid (none_q (.slice va vl vc) (m.held q) nb _ hrs (by rw [HOK.out.hl q HQ.out, HN.out]; omega) hnb)
      have HNB := Lib.hid hnb
      have HRS := Lib.hid hrs
      clear hvl hrs hnb
      have HCR : Hid (∃ vs : List Value, vs.length = N ∧ (∀ i, i < m.hs.length → Sl w2.drew (vs.getD i (.slice none 0 0)) (rw_ m.hs i)) ∧ vs.getD at_ (.slice none 0 0) = .slice va vl vc ∧ Calls Tryz.prog 105 #[.slice (some ⟨gh, oh, none⟩) N hc] w2.drew fun e w' => ∃ v', e = .returned v' ∧ Qu w' w2.drew.heap.size 22 v' vs ∧ Touch [] w2.drew w') := Lib.hid (by
        have hlen : m.hs.length = N := by rw [Am.hs, List.length_map]; exact HNL.out
        obtain ⟨vs, l1, own, ⟨base, hqv⟩, hr⟩ := HS.out.hs
        rw [HHV.out] at hqv
        have hqv2 := hqv.touch HT2.out.drew (fun _ _ => by simp)
        have hr2 : ∀ i, i < m.hs.length → Sl w2.drew (vs.getD i (.slice none 0 0)) (rw_ m.hs i) := fun i hi => (hr i hi).1.touch HT2.out.drew (fun _ _ => by simp)
        have hc1 : w2.drew.cell? ⟨gh, oh + at_, none⟩ = some (vs.getD at_ (.slice none 0 0)) := by
          obtain ⟨g', o', c', e', _, _, _, hc', _⟩ := hqv2.setV at_ (by rw [l1, hlen]; exact hatk)
          cases e'
          exact hc'
        rw [crow] at hc1
        exact ⟨vs, l1.trans hlen, hr2, (Option.some.inj hc1).symm, clone_rows _ vs base _ hqv2 (Qu.ones l1 hr2) (by rw [l1, hlen]; omega)⟩)
      obtain ⟨vs, hvs1, hvs2, hvs3, hvs4⟩ := HCR.out
      have HVS := Lib.hid (And.intro hvs1 (And.intro hvs2 hvs3))
      have HCR4 := Lib.hid hvs4
      clear hvs1 hvs2 hvs3 hvs4 HCR
      cases first with
      | false =>
        go_wp2_with fail
        refine HNQ.out.mono ?_
        rintro e w9 ⟨rfl, rfl⟩
        cases nb with
        | true =>
          have HG : Hid (m.grant (q, u) false = false) := Lib.hid (by simp [Am.grant, HFT.out, HCL.out, HNB.out])
          have HRF := Lib.hid (Rd.before HF.out.1 HTB.out (Rd.of (fun k hk => Nat.lt_of_lt_of_le (HF.out.1 k hk) HTB.out.size) HF.out.2 HP.out.1 HP.out.2 HT2.out.drew))
          go_wp2_with fail
          go_ret
          exact ⟨by rw [HG.out]; rfl, _, HRF.out⟩
        | false =>
          go_wp2_with fail
          refine HCR4.out.mono ?_
          rintro e w4 ⟨hv4, rfl, hq4, ht4⟩
          have HQ4 := Lib.hid hq4
          have HT24 : Hid (Touch [] w2.drew w4.drew) := Lib.hid ht4.drew
          have HT4 : Hid (Touch [] w1 w4) := Lib.hid (HT2.out.drew.trans ht4)
          obtain ⟨g4, o4, c4, rfl, hg4, hgl4, hf4, hcell4, _⟩ := hq4.setV at_ (by rw [HVS.out.1]; exact hatk)
          rw [HVS.out.2.2] at hcell4
          rw [HVS.out.1] at HQ4 ⊢
          clear hq4 ht4
          have q1 : w4.drew.cell? ⟨g4, o4 + at_, none⟩ = some (.slice va vl vc) := hcell4
          have q2 : w4.drew.cell? ⟨w.heap.size, 1, none⟩ = some (.slice ua NU uc) := (HX.out _ HT4.out.drew).1.2
          have hmp : mergeL true (m.held q) u = some (addW (m.held q) u) := grant_sum HOK.out HQ.out HB.out HFT.out
          have hsu : Sl w4.drew (.slice ua NU uc) u := HSL2.out.touch (HT4.out.drew) (fun _ _ => by simp)
          have HPQ := Lib.hid (plus_q (.slice va vl vc) (.slice ua NU uc) (m.held q) u w4.drew (HRS.out.touch HT24.out (fun _ _ => by simp)) hsu (by rw [HOK.out.hl q HQ.out, HN.out]; omega) (by have := (isB_iff.1 HB.out).1; have := HN.out; omega))
          rw [hmp] at HPQ
          have hatN : (at_ : Int) < (N : Int) := by omega
          clear hmp hsu hcell4
          go_wp2_with fail
          go_region_law ((go_simp; go_at_call 90; refine HPQ.out.mono ?_; rintro e w5 ⟨ha5, hc5, rfl, hq5, ht5⟩
                          have HT5 := Lib.hid (HT4.out.drew.trans ht5)
                          have HT25 : Hid (Touch [] w2.drew w5) := Lib.hid (HT24.out.trans ht5)
                          have HQ5 := Lib.hid hq5
                          have q3 := HQ4.out.touch ((Touch.refl [] w4).drew.trans ht5) (fun _ _ => by simp)
                          obtain ⟨g', o', c', e', _, _, hf5, q4, hset⟩ := q3.setV at_ (by rw [HVS.out.1]; exact hatk)
                          cases e'
                          have q5 := hf5 (o4 + at_)
                          have HSET := Lib.hid hset
                          clear q3 hset hq5 ht5 hf5))
          all_goals
            have h6 : Qu (w5.setCell ⟨g4, o4 + at_, none⟩ (.slice ha5 (addW (m.held q) u).length hc5)) w2.drew.heap.size 22 _ _ := HSET.out (.slice ha5 (addW (m.held q) u).length hc5)
            have t6 : Touch [] w2.drew (w5.setCell ⟨g4, o4 + at_, none⟩ (.slice ha5 (addW (m.held q) u).length hc5)) := HT25.out.setNew hg4 _
            have t16 : Touch [] w1 (w5.setCell ⟨g4, o4 + at_, none⟩ (.slice ha5 (addW (m.held q) u).length hc5)) := HT2.out.drew.trans t6
            have hx6 : Sl (w5.setCell ⟨g4, o4 + at_, none⟩ (.slice ha5 (addW (m.held q) u).length hc5)) (.slice ha5 (addW (m.held q) u).length hc5) (addW (m.held q) u) := (show Qu w5 w4.drew.heap.size 3 (.slice ha5 (addW (m.held q) u).length hc5) ((addW (m.held q) u).map (Value.int .i64)) from HQ5.out).sl.touch ((Touch.refl [g4] w5).setCell (by simp) _) (fun k hk hm => by
              have h1 := (HQ5.out.own k hk).1
              have h2 : w4.drew.heap.size = w4.heap.size := rfl
              simp at hm
              omega)
            obtain ⟨w6, hw6⟩ : ∃ w6, w5.setCell ⟨g4, o4 + at_, none⟩ (.slice ha5 (addW (m.held q) u).length hc5) = w6 := ⟨_, rfl⟩
            rw [hw6] at h6 t6 t16 hx6
            have HSF := Lib.hid (safe_any (.slice la (subW m.avl u).length lc) (.slice (some ⟨g4, o4, none⟩) vs.length c4) cv (subW m.avl u) (m.give q u).hs m.cs _ w6 ((HQL.out.sl.touch ((Touch.refl [] w2).drew) (fun _ _ => by simp)).touch t6 (fun _ _ => by simp))
              (gr_rows (by rw [HNL.out]; exact hatk) HAT.out.1 HAT.out.2 h6 HNL.out.symm HVS.out.2.1 t6 hx6) (HS.out.cs.to t16 (by simp) (fun k hk => hk) (fun k _ hk => hk)).rws rfl)
            have c6 : w6.cell? ⟨s, 6, none⟩ = some cv := (HX.out _ t16).2.2.2.1
            have HT6 := Lib.hid t16
            have HW6 := Lib.hid hw6
            clear h6 t6 t16 hx6 q4 q5
            have hw6 := HW6.out
            rw [hw6]
            clear hw6
            go_wp2_with fail
            refine HSF.out.mono ?_
            rintro e w7 ⟨rfl, t7⟩
            have HRF := Lib.hid (Rd.before HF.out.1 HTB.out (Rd.of (fun k hk => Nat.lt_of_lt_of_le (HF.out.1 k hk) HTB.out.size) HF.out.2 HP.out.1 HP.out.2 (HT6.out.trans t7)))
            have HG : Hid (m.grant (q, u) false = (ordR (subW m.avl u) (m.give q u).hs m.cs).isSome) := Lib.hid (by simp [Am.grant, HFT.out, HCL.out, HNB.out])
            clear t7 c6
            go_wp2_with fail
            go_ret
            exact ⟨by (rw [HG.out]) <;> rfl, _, HRF.out⟩
      | true =>
        go_wp2_with fail
        refine HCR4.out.mono ?_
        rintro e w4 ⟨hv4, rfl, hq4, ht4⟩
        have HQ4 := Lib.hid hq4
        have HT24 : Hid (Touch [] w2.drew w4.drew) := Lib.hid ht4.drew
        have HT4 : Hid (Touch [] w1 w4) := Lib.hid (HT2.out.drew.trans ht4)
        obtain ⟨g4, o4, c4, rfl, hg4, hgl4, hf4, hcell4, _⟩ := hq4.setV at_ (by rw [HVS.out.1]; exact hatk)
        rw [HVS.out.2.2] at hcell4
        rw [HVS.out.1] at HQ4 ⊢
        clear hq4 ht4
        have q1 : w4.drew.cell? ⟨g4, o4 + at_, none⟩ = some (.slice va vl vc) := hcell4
        have q2 : w4.drew.cell? ⟨w.heap.size, 1, none⟩ = some (.slice ua NU uc) := (HX.out _ HT4.out.drew).1.2
        have hmp : mergeL true (m.held q) u = some (addW (m.held q) u) := grant_sum HOK.out HQ.out HB.out HFT.out
        have hsu : Sl w4.drew (.slice ua NU uc) u := HSL2.out.touch (HT4.out.drew) (fun _ _ => by simp)
        have HPQ := Lib.hid (plus_q (.slice va vl vc) (.slice ua NU uc) (m.held q) u w4.drew (HRS.out.touch HT24.out (fun _ _ => by simp)) hsu (by rw [HOK.out.hl q HQ.out, HN.out]; omega) (by have := (isB_iff.1 HB.out).1; have := HN.out; omega))
        rw [hmp] at HPQ
        have hatN : (at_ : Int) < (N : Int) := by omega
        clear hmp hsu hcell4
        go_wp2_with fail
        go_region_law ((go_simp; go_at_call 90; refine HPQ.out.mono ?_; rintro e w5 ⟨ha5, hc5, rfl, hq5, ht5⟩
                        have HT5 := Lib.hid (HT4.out.drew.trans ht5)
                        have HT25 : Hid (Touch [] w2.drew w5) := Lib.hid (HT24.out.trans ht5)
                        have HQ5 := Lib.hid hq5
                        have q3 := HQ4.out.touch ((Touch.refl [] w4).drew.trans ht5) (fun _ _ => by simp)
                        obtain ⟨g', o', c', e', _, _, hf5, q4, hset⟩ := q3.setV at_ (by rw [HVS.out.1]; exact hatk)
                        cases e'
                        have q5 := hf5 (o4 + at_)
                        have HSET := Lib.hid hset
                        clear q3 hset hq5 ht5 hf5))
        all_goals
          have h6 : Qu (w5.setCell ⟨g4, o4 + at_, none⟩ (.slice ha5 (addW (m.held q) u).length hc5)) w2.drew.heap.size 22 _ _ := HSET.out (.slice ha5 (addW (m.held q) u).length hc5)
          have t6 : Touch [] w2.drew (w5.setCell ⟨g4, o4 + at_, none⟩ (.slice ha5 (addW (m.held q) u).length hc5)) := HT25.out.setNew hg4 _
          have t16 : Touch [] w1 (w5.setCell ⟨g4, o4 + at_, none⟩ (.slice ha5 (addW (m.held q) u).length hc5)) := HT2.out.drew.trans t6
          have hx6 : Sl (w5.setCell ⟨g4, o4 + at_, none⟩ (.slice ha5 (addW (m.held q) u).length hc5)) (.slice ha5 (addW (m.held q) u).length hc5) (addW (m.held q) u) := (show Qu w5 w4.drew.heap.size 3 (.slice ha5 (addW (m.held q) u).length hc5) ((addW (m.held q) u).map (Value.int .i64)) from HQ5.out).sl.touch ((Touch.refl [g4] w5).setCell (by simp) _) (fun k hk hm => by
            have h1 := (HQ5.out.own k hk).1
            have h2 : w4.drew.heap.size = w4.heap.size := rfl
            simp at hm
            omega)
          obtain ⟨w6, hw6⟩ : ∃ w6, w5.setCell ⟨g4, o4 + at_, none⟩ (.slice ha5 (addW (m.held q) u).length hc5) = w6 := ⟨_, rfl⟩
          rw [hw6] at h6 t6 t16 hx6
          have HSF := Lib.hid (safe_any (.slice la (subW m.avl u).length lc) (.slice (some ⟨g4, o4, none⟩) vs.length c4) cv (subW m.avl u) (m.give q u).hs m.cs _ w6 ((HQL.out.sl.touch ((Touch.refl [] w2).drew) (fun _ _ => by simp)).touch t6 (fun _ _ => by simp))
            (gr_rows (by rw [HNL.out]; exact hatk) HAT.out.1 HAT.out.2 h6 HNL.out.symm HVS.out.2.1 t6 hx6) (HS.out.cs.to t16 (by simp) (fun k hk => hk) (fun k _ hk => hk)).rws rfl)
          have c6 : w6.cell? ⟨s, 6, none⟩ = some cv := (HX.out _ t16).2.2.2.1
          have HT6 := Lib.hid t16
          have HW6 := Lib.hid hw6
          clear h6 t6 t16 hx6 q4 q5
          have hw6 := HW6.out
          rw [hw6]
          clear hw6
          go_wp2_with fail
          refine HSF.out.mono ?_
          rintro e w7 ⟨rfl, t7⟩
          have HRF := Lib.hid (Rd.before HF.out.1 HTB.out (Rd.of (fun k hk => Nat.lt_of_lt_of_le (HF.out.1 k hk) HTB.out.size) HF.out.2 HP.out.1 HP.out.2 (HT6.out.trans t7)))
          have HG : Hid (m.grant (q, u) true = (ordR (subW m.avl u) (m.give q u).hs m.cs).isSome) := Lib.hid (by simp [Am.grant, HFT.out, HCL.out])
          clear t7 c6
          go_wp2_with fail
          go_ret
          exact ⟨by (rw [HG.out]) <;> rfl, _, HRF.out⟩
    · have hcl : m.clm = false := by simpa using hcl
      rw [hcl] at c1
      have HG : Hid (m.grant (q, u) first = true) := Lib.hid (by simp [Am.grant, hf, hcl])
      clear hf hcl hmg
      go_wp2_with fail
      go_ret
      exact ⟨by rw [HG.out]; rfl, _, HR.out⟩
  · have hmg : mergeL false m.avl u = none := by rw [mergeL_sub HOK.out.avB HB.out, if_neg hf]
    have HG : Hid (m.grant (q, u) first = false) := Lib.hid (by simp [Am.grant, hf])
    rw [hmg] at HQL ⊢
    simp only [Option.isSome_none, Option.getD_none, List.length_nil] at HQL ⊢
    clear hf hmg
    go_wp2_with fail
    go_ret
    exact ⟨by rw [HG.out]; rfl, _, HR.out⟩
end Go.Proofs.YticglfmmjgnicaaGreat

set_option linter.unusedVariables false
namespace Go.Proofs.YticglfmmjgnicaaGreat
open Go Go.RowKit

theorem pend_few {m : Am} (ok : m.Ok) : m.pend.length ≤ 32 := by
  have h := sumF_sub (f := fun _ => 1) (fun _ => by omega) (m.pend.map (·.1)) m.ps ok.pn (fun i hi => by
    obtain ⟨x, hx, rfl⟩ := List.mem_map.1 hi
    exact (ok.pi x hx).1)
  have one : ∀ l : List Int, sumF (fun _ => 1) l = l.length := fun l => by
    induction l with
    | nil => rfl
    | cons a l ih => rw [sumF_cons, ih]; simp; omega
  rw [one, one, List.length_map] at h
  have := ok.few
  omega
/-- One ask more behind a list of asks. -/
theorem av_app {wd : World} {base : Nat} {v : Value} {l : List (Int × List Int)} {qu : Nat → Value} (h : Av wd base 58 2 v l.length (askF l qu)) (hb : base ≤ wd.heap.size) (hn : l.length ≤ 100000) (q : Int) (u : List Int) (a1 : Option Addr) (l1 n1 : Nat) :
    ∃ v' w2, (∀ ty, (Builtin.append_ #[53, 53] ty #[v, .slice (some ⟨wd.heap.size, 0, none⟩) 1 1]).run Tryz.prog (wd.alloc (.cells #[.int .i64 q, .slice a1 l1 n1] 58)) = .ok v' w2) ∧
      Av w2 base 58 2 v' (l ++ [(q, u)]).length (askF (l ++ [(q, u)]) (fun i => if i = l.length then .slice a1 l1 n1 else qu i)) ∧ Touch v.ownBlock.toList wd w2 ∧ (∀ k, v'.ownBlock = some k → v.ownBlock = some k ∨ wd.heap.size ≤ k) ∧ ∃ a c, v' = .slice a (l.length + 1) c := by
  obtain ⟨i, hi, hz, h5, h32⟩ := infoA
  have bp : Blk (wd.alloc (.cells #[.int .i64 q, .slice a1 l1 n1] 58)) wd.heap.size #[.int .i64 q, .slice a1 l1 n1] 58 := Blk.new rfl
  have t3 : Touch [] wd (wd.alloc (.cells #[.int .i64 q, .slice a1 l1 n1] 58)) := (Touch.refl _ _).alloc _
  have hs3 := t3.size
  obtain ⟨f, hf⟩ : ∃ f : Nat → Value, f = fun j => if j = 0 then .int .i64 q else .slice a1 l1 n1 := ⟨_, rfl⟩
  obtain ⟨v2, w2, r2, A2, g2, o2⟩ := Av.append (t := 53) Tryz.underlying53 hi hz h5 h32 rfl (h.touch t3 (fun _ _ => by simp)) (by omega) ⟨wd.heap.size, 0, none⟩ 1 f (fun j hj => by
    rw [Addr.add_lit, Nat.zero_add, hf]
    have : j = 0 ∨ j = 1 := by omega
    rcases this with rfl | rfl <;> exact bp.cell rfl) (fun j hj => by
    rw [hf]
    have : j = 0 ∨ j = 1 := by omega
    rcases this with rfl | rfl <;> rfl) (by omega) (by omega)
  have tg : Touch v.ownBlock.toList (wd.alloc (.cells #[.int .i64 q, .slice a1 l1 n1] 58)) w2 := Touch.grown (S := v.ownBlock.toList) (Touch.refl _ _) g2 (fun k hk _ => by simp [hk])
  refine ⟨v2, w2, r2, ?_, (t3.mono (by simp)).trans tg, fun k hk => ?_, ?_⟩
  · rw [List.length_append, List.length_singleton]
    refine A2.congr (fun j hj c hc => ?_)
    unfold addV askF
    by_cases e : j = l.length
    · subst e
      rw [if_pos rfl, hf]
      simp
    · simp only [if_neg e]
      rw [List.getD_eq_getElem?_getD, List.getD_eq_getElem?_getD, List.getElem?_append_left (by omega)]
  · rcases o2 k hk with e | e
    · exact .inl e
    · exact .inr (by omega)
  · obtain ⟨a2, c2, e2, _⟩ := A2.form
    exact ⟨a2, c2, e2⟩
theorem app_own (w : World) (base : Nat) (v : Value) (xs : List Int) (x : Int) (h : Qu w base 3 v (xs.map (Value.int .i64))) (hb : base ≤ w.heap.size) (hn : xs.length ≤ 100000) :
    ∃ v' w', (∀ ty, (Builtin.append_ #[22, 22] ty #[v, .slice (some ⟨w.heap.size, 0, none⟩) 1 1]).run Tryz.prog (w.alloc (.cells #[.int .i64 x] 3)) = .ok v' w') ∧ Qu w' base 3 v' ((xs ++ [x]).map (Value.int .i64)) ∧ Touch v.ownBlock.toList w w' ∧ ∀ k, v'.ownBlock = some k → v.ownBlock = some k ∨ w.heap.size ≤ k := by
  have ta : Touch [] w (w.alloc (.cells #[.int .i64 x] 3)) := (Touch.refl _ _).alloc _
  have hsz := ta.size
  obtain ⟨v', w2, r1, A2, g2, o2⟩ := Qu.appendI (Qu.alloc h (.cells #[.int .i64 x] 3)) (by omega) (show Sl (w.alloc (.cells #[.int .i64 x] 3)) (.slice (some ⟨w.heap.size, 0, none⟩) 1 1) [x] from ⟨_, 1, rfl, .inr ⟨w.heap.size, 0, rfl, by simp, row1 _ _ _ _ rfl⟩⟩) (by simp; omega)
  exact ⟨v', w2, r1, A2, ((Touch.refl v.ownBlock.toList w).alloc _).grown g2 (fun k hk _ => by simp [hk]), fun k hk => by
    rcases o2 k hk with e | e
    · exact .inl e
    · exact .inr (by omega)⟩
/-- The list is gone through: rest is still to come. -/
structure ScI (w wr : World) (F : List Nat) (b : Nat) (p : PaP) (R : Am × List (Int × List Int) × List Int) (rest : List (Int × List Int)) (F1 : List Nat) (m1 : Am) (s : List (Int × List Int)) (g : List Int) (gv sv : Value) (qu : Nat → Value) : Prop where
  fr : Fr F w F1 wr
  t : Touch [b, p.bh] w wr
  pa : ∃ v mh nh, Pa wr F1 b m1 { p with sv := v, mh := mh, nh := nh }
  ok : (m1.withP (s ++ rest)).Ok
  eq : Am.scanF rest m1 s g = R
  ln : s.length + g.length + rest.length ≤ 32
  sa : Av wr w.heap.size 58 2 sv s.length (askF s qu)
  su : ∀ j, j < s.length → ∃ i, i < p.pd.length ∧ qu j = p.pu i ∧ s.getD j (0, []) = p.pd.getD i (0, [])
  so : ∀ k, sv.ownBlock = some k → k ∉ F1
  ga : Qu wr w.heap.size 3 gv (g.map (Value.int .i64))
  go : ∀ k, gv.ownBlock = some k → k ∉ F1 ∧ sv.ownBlock ≠ some k
section
variable {w wr w' : World} {F F1 : List Nat} {b : Nat} {p : PaP} {R : Am × List (Int × List Int) × List Int} {rest : List (Int × List Int)} {m1 : Am} {s : List (Int × List Int)} {g : List Int} {gv sv : Value} {qu : Nat → Value}
theorem ScI.start {m : Am} (h : Pa w F b m p) (ok : m.Ok) (qu : Nat → Value) : ScI w w F b p (Am.scanF m.pend m [] []) m.pend F m [] [] (.slice none 0 0) (.slice none 0 0) qu :=
  ⟨Fr.same (Touch.refl _ _) h.lt, Touch.refl _ _, ⟨_, _, _, h⟩, ok, rfl, by have := pend_few ok; simpa using this, Av.nil _ _ _ _ _, fun j hj => by simp at hj, fun k hk => by simp [Value.ownBlock] at hk, Qu.nil _ _ _, fun k hk => by simp [Value.ownBlock] at hk⟩
theorem ScI.lt (h : ScI w wr F b p R rest F1 m1 s g gv sv qu) : ∀ k, k ∈ F1 → k < wr.heap.size := h.fr.l
theorem ScI.bF (h : ScI w wr F b p R rest F1 m1 s g gv sv qu) : b ∈ F1 ∧ p.bh ∈ F1 := by
  obtain ⟨v, mh, nh, h1⟩ := h.pa
  exact ⟨h1.fw b (by simp [PaP.W]), h1.fw p.bh (by simp [PaP.W])⟩
theorem ScI.same (h : ScI w wr F b p R rest F1 m1 s g gv sv qu) (ht : Touch [] wr w') : ScI w w' F b p R rest F1 m1 s g gv sv qu := by
  obtain ⟨v, mh, nh, h1⟩ := h.pa
  exact ⟨h.fr.trans (Fr.same ht h.lt), h.t.trans (ht.mono (by simp)), ⟨v, mh, nh, h1.same ht⟩, h.ok, h.eq, h.ln, h.sa.touch ht (fun _ _ => by simp), h.su, h.so, h.ga.touch ht (fun _ _ => by simp), h.go⟩
/-- A call that only reads the allocator. -/
theorem ScI.read {v0 : Value} {mh0 : KP → Option Value} {nh0 : Nat} {F2 : List Nat} (h : ScI w wr F b p R rest F1 m1 s g gv sv qu) (hr : Rd wr F1 b m1 { p with sv := v0, mh := mh0, nh := nh0 } F2 w') : ScI w w' F b p R rest F2 m1 s g gv sv qu := by
  obtain ⟨v, h1, h2, h3⟩ := hr
  have nb : ∀ k, k ∉ F1 → k < wr.heap.size → k ∉ F2 := fun k hk hl hm => by
    rcases h1.g k hm with e | e
    · exact hk e
    · omega
  have tb : ∀ k, k ∉ F1 → k ∉ [b] := fun k hk hm => by simp at hm; rw [hm] at hk; exact hk h.bF.1
  exact ⟨h.fr.trans h1, h.t.trans (h2.mono (fun k hk => by simp at hk; simp [hk])), ⟨v, mh0, nh0, h3⟩, h.ok, h.eq, h.ln, h.sa.touch h2 (fun k hk => tb k (h.so k hk)), h.su, fun k hk => nb k (h.so k hk) (h.sa.own k hk).2, h.ga.touch h2 (fun k hk => tb k (h.go k hk).1), fun k hk => ⟨nb k (h.go k hk).1 (h.ga.own k hk).2, (h.go k hk).2⟩⟩
/-- One is not granted: it is put behind those that are still pending. -/
theorem ScI.no {x : Int × List Int} {i : Nat} {sv' : Value} (h : ScI w wr F b p R (x :: rest) F1 m1 s g gv sv qu) (hg : m1.grant x (decide (s.length = 0)) = false) (hi : i < p.pd.length) (hx : p.pd.getD i (0, []) = x)
    (hA : Av w' w.heap.size 58 2 sv' (s ++ [x]).length (askF (s ++ [x]) (fun j => if j = s.length then p.pu i else qu j))) (ht : Touch sv.ownBlock.toList wr w') (ho : ∀ k, sv'.ownBlock = some k → sv.ownBlock = some k ∨ wr.heap.size ≤ k) :
    ScI w w' F b p R rest F1 m1 (s ++ [x]) g gv sv' (fun j => if j = s.length then p.pu i else qu j) := by
  obtain ⟨v, mh, nh, h1⟩ := h.pa
  have hT : ∀ k, k ∈ sv.ownBlock.toList → k ∉ F1 := fun k hk => h.so k (Option.mem_toList.1 hk)
  have hok := h.ok
  have heq := h.eq
  have hln := h.ln
  unfold Am.scanF at heq
  rw [if_neg (by rw [hg]; simp)] at heq
  refine ⟨⟨h.fr.t.transF ht (fun k hk hl => absurd hl (by have := (h.sa.own k (Option.mem_toList.1 hk)).1; omega)), h.fr.g, fun k hk => Nat.lt_of_lt_of_le (h.lt k hk) ht.size⟩, h.t.transF ht (fun k hk hl => absurd hl (by have := (h.sa.own k (Option.mem_toList.1 hk)).1; omega)),
    ⟨v, mh, nh, h1.touch ht hT (fun k hk => hk) (fun k hk => Nat.lt_of_lt_of_le (h.lt k hk) ht.size)⟩, hok.step_no, heq, by simp at hln ⊢; omega, hA, fun j hj => ?_, fun k hk hm => ?_, h.ga.touch ht (fun k hk hm => (h.go k hk).2 (Option.mem_toList.1 hm)), fun k hk => ⟨(h.go k hk).1, fun e => ?_⟩⟩
  · rw [List.length_append, List.length_singleton] at hj
    by_cases e : j = s.length
    · subst e
      exact ⟨i, hi, by simp, by rw [hx, List.getD_eq_getElem?_getD, List.getElem?_append_right (Nat.le_refl _)]; simp⟩
    · simp only [if_neg e]
      rw [show (s ++ [x]).getD j (0, []) = s.getD j (0, []) from by rw [List.getD_eq_getElem?_getD, List.getD_eq_getElem?_getD, List.getElem?_append_left (by omega)]]
      exact h.su j (by omega)
  · rcases ho k hk with e | e
    · exact h.so k e hm
    · have := h.lt k hm; omega
  · rcases ho k e with e | e
    · exact (h.go k hk).2 e
    · have := (h.ga.own k hk).2; omega
/-- One is granted: it holds more. -/
theorem ScI.yes {x : Int × List Int} {gv' : Value} {w2 : World} {v0 : Value} {mh0 : KP → Option Value} {nh0 : Nat} (h : ScI w wr F b p R (x :: rest) F1 m1 s g gv sv qu) (hg : m1.grant x (decide (s.length = 0)) = true)
    (hl : LoopP wr F1 b (m1.give x.1 x.2) { p with sv := v0, mh := mh0, nh := nh0 } w2) (hG : Qu w' w.heap.size 3 gv' ((g ++ [x.1]).map (Value.int .i64))) (ht : Touch gv.ownBlock.toList w2 w') (ho : ∀ k, gv'.ownBlock = some k → gv.ownBlock = some k ∨ w2.heap.size ≤ k) :
    ScI w w' F b p R rest F1 (m1.give x.1 x.2) s (g ++ [x.1]) gv' sv qu := by
  obtain ⟨v, mh, nh, h1, h2⟩ := hl
  have h2 : Touch [b, p.bh] wr w2 := h2
  have hT : ∀ k, k ∈ gv.ownBlock.toList → k ∉ F1 := fun k hk => (h.go k (Option.mem_toList.1 hk)).1
  have tb : ∀ k, k ∉ F1 → k ∉ [b, p.bh] := fun k hk hm => by
    simp at hm
    rcases hm with e | e
    · rw [e] at hk; exact hk h.bF.1
    · rw [e] at hk; exact hk h.bF.2
  have new : ∀ k, k ∈ gv.ownBlock.toList → w.heap.size ≤ k := fun k hk => (h.ga.own k (Option.mem_toList.1 hk)).1
  have hok := h.ok
  have heq := h.eq
  have hln := h.ln
  unfold Am.scanF at heq
  rw [if_pos hg] at heq
  have hsz := h2.size
  have t12 : Touch [b, p.bh] w w' := (h.t.trans h2).transF ht (fun k hk hl => absurd hl (by have := new k hk; omega))
  refine ⟨⟨(h.fr.t.transF (h2.mono (fun k hk => by
      simp at hk
      rcases hk with rfl | rfl
      · exact h.bF.1
      · exact h.bF.2) : Touch F1 wr w2) (fun k hk hl => by
      rcases h.fr.g k hk with e | e
      · exact e
      · omega)).transF ht (fun k hk hl => absurd hl (by have := new k hk; omega)), h.fr.g, fun k hk => Nat.lt_of_lt_of_le (h.lt k hk) (Nat.le_trans hsz ht.size)⟩, t12,
    ⟨v, mh, nh, h1.touch ht hT (fun k hk => hk) (fun k hk => Nat.lt_of_lt_of_le (h.lt k hk) (Nat.le_trans hsz ht.size))⟩, hok.step_yes (Am.grant_fit hg), heq, by simp at hln ⊢; omega,
    (h.sa.touch h2 (fun k hk => tb k (h.so k hk))).touch ht (fun k hk hm => (h.go k (Option.mem_toList.1 hm)).2 hk), h.su, h.so, hG, fun k hk => ?_⟩
  rcases ho k hk with e | e
  · exact h.go k e
  · exact ⟨fun hm => by have := h.lt k hm; omega, fun e2 => by have := (h.sa.own k e2).2; omega⟩
/-- What the scan leaves. -/
def ScP (w : World) (F : List Nat) (b : Nat) (r : Am × List Int) (e : Ending) (w' : World) : Prop :=
  ∃ v F' p', e = .returned v ∧ Fr F w F' w' ∧ Pa w' F' b r.1 p' ∧ p'.pd = r.1.pend ∧ Qu w' w.heap.size 3 v (r.2.map (Value.int .i64)) ∧ ∀ k, v.ownBlock = some k → k ∉ F'
theorem ScI.done {m : Am} (h : ScI w wr F b p (Am.scanF m.pend m [] []) [] F1 m1 s g gv sv qu) : ScP w F b m.scan (.returned gv) (wr.setCell ⟨b, 4, none⟩ sv) := by
  obtain ⟨v, mh, nh, h1⟩ := h.pa
  have heq : (m1, s, g) = Am.scanF m.pend m [] [] := h.eq
  have hr : m.scan = (m1.withP s, g) := by
    unfold Am.scan
    rw [← heq]
    rfl
  rw [hr]
  have ht : Touch [b] wr (wr.setCell ⟨b, 4, none⟩ sv) := (Touch.refl [b] wr).setCell (by simp) _
  have hnd := h1.nd
  have hsn : ∀ k, sv.ownBlock = some k → k ≠ b ∧ k ≠ p.bc ∧ k ≠ p.bh := fun k hk =>
    ⟨fun e => h.so k hk (by rw [e]; exact h1.fw b (by simp [PaP.W])), fun e => h.so k hk (by rw [e]; exact h1.fw p.bc (by simp [PaP.W])), fun e => h.so k hk (by rw [e]; exact h1.fw p.bh (by simp [PaP.W]))⟩
  have n1 : p.bc ∉ [b] := by simp [PaP.W] at hnd ⊢; exact fun e => hnd.1.1 e.symm
  have n2 : p.bh ∉ [b] := by simp [PaP.W] at hnd ⊢; exact fun e => hnd.1.2.1 e.symm
  have n3 : ∀ k, k ∈ sv.ownBlock.toList → k ∉ F1 := fun k hk => h.so k (Option.mem_toList.1 hk)
  have hF : ∀ k, k ∈ F1 → k ∈ F1 ++ sv.ownBlock.toList := fun k hk => List.mem_append.2 (.inl hk)
  have hwT : ∀ k, k ∈ [b] → k ∈ F1 → k ∈ ({ p with sv := v, mh := mh, nh := nh } : PaP).W b := fun k h1 _ => by simp at h1; subst h1; simp [PaP.W]
  have hW : ∀ k, k ∈ F1 → k ∈ ({ p with sv := v, mh := mh, nh := nh, pv := sv, pu := qu, pd := s } : PaP).W b → k ∈ ({ p with sv := v, mh := mh, nh := nh } : PaP).W b := fun k hk hm => by
    unfold PaP.W at hm ⊢
    rcases List.mem_append.1 hm with e | e
    · exact List.mem_append.2 (.inl e)
    · exact absurd hk (n3 k e)
  have hl : ∀ k, k ∈ F1 ++ sv.ownBlock.toList → k < (wr.setCell ⟨b, 4, none⟩ sv).heap.size := fun k hk => by
    refine Nat.lt_of_lt_of_le ?_ ht.size
    rcases List.mem_append.1 hk with e | e
    · exact h.lt k e
    · exact (h.sa.own k (Option.mem_toList.1 e)).2
  refine ⟨gv, F1 ++ sv.ownBlock.toList, { p with sv := v, mh := mh, nh := nh, pv := sv, pu := qu, pd := s }, rfl, ⟨(h.fr.t.transF ht (fun k hk hl => by
      simp at hk
      rcases h.fr.g k (by rw [hk]; exact h.bF.1) with e | e
      · exact e
      · omega)), fun k hk => ?_, hl⟩, ⟨⟨h1.obj.set 4 sv, hl, fun k hk => ?_, ?_, h1.tot.to ht hwT hF hW, h1.mc.touch ht n1, fun q => ⟨fun hq => ?_, (h1.mcv q).2⟩, h1.mh.touch ht n2, h1.mhv, ⟨_, h.sa.touch ht (fun k hk hm => by simp at hm; exact (hsn k hk).1 hm)⟩, fun j hj => ?_⟩, ?_⟩, rfl, h.ga.touch ht (fun k hk hm => by simp at hm; exact (h.go k hk).1 (by rw [hm]; exact h.bF.1)), fun k hk hm => ?_⟩
  · rcases List.mem_append.1 hk with e | e
    · exact h.fr.g k e
    · exact .inr (h.sa.own k (Option.mem_toList.1 e)).1
  · unfold PaP.W at hk
    rcases List.mem_append.1 hk with e | e
    · exact hF k (h1.fw k (List.mem_append.2 (.inl e)))
    · exact List.mem_append.2 (.inr e)
  · unfold PaP.W at hnd ⊢
    rw [List.nodup_append] at hnd ⊢
    refine ⟨hnd.1, by cases hs : sv.ownBlock <;> simp, fun a ha c hc e => ?_⟩
    have := hsn c (Option.mem_toList.1 hc)
    simp at ha
    rcases ha with rfl | rfl | rfl
    · exact this.1 e.symm
    · exact this.2.1 e.symm
    · exact this.2.2 e.symm
  · obtain ⟨v, h3, h4⟩ := (h1.mcv q).1 hq
    exact ⟨v, h3, h4.to ht hwT hF hW⟩
  · obtain ⟨i, hi, e1, e2⟩ := h.su j hj
    have := (h1.pu i hi).to (F' := F1 ++ sv.ownBlock.toList) (W' := ({ p with sv := v, mh := mh, nh := nh, pv := sv, pu := qu, pd := s } : PaP).W b) ht hwT hF hW
    show Im _ _ _ (qu j) (s.getD j (0, [])).2
    rw [e1, e2]
    exact this
  · rcases h1.seen with e | ⟨s0, pv0, av0, hv0, cv0, e, h2⟩
    · exact .inl e
    · exact .inr ⟨s0, pv0, av0, hv0, cv0, e, (h2.withP s).to ht hwT hF hW⟩
  · rcases List.mem_append.1 hm with e | e
    · exact (h.go k hk).1 e
    · exact (h.go k hk).2 (Option.mem_toList.1 e)
end
end Go.Proofs.YticglfmmjgnicaaGreat
