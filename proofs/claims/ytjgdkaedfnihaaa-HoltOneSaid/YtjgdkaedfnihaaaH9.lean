/-
  Is a set deadlocked? The program's answer, whole.
-/
import Derived.Test.YtjgdkaedfnihaaaH8
set_option linter.unusedVariables false
namespace Go.Proofs.Ytjgdkaedfnihaaa
open Go.RowKit Go.BigFrame

/-- What the inner function sees. -/
structure DdC (w : World) (bq bt : Nat) (vq vt : Value) (qs : List (List Int)) (W : List Int) : Prop where
  q : Blk w bq #[vq] 23
  t : Blk w bt #[vt] 22
  rq : Rws w vq qs
  st : Sl w vt W
theorem DdC.touch {w w' : World} {bq bt : Nat} {vq vt : Value} {qs : List (List Int)} {W : List Int} (h : DdC w bq bt vq vt qs W) (ht : Touch [] w w') : DdC w' bq bt vq vt qs W := ⟨h.q.touch ht (by simp), h.t.touch ht (by simp), h.rq.touch ht, h.st.touch ht (by simp)⟩
set_option maxHeartbeats 4000000 in
theorem clos_q (bq bt : Nat) (vq vt : Value) (qs : List (List Int)) (W : List Int) (i : Nat) (b : Bool) (w : World) (h : DdC w bq bt vq vt qs W) (hi : i < qs.length) (l1 : (rw_ qs i).length ≤ 1000000) (l2 : W.length ≤ 1000000) (hb : fitsB (rw_ qs i) W = b) :
    Calls Try.prog 31 #[.int .i64 (i : Int), .pointer (some ⟨bq, 0, none⟩), .pointer (some ⟨bt, 0, none⟩)] w fun e w' => e = .returned (.bool b) ∧ Touch [] w w' := by
  have HB := Lib.hid hb
  obtain ⟨aq, cq, hvq⟩ := h.rq.form
  obtain ⟨at', ct, hvt⟩ := h.st.form
  subst hvq hvt
  obtain ⟨gq, oq, hgq, ra, rc, sq, xq⟩ := h.rq.at hi
  subst hgq
  have SQ := Lib.hid sq
  have SW := Lib.hid h.st
  have L1 := Lib.hid l1
  have L2 := Lib.hid l2
  have y1 : ∀ q : Later w, q.world.cell? ⟨bq, 0, none⟩ = some (.slice (some ⟨gq, oq, none⟩) qs.length cq) := fun q => (h.q.touch q.ok (by simp)).cell (i := 0) rfl
  have y2 : ∀ q : Later w, q.world.cell? ⟨bt, 0, none⟩ = some (.slice at' W.length ct) := fun q => (h.t.touch q.ok (by simp)).cell (i := 0) rfl
  have y3 : ∀ q : Later w, q.world.cell? ⟨gq, oq + i, none⟩ = some (.slice ra (rw_ qs i).length rc) := fun q => xq _ q.ok
  have hlt : (i : Int) < (qs.length : Int) := by omega
  clear h sq xq hb l1 l2
  go_enter Try.func31, Try.ntmps31
  go_wp2_with fail
  refine wp_region_later (by kernel_rfl) (by kernel_rfl) ?_
  repeat (first
    | (go_big_quiet_step ((first | (with_reducible rfl) | exact Later.met (fits_q _ _ (rw_ qs i) W b _ (SQ.out.later _) (SW.out.later _) L1.out L2.out HB.out))))
    | (quiet_step (fail)))
  refine wpQuiet_nil ?_
  intro wq hw'
  obtain ⟨⟨wq', hwq⟩, hwe⟩ := hw'
  have hwe : wq = wq' := hwe
  subst hwe
  have HT := Lib.hid hwq
  clear hwe hwq y1 y2 y3
  go_wp2
  go_ret
  exact ⟨rfl, HT.out⟩
def IndexFP (is : Bool) (w : World) (e : Ending) (w' : World) : Prop := ∃ i : Int, e = .returned (.int .i64 i) ∧ ((is = true ∧ 0 ≤ i) ∨ (is = false ∧ i = -1)) ∧ Touch [] w w'
def anyFit (qs : List (List Int)) (W set : List Int) : Bool := (List.range set.length).any fun k => fitsB (rw_ qs (set.getD k 0).toNat) W
set_option maxHeartbeats 8000000 in
theorem indexf_q (bq bt : Nat) (vq vt v : Value) (qs : List (List Int)) (W set : List Int) (w : World) (h : DdC w bq bt vq vt qs W) (hs : Sl w v set) (hl : set.length ≤ 1000000) (hin : ∀ k, k < set.length → 0 ≤ set.getD k 0 ∧ set.getD k 0 < qs.length) (l1 : ∀ i, i < qs.length → (rw_ qs i).length ≤ 1000000) (l2 : W.length ≤ 1000000) :
    Calls Try.prog 37 #[v, .func (.func 31) #[] #[.pointer (some ⟨bq, 0, none⟩), .pointer (some ⟨bt, 0, none⟩)]] w (IndexFP (anyFit qs W set) w) := by
  have HD := Lib.hid h
  have HS := Lib.hid hs
  have HIN := Lib.hid hin
  have L1 := Lib.hid l1
  have L2 := Lib.hid l2
  have HA : Hid (anyFit qs W set = (List.range set.length).any fun k => fitsB (rw_ qs (set.getD k 0).toNat) W) := Lib.hid rfl
  obtain ⟨a, c, rfl⟩ := hs.form
  obtain ⟨L, hL⟩ : ∃ L, set.length = L := ⟨_, rfl⟩
  have HL := Lib.hid hL
  rw [hL] at HS HA HIN hl ⊢
  obtain ⟨is, his⟩ : ∃ is, anyFit qs W set = is := ⟨_, rfl⟩
  rw [his] at HA ⊢
  clear h hs hin l1 l2 hL his
  go_enter Try.func37, Try.ntmps37
  go_wp2_with fail
  go_loopw [8] (fun i wr => ∃ j : Nat, j ≤ L ∧ i = .int .i64 j ∧ (∀ k, k < j → fitsB (rw_ qs (set.getD k 0).toNat) W = false) ∧ Touch [] w wr) (fun i _ => L + 1 - (intOf i).toNat)
  case atStart => exact ⟨0, by omega, rfl, fun k hk => by omega, Touch.refl _ _⟩
  case round =>
    obtain ⟨j, hj, rfl, hno, ht⟩ := hrel
    have HNo := Lib.hid hno
    have HT := Lib.hid ht
    clear hno
    by_cases hjn : j < L
    · have hlt : (j : Int) < (L : Int) := by omega
      obtain ⟨g, off, hg, xo⟩ := HS.out.ix (q := j) (by rw [HL.out]; exact hjn)
      subst hg
      have x1 := xo _ ht
      obtain ⟨h0, h1⟩ := HIN.out j hjn
      obtain ⟨n, hn⟩ : ∃ n : Nat, set.getD j 0 = (n : Int) := ⟨(set.getD j 0).toNat, by omega⟩
      have HN : Hid ((set.getD j 0).toNat = n) := Lib.hid (by omega)
      have HNQ : Hid (n < qs.length) := Lib.hid (by omega)
      rw [hn] at x1
      clear xo hn h0 h1 ht
      cases hft : fitsB (rw_ qs n) W with
      | true =>
        have HFT := Lib.hid hft
        have HE : Hid (is = true) := Lib.hid (by rw [HA.out, List.any_eq_true]; exact ⟨j, List.mem_range.2 hjn, by rw [HN.out]; exact hft⟩)
        have HC := Lib.hid (clos_q bq bt vq vt qs W n true wr (HD.out.touch HT.out) HNQ.out (L1.out n HNQ.out) L2.out hft)
        clear hft
        go_wp2_with fail
        refine HC.out.mono ?_
        rintro e w3 ⟨rfl, ht⟩
        have HT := Lib.hid (HT.out.trans ht)
        clear ht x1
        go_wp2
        go_ret
        exact ⟨_, rfl, .inl ⟨HE.out, by omega⟩, HT.out⟩
      | false =>
        have HFT := Lib.hid hft
        have HC := Lib.hid (clos_q bq bt vq vt qs W n false wr (HD.out.touch HT.out) HNQ.out (L1.out n HNQ.out) L2.out hft)
        clear hft
        go_wp2_with fail
        refine HC.out.mono ?_
        rintro e w3 ⟨rfl, ht⟩
        have HT := Lib.hid (HT.out.trans ht)
        clear ht x1
        go_wp2
        go_roundw
        case rel =>
          refine ⟨j + 1, by omega, by go_num, fun k hk => ?_, HT.out⟩
          by_cases e : k = j
          · subst e; rw [HN.out]; exact HFT.out
          · exact HNo.out k (by omega)
        case measure => simp [intOf]; omega
    · have hlt : ¬ (j : Int) < (L : Int) := by omega
      have HE : Hid (is = false) := Lib.hid (by rw [HA.out, List.any_eq_false]; exact fun k hk => by rw [HNo.out k (by have := List.mem_range.1 hk; omega)]; exact Bool.false_ne_true)
      clear ht
      go_wp2
      go_ret
      exact ⟨_, rfl, .inr ⟨HE.out, rfl⟩, HT.out⟩
set_option maxHeartbeats 4000000 in
theorem containsf_q (bq bt : Nat) (vq vt v : Value) (qs : List (List Int)) (W set : List Int) (b : Bool) (w : World) (h : DdC w bq bt vq vt qs W) (hs : Sl w v set) (hl : set.length ≤ 1000000) (hin : ∀ k, k < set.length → 0 ≤ set.getD k 0 ∧ set.getD k 0 < qs.length) (l1 : ∀ i, i < qs.length → (rw_ qs i).length ≤ 1000000) (l2 : W.length ≤ 1000000) (hb : anyFit qs W set = b) :
    Calls Try.prog 30 #[v, .func (.func 31) #[] #[.pointer (some ⟨bq, 0, none⟩), .pointer (some ⟨bt, 0, none⟩)]] w fun e w' => e = .returned (.bool b) ∧ Touch [] w w' := by
  have HC := Lib.hid (indexf_q bq bt vq vt v qs W set w h hs hl hin l1 l2)
  rw [hb] at HC
  obtain ⟨a, c, rfl⟩ := hs.form
  clear h hs hin l1 l2 hb
  go_enter Try.func30, Try.ntmps30
  go_wp2_with fail
  refine HC.out.mono ?_
  rintro e w1 ⟨i, rfl, hi, ht⟩
  have HT := Lib.hid ht
  clear ht
  rcases hi with ⟨rfl, hi⟩ | ⟨rfl, rfl⟩
  · have q1 : decide (0 ≤ i) = true := dT hi
    go_wp2
    go_ret
    exact ⟨rfl, HT.out⟩
  · go_wp2
    go_ret
    exact ⟨rfl, HT.out⟩
end Go.Proofs.Ytjgdkaedfnihaaa
