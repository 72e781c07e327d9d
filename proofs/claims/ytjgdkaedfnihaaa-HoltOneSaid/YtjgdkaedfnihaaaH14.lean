/-
  The laws' small example.
-/
import Derived.Test.YtjgdkaedfnihaaaH13
import Derived.Test.YtjgdkaedfnihaaaRN
import Derived.Test.YtjgdkaedfnihaaaI
import Derived.Test.YtjgdkaedfnihaaaRH
set_option linter.unusedVariables false
namespace Go.Proofs.Ytjgdkaedfnihaaa
open Go.RowKit Go.BigFrame

theorem ints_q (v v' : Value) (xs ys : List Int) (b : Bool) (w : World) (h : Sl w v xs) (h' : Sl w v' ys) (h1 : xs.length ≤ 1000000) (h2 : ys.length ≤ 1000000) (hb : EqI xs ys = b) :
    Calls Try.prog 12 #[v, v'] w fun e w' => e = .returned (.bool b) ∧ Touch [] w w' :=
  (ints_any v v' xs ys w h h' h1 h2).mono fun _ _ ⟨he, m, hm⟩ => ⟨by rw [he, hb], hm ▸ (Touch.refl _ _).drewN m⟩
theorem EqI_refl (xs : List Int) : EqI xs xs = true := dT rfl
theorem stuckL_len (xs : List Int) (hs qs : List (List Int)) : (stuckL xs hs qs).length ≤ 32 := by
  unfold stuckL
  split
  · rename_i h
    have h1 := leftL_len hs.length (finR xs hs qs)
    have h2 := (rows_iff.1 h).2.2.2.1
    omega
  · simp
/-- A list of n numbers of the call's own. -/
def SlP (R : List Int) (n : Nat) (w : World) (e : Ending) (w' : World) : Prop := ∃ a c, e = .returned (.slice a n c) ∧ Sl w' (.slice a n c) R ∧ Touch [] w w'
theorem Own.slP {R : List Int} {n : Nat} (hn : R.length = n) {w : World} {e : Ending} {w' : World} (h : Own R w e w') : SlP R n w e w' := by
  obtain ⟨v, rfl, hq, ht⟩ := h
  obtain ⟨a, c, rfl⟩ := hq.form
  rw [hn] at hq ⊢
  exact ⟨a, c, rfl, Qu.sl hq, ht⟩
theorem stuck_l (va vh vq : Value) (xs : List Int) (hs qs : List (List Int)) (R : List Int) (n : Nat) (w : World) (ha : Sl w va xs) (hh : Rws w vh hs) (hq : Rws w vq qs) (hR : stuckL xs hs qs = R) (hn : R.length = n) :
    Calls Try.prog 13 #[va, vh, vq] w (SlP R n w) := (stuck_any va vh vq xs hs qs w ha hh hq).mono fun _ _ h => Own.slP hn (hR ▸ h)
theorem rstuck_l (va vh vq : Value) (xs : List Int) (hs qs : List (List Int)) (R : List Int) (n : Nat) (w : World) (ha : Sl w va xs) (hh : Rws w vh hs) (hq : Rws w vq qs) (hR : stuckL xs hs qs = R) (hn : R.length = n) :
    Calls Try.prog 14 #[va, vh, vq] w (SlP R n w) := (rstuck_any va vh vq xs hs qs w ha hh hq).mono fun _ _ h => Own.slP hn (hR ▸ h)
theorem hmay_q (va vh vc : Value) (xs : List Int) (hs cs : List (List Int)) (b : Bool) (w : World) (ha : Sl w va xs) (hh : Rws w vh hs) (hc : Rws w vc cs) (hb : rowsB xs hs cs = b) :
    Calls Try.prog 10 #[va, vh, vc] w fun e w' => e = .returned (.bool b) ∧ Touch [] w w' := (hmay_any va vh vc xs hs cs b w ha hh hc hb).mono fun _ _ ⟨he, hw⟩ => ⟨he, hw ▸ Touch.refl _ _⟩
set_option maxHeartbeats 8000000 in
set_option maxRecDepth 100000 in
theorem awake_any (w : World) : Calls Try.prog 9 #[] w fun e w' => e = .returned (.bool true) ∧ Touch [] w w' := by
  go_enter Try.func9, Try.ntmps9
  have HT : Hid (Touch [] w w) := Lib.hid (Touch.refl _ _)
  go_wp2_with fail
  change Calls _ _ _ (Wn w [.cells #[.int .i64 0] 3, .cells #[.int .i64 1] 3, .cells #[.int .i64 1] 3, .cells #[.slice (some ⟨w.heap.size + 1, 0, none⟩) 1 1, .slice (some ⟨w.heap.size + 2, 0, none⟩) 1 1] 22, .cells #[.int .i64 1] 3, .cells #[.int .i64 0] 3, .cells #[.slice (some ⟨w.heap.size + 4, 0, none⟩) 1 1, .slice (some ⟨w.heap.size + 5, 0, none⟩) 1 1] 22]) _
  refine (stuck_l _ _ _ [0] [[1], [1]] [[1], [0]] [] 0 _ (sl_wn w _ 0 [0] 3 1 rfl) (rws_wn2 w _ 3 1 2 [1] [1] 22 3 2 1 1 rfl rfl rfl) (rws_wn2 w _ 6 4 5 [1] [0] 22 3 2 1 1 rfl rfl rfl) (by decide +kernel) rfl).mono ?_
  rintro e w1 ⟨a1, c1, rfl, hs, ht⟩
  have hu := (Wn_touch w [.cells #[.int .i64 0] 3, .cells #[.int .i64 1] 3, .cells #[.int .i64 1] 3, .cells #[.slice (some ⟨w.heap.size + 1, 0, none⟩) 1 1, .slice (some ⟨w.heap.size + 2, 0, none⟩) 1 1] 22, .cells #[.int .i64 1] 3, .cells #[.int .i64 0] 3, .cells #[.slice (some ⟨w.heap.size + 4, 0, none⟩) 1 1, .slice (some ⟨w.heap.size + 5, 0, none⟩) 1 1] 22]).trans ht
  have HT := Lib.hid (HT.out.trans hu)
  clear hu ht
  clear hs
  go_wp2_with fail
  change Calls _ _ _ (Wn w1 [.cells #[.int .i64 0] 3, .cells #[.int .i64 1] 3, .cells #[.int .i64 1] 3, .cells #[.slice (some ⟨w1.heap.size + 1, 0, none⟩) 1 1, .slice (some ⟨w1.heap.size + 2, 0, none⟩) 1 1] 22, .cells #[.int .i64 1] 3, .cells #[.int .i64 1] 3, .cells #[.slice (some ⟨w1.heap.size + 4, 0, none⟩) 1 1, .slice (some ⟨w1.heap.size + 5, 0, none⟩) 1 1] 22]) _
  refine (stuck_l _ _ _ [0] [[1], [1]] [[1], [1]] [0, 1] 2 _ (sl_wn w1 _ 0 [0] 3 1 rfl) (rws_wn2 w1 _ 3 1 2 [1] [1] 22 3 2 1 1 rfl rfl rfl) (rws_wn2 w1 _ 6 4 5 [1] [1] 22 3 2 1 1 rfl rfl rfl) (by decide +kernel) rfl).mono ?_
  rintro e w2 ⟨a2, c2, rfl, hs, ht⟩
  have HA := Lib.hid hs
  have hu := (Wn_touch w1 [.cells #[.int .i64 0] 3, .cells #[.int .i64 1] 3, .cells #[.int .i64 1] 3, .cells #[.slice (some ⟨w1.heap.size + 1, 0, none⟩) 1 1, .slice (some ⟨w1.heap.size + 2, 0, none⟩) 1 1] 22, .cells #[.int .i64 1] 3, .cells #[.int .i64 1] 3, .cells #[.slice (some ⟨w1.heap.size + 4, 0, none⟩) 1 1, .slice (some ⟨w1.heap.size + 5, 0, none⟩) 1 1] 22]).trans ht
  have HT := Lib.hid (HT.out.trans hu)
  clear hu ht
  clear hs
  go_wp2_with fail
  change Calls _ _ _ (Wn w2 [.cells #[.int .i64 0, .int .i64 1] 3]) _
  refine (ints_q _ _ [0, 1] [0, 1] true _ (HA.out.touch (Wn_touch w2 [.cells #[.int .i64 0, .int .i64 1] 3]) (by simp)) (sl_wn w2 _ 0 [0, 1] 3 2 rfl) (by simp) (by simp) (by decide)).mono ?_
  rintro e w3 ⟨rfl, ht⟩
  have hu := (Wn_touch w2 [.cells #[.int .i64 0, .int .i64 1] 3]).trans ht
  have HT := Lib.hid (HT.out.trans hu)
  clear hu ht
  go_wp2_with fail
  change Calls _ _ _ (Wn w3 [.cells #[.int .i64 0] 3, .cells #[.int .i64 1] 3, .cells #[.int .i64 1] 3, .cells #[.slice (some ⟨w3.heap.size + 1, 0, none⟩) 1 1, .slice (some ⟨w3.heap.size + 2, 0, none⟩) 1 1] 22, .cells #[.int .i64 1] 3, .cells #[.int .i64 1] 3, .cells #[.slice (some ⟨w3.heap.size + 4, 0, none⟩) 1 1, .slice (some ⟨w3.heap.size + 5, 0, none⟩) 1 1] 22, .cells #[.int .i64 0, .int .i64 1] 3]) _
  refine (dead_any _ _ _ _ [0] [[1], [1]] [[1], [1]] [0, 1] true _ (sl_wn w3 _ 0 [0] 3 1 rfl) (rws_wn2 w3 _ 3 1 2 [1] [1] 22 3 2 1 1 rfl rfl rfl) (rws_wn2 w3 _ 6 4 5 [1] [1] 22 3 2 1 1 rfl rfl rfl) (sl_wn w3 _ 7 [0, 1] 3 2 rfl) (by decide) (by decide +kernel)).mono ?_
  rintro e w4 ⟨rfl, ht⟩
  have hu := (Wn_touch w3 [.cells #[.int .i64 0] 3, .cells #[.int .i64 1] 3, .cells #[.int .i64 1] 3, .cells #[.slice (some ⟨w3.heap.size + 1, 0, none⟩) 1 1, .slice (some ⟨w3.heap.size + 2, 0, none⟩) 1 1] 22, .cells #[.int .i64 1] 3, .cells #[.int .i64 1] 3, .cells #[.slice (some ⟨w3.heap.size + 4, 0, none⟩) 1 1, .slice (some ⟨w3.heap.size + 5, 0, none⟩) 1 1] 22, .cells #[.int .i64 0, .int .i64 1] 3]).trans ht
  have HT := Lib.hid (HT.out.trans hu)
  clear hu ht
  go_wp2_with fail
  change Calls _ _ _ (Wn w4 [.cells #[.int .i64 0] 3, .cells #[.int .i64 1] 3, .cells #[.int .i64 1] 3, .cells #[.slice (some ⟨w4.heap.size + 1, 0, none⟩) 1 1, .slice (some ⟨w4.heap.size + 2, 0, none⟩) 1 1] 22, .cells #[.int .i64 1] 3, .cells #[.int .i64 1] 3, .cells #[.slice (some ⟨w4.heap.size + 4, 0, none⟩) 1 1, .slice (some ⟨w4.heap.size + 5, 0, none⟩) 1 1] 22, .cells #[.int .i64 0] 3]) _
  refine (dead_any _ _ _ _ [0] [[1], [1]] [[1], [1]] [0] false _ (sl_wn w4 _ 0 [0] 3 1 rfl) (rws_wn2 w4 _ 3 1 2 [1] [1] 22 3 2 1 1 rfl rfl rfl) (rws_wn2 w4 _ 6 4 5 [1] [1] 22 3 2 1 1 rfl rfl rfl) (sl_wn w4 _ 7 [0] 3 1 rfl) (by decide) (by decide +kernel)).mono ?_
  rintro e w5 ⟨rfl, ht⟩
  have hu := (Wn_touch w4 [.cells #[.int .i64 0] 3, .cells #[.int .i64 1] 3, .cells #[.int .i64 1] 3, .cells #[.slice (some ⟨w4.heap.size + 1, 0, none⟩) 1 1, .slice (some ⟨w4.heap.size + 2, 0, none⟩) 1 1] 22, .cells #[.int .i64 1] 3, .cells #[.int .i64 1] 3, .cells #[.slice (some ⟨w4.heap.size + 4, 0, none⟩) 1 1, .slice (some ⟨w4.heap.size + 5, 0, none⟩) 1 1] 22, .cells #[.int .i64 0] 3]).trans ht
  have HT := Lib.hid (HT.out.trans hu)
  clear hu ht
  go_wp2_with fail
  change Calls _ _ _ (Wn w5 []) _
  refine (hmay_q _ _ _ [] [] [] true _ (Sl.nil _) (Rws.nil _) (Rws.nil _) (by decide +kernel)).mono ?_
  rintro e w6 ⟨rfl, ht⟩
  have hu := (Wn_touch w5 []).trans ht
  have HT := Lib.hid (HT.out.trans hu)
  clear hu ht
  go_wp2_with fail
  change Calls _ _ _ (Wn w6 [.cells #[.int .i64 1] 3, .cells #[.int .i64 1] 3, .cells #[.slice (some ⟨w6.heap.size + 1, 0, none⟩) 1 1] 22]) _
  refine (hmay_q _ _ _ [1] [[1]] [] false _ (sl_wn w6 _ 0 [1] 3 1 rfl) (rws_wn1 w6 _ 2 1 [1] 22 3 1 1 rfl rfl) (Rws.nil _) (by decide +kernel)).mono ?_
  rintro e w7 ⟨rfl, ht⟩
  have hu := (Wn_touch w6 [.cells #[.int .i64 1] 3, .cells #[.int .i64 1] 3, .cells #[.slice (some ⟨w6.heap.size + 1, 0, none⟩) 1 1] 22]).trans ht
  have HT := Lib.hid (HT.out.trans hu)
  clear hu ht
  go_wp2
  go_ret
  exact ⟨rfl, HT.out⟩
end Go.Proofs.Ytjgdkaedfnihaaa
