/-
  The laws' small example.
-/
import Derived.Test.YtdonkecclebcdaaB13
import Derived.Test.YtdonkecclebcdaaRN
import Derived.Test.YtdonkecclebcdaaI
set_option linter.unusedVariables false
namespace Go.Proofs.Ytdonkecclebcdaa
open Go.RowKit Go.BigFrame

theorem ints_q (v v' : Value) (xs ys : List Int) (b : Bool) (w : World) (h : Sl w v xs) (h' : Sl w v' ys) (h1 : xs.length ≤ 1000000) (h2 : ys.length ≤ 1000000) (hb : EqI xs ys = b) :
    Calls Try.prog 14 #[v, v'] w fun e w' => e = .returned (.bool b) ∧ Touch [] w w' :=
  (ints_any v v' xs ys w h h' h1 h2).mono fun _ _ ⟨he, m, hm⟩ => ⟨by rw [he, hb], hm ▸ (Touch.refl _ _).drewN m⟩
theorem PairP.yes {zs : List Int} {w w' : World} {e : Ending} (h : PairP (some zs) w e w') : ∃ a c, e = .returned (.tuple #[.slice a zs.length c, .bool true]) ∧ Sl w' (.slice a zs.length c) zs ∧ Touch [] w w' := by
  obtain ⟨a, c, he, hq, ht⟩ := h
  exact ⟨a, c, he, Qu.sl hq, ht⟩
theorem PairP.no {w w' : World} {e : Ending} (h : PairP none w e w') : ∃ a c, e = .returned (.tuple #[.slice a 0 c, .bool false]) ∧ Touch [] w w' := by
  obtain ⟨a, c, he, hq, ht⟩ := h
  exact ⟨a, c, he, ht⟩
set_option maxHeartbeats 8000000 in
set_option maxRecDepth 100000 in
theorem awake_any (w : World) : Calls Try.prog 9 #[] w fun e w' => e = .returned (.bool true) ∧ Touch [] w w' := by
  have E1 : Hid (ordR [1] [[1], [1]] [[2], [3]] = some [0, 1]) := Lib.hid (by decide +kernel)
  have E2 : Hid (ordR [0] [[1], [1]] [[2], [2]] = none) := Lib.hid (by decide +kernel)
  go_enter Try.func9, Try.ntmps9
  have HT : Hid (Touch [] w w) := Lib.hid (Touch.refl _ _)
  go_wp2_with fail
  change Calls _ _ _ (Wn w [.cells #[.int .i64 1] 3, .cells #[.int .i64 1] 3, .cells #[.int .i64 1] 3, .cells #[.slice (some ⟨w.heap.size + 1, 0, none⟩) 1 1, .slice (some ⟨w.heap.size + 2, 0, none⟩) 1 1] 22, .cells #[.int .i64 2] 3, .cells #[.int .i64 3] 3, .cells #[.slice (some ⟨w.heap.size + 4, 0, none⟩) 1 1, .slice (some ⟨w.heap.size + 5, 0, none⟩) 1 1] 22]) _
  refine (order_any _ _ _ [1] [[1], [1]] [[2], [3]] _ (sl_wn w _ 0 [1] 3 1 rfl) (rws_wn2 w _ 3 1 2 [1] [1] 22 3 2 1 1 rfl rfl rfl) (rws_wn2 w _ 6 4 5 [2] [3] 22 3 2 1 1 rfl rfl rfl)).mono ?_
  intro e w1 hp
  rw [E1.out] at hp
  obtain ⟨a1, c1, rfl, hs, ht⟩ := hp.yes
  have HA := Lib.hid hs
  have hu := (Wn_touch w [.cells #[.int .i64 1] 3, .cells #[.int .i64 1] 3, .cells #[.int .i64 1] 3, .cells #[.slice (some ⟨w.heap.size + 1, 0, none⟩) 1 1, .slice (some ⟨w.heap.size + 2, 0, none⟩) 1 1] 22, .cells #[.int .i64 2] 3, .cells #[.int .i64 3] 3, .cells #[.slice (some ⟨w.heap.size + 4, 0, none⟩) 1 1, .slice (some ⟨w.heap.size + 5, 0, none⟩) 1 1] 22]).trans ht
  have HT := Lib.hid (HT.out.trans hu)
  clear hu ht
  clear hp hs
  go_wp2_with fail
  change Calls _ _ _ (Wn w1 [.cells #[.int .i64 0] 3, .cells #[.int .i64 1] 3, .cells #[.int .i64 1] 3, .cells #[.slice (some ⟨w1.heap.size + 1, 0, none⟩) 1 1, .slice (some ⟨w1.heap.size + 2, 0, none⟩) 1 1] 22, .cells #[.int .i64 2] 3, .cells #[.int .i64 2] 3, .cells #[.slice (some ⟨w1.heap.size + 4, 0, none⟩) 1 1, .slice (some ⟨w1.heap.size + 5, 0, none⟩) 1 1] 22]) _
  refine (order_any _ _ _ [0] [[1], [1]] [[2], [2]] _ (sl_wn w1 _ 0 [0] 3 1 rfl) (rws_wn2 w1 _ 3 1 2 [1] [1] 22 3 2 1 1 rfl rfl rfl) (rws_wn2 w1 _ 6 4 5 [2] [2] 22 3 2 1 1 rfl rfl rfl)).mono ?_
  intro e w2 hp
  rw [E2.out] at hp
  obtain ⟨a2, c2, rfl, ht⟩ := hp.no
  have HA := Lib.hid (HA.out.touch ((Wn_touch w1 [.cells #[.int .i64 0] 3, .cells #[.int .i64 1] 3, .cells #[.int .i64 1] 3, .cells #[.slice (some ⟨w1.heap.size + 1, 0, none⟩) 1 1, .slice (some ⟨w1.heap.size + 2, 0, none⟩) 1 1] 22, .cells #[.int .i64 2] 3, .cells #[.int .i64 2] 3, .cells #[.slice (some ⟨w1.heap.size + 4, 0, none⟩) 1 1, .slice (some ⟨w1.heap.size + 5, 0, none⟩) 1 1] 22]).trans ht) (fun _ _ => by simp))
  have hu := (Wn_touch w1 [.cells #[.int .i64 0] 3, .cells #[.int .i64 1] 3, .cells #[.int .i64 1] 3, .cells #[.slice (some ⟨w1.heap.size + 1, 0, none⟩) 1 1, .slice (some ⟨w1.heap.size + 2, 0, none⟩) 1 1] 22, .cells #[.int .i64 2] 3, .cells #[.int .i64 2] 3, .cells #[.slice (some ⟨w1.heap.size + 4, 0, none⟩) 1 1, .slice (some ⟨w1.heap.size + 5, 0, none⟩) 1 1] 22]).trans ht
  have HT := Lib.hid (HT.out.trans hu)
  clear hu ht
  clear hp
  go_wp2_with fail
  change Calls _ _ _ (Wn w2 [.cells #[.int .i64 0, .int .i64 1] 3]) _
  refine (ints_q _ _ [0, 1] [0, 1] true _ (HA.out.touch (Wn_touch w2 [.cells #[.int .i64 0, .int .i64 1] 3]) (by simp)) (sl_wn w2 _ 0 [0, 1] 3 2 rfl) (by simp) (by simp) (by decide)).mono ?_
  rintro e w3 ⟨rfl, ht⟩
  have hu := (Wn_touch w2 [.cells #[.int .i64 0, .int .i64 1] 3]).trans ht
  have HT := Lib.hid (HT.out.trans hu)
  clear hu ht
  go_wp2_with fail
  change Calls _ _ _ (Wn w3 [.cells #[.int .i64 1] 3, .cells #[.int .i64 1] 3, .cells #[.slice (some ⟨w3.heap.size + 1, 0, none⟩) 1 1] 22, .cells #[.int .i64 2] 3, .cells #[.slice (some ⟨w3.heap.size + 3, 0, none⟩) 1 1] 22]) _
  refine (safe_any _ _ _ [1] [[1]] [[2]] true _ (sl_wn w3 _ 0 [1] 3 1 rfl) (rws_wn1 w3 _ 2 1 [1] 22 3 1 1 rfl rfl) (rws_wn1 w3 _ 4 3 [2] 22 3 1 1 rfl rfl) (by decide +kernel)).mono ?_
  rintro e w4 ⟨rfl, ht⟩
  have hu := (Wn_touch w3 [.cells #[.int .i64 1] 3, .cells #[.int .i64 1] 3, .cells #[.slice (some ⟨w3.heap.size + 1, 0, none⟩) 1 1] 22, .cells #[.int .i64 2] 3, .cells #[.slice (some ⟨w3.heap.size + 3, 0, none⟩) 1 1] 22]).trans ht
  have HT := Lib.hid (HT.out.trans hu)
  clear hu ht
  go_wp2_with fail
  change Calls _ _ _ (Wn w4 [.cells #[.int .i64 0] 3, .cells #[.int .i64 1] 3, .cells #[.slice (some ⟨w4.heap.size + 1, 0, none⟩) 1 1] 22, .cells #[.int .i64 2] 3, .cells #[.slice (some ⟨w4.heap.size + 3, 0, none⟩) 1 1] 22]) _
  refine (safe_any _ _ _ [0] [[1]] [[2]] false _ (sl_wn w4 _ 0 [0] 3 1 rfl) (rws_wn1 w4 _ 2 1 [1] 22 3 1 1 rfl rfl) (rws_wn1 w4 _ 4 3 [2] 22 3 1 1 rfl rfl) (by decide +kernel)).mono ?_
  rintro e w5 ⟨rfl, ht⟩
  have hu := (Wn_touch w4 [.cells #[.int .i64 0] 3, .cells #[.int .i64 1] 3, .cells #[.slice (some ⟨w4.heap.size + 1, 0, none⟩) 1 1] 22, .cells #[.int .i64 2] 3, .cells #[.slice (some ⟨w4.heap.size + 3, 0, none⟩) 1 1] 22]).trans ht
  have HT := Lib.hid (HT.out.trans hu)
  clear hu ht
  go_wp2_with fail
  change Calls _ _ _ (Wn w5 []) _
  refine (may_any _ _ _ [] [] [] true _ (Sl.nil _) (Rws.nil _) (Rws.nil _) (by decide +kernel)).mono ?_
  rintro e w6 ⟨rfl, ht⟩
  have hu := (Wn_touch w5 []).trans ht
  have HT := Lib.hid (HT.out.trans hu)
  clear hu ht
  go_wp2_with fail
  change Calls _ _ _ (Wn w6 [.cells #[.int .i64 1] 3, .cells #[.int .i64 2] 3, .cells #[.slice (some ⟨w6.heap.size + 1, 0, none⟩) 1 1] 22, .cells #[.int .i64 1] 3, .cells #[.slice (some ⟨w6.heap.size + 3, 0, none⟩) 1 1] 22]) _
  refine (may_any _ _ _ [1] [[2]] [[1]] false _ (sl_wn w6 _ 0 [1] 3 1 rfl) (rws_wn1 w6 _ 2 1 [2] 22 3 1 1 rfl rfl) (rws_wn1 w6 _ 4 3 [1] 22 3 1 1 rfl rfl) (by decide +kernel)).mono ?_
  rintro e w7 ⟨rfl, ht⟩
  have hu := (Wn_touch w6 [.cells #[.int .i64 1] 3, .cells #[.int .i64 2] 3, .cells #[.slice (some ⟨w6.heap.size + 1, 0, none⟩) 1 1] 22, .cells #[.int .i64 1] 3, .cells #[.slice (some ⟨w6.heap.size + 3, 0, none⟩) 1 1] 22]).trans ht
  have HT := Lib.hid (HT.out.trans hu)
  clear hu ht
  go_wp2_with fail
  change Calls _ _ _ (Wn w7 [.cells #[.int .i64 1] 3, .cells #[.int .i64 1] 3, .cells #[.int .i64 1] 3, .cells #[.slice (some ⟨w7.heap.size + 1, 0, none⟩) 1 1, .slice (some ⟨w7.heap.size + 2, 0, none⟩) 1 1] 22, .cells #[.int .i64 2] 3, .cells #[.int .i64 3] 3, .cells #[.slice (some ⟨w7.heap.size + 4, 0, none⟩) 1 1, .slice (some ⟨w7.heap.size + 5, 0, none⟩) 1 1] 22, .cells #[.int .i64 0, .int .i64 1] 3]) _
  refine (compl_any _ _ _ _ [1] [[1], [1]] [[2], [3]] [0, 1] true _ (sl_wn w7 _ 0 [1] 3 1 rfl) (rws_wn2 w7 _ 3 1 2 [1] [1] 22 3 2 1 1 rfl rfl rfl) (rws_wn2 w7 _ 6 4 5 [2] [3] 22 3 2 1 1 rfl rfl rfl) (sl_wn w7 _ 7 [0, 1] 3 2 rfl) (by decide +kernel)).mono ?_
  rintro e w8 ⟨rfl, ht⟩
  have hu := (Wn_touch w7 [.cells #[.int .i64 1] 3, .cells #[.int .i64 1] 3, .cells #[.int .i64 1] 3, .cells #[.slice (some ⟨w7.heap.size + 1, 0, none⟩) 1 1, .slice (some ⟨w7.heap.size + 2, 0, none⟩) 1 1] 22, .cells #[.int .i64 2] 3, .cells #[.int .i64 3] 3, .cells #[.slice (some ⟨w7.heap.size + 4, 0, none⟩) 1 1, .slice (some ⟨w7.heap.size + 5, 0, none⟩) 1 1] 22, .cells #[.int .i64 0, .int .i64 1] 3]).trans ht
  have HT := Lib.hid (HT.out.trans hu)
  clear hu ht
  go_wp2_with fail
  change Calls _ _ _ (Wn w8 [.cells #[.int .i64 1] 3, .cells #[.int .i64 1] 3, .cells #[.int .i64 1] 3, .cells #[.slice (some ⟨w8.heap.size + 1, 0, none⟩) 1 1, .slice (some ⟨w8.heap.size + 2, 0, none⟩) 1 1] 22, .cells #[.int .i64 2] 3, .cells #[.int .i64 3] 3, .cells #[.slice (some ⟨w8.heap.size + 4, 0, none⟩) 1 1, .slice (some ⟨w8.heap.size + 5, 0, none⟩) 1 1] 22, .cells #[.int .i64 1, .int .i64 0] 3]) _
  refine (compl_any _ _ _ _ [1] [[1], [1]] [[2], [3]] [1, 0] false _ (sl_wn w8 _ 0 [1] 3 1 rfl) (rws_wn2 w8 _ 3 1 2 [1] [1] 22 3 2 1 1 rfl rfl rfl) (rws_wn2 w8 _ 6 4 5 [2] [3] 22 3 2 1 1 rfl rfl rfl) (sl_wn w8 _ 7 [1, 0] 3 2 rfl) (by decide +kernel)).mono ?_
  rintro e w9 ⟨rfl, ht⟩
  have hu := (Wn_touch w8 [.cells #[.int .i64 1] 3, .cells #[.int .i64 1] 3, .cells #[.int .i64 1] 3, .cells #[.slice (some ⟨w8.heap.size + 1, 0, none⟩) 1 1, .slice (some ⟨w8.heap.size + 2, 0, none⟩) 1 1] 22, .cells #[.int .i64 2] 3, .cells #[.int .i64 3] 3, .cells #[.slice (some ⟨w8.heap.size + 4, 0, none⟩) 1 1, .slice (some ⟨w8.heap.size + 5, 0, none⟩) 1 1] 22, .cells #[.int .i64 1, .int .i64 0] 3]).trans ht
  have HT := Lib.hid (HT.out.trans hu)
  clear hu ht
  go_wp2
  go_ret
  exact ⟨rfl, HT.out⟩
end Go.Proofs.Ytdonkecclebcdaa
