/-
  What is asked beside: awake.
-/
import Derived.Test.YtckppinobkkegaaDoorVZ
import Derived.Test.YtckppinobkkegaaDoorI
import Derived.Deep.Cut
set_option linter.unusedVariables false
namespace Go.Proofs.YtckppinobkkegaaDoor
open Go Go.RowKit

theorem codeA : ∀ i, i < 3 → ∀ j, j < 3 → (#[.int .i64 2, .int .i64 1, .int .i64 0, .int .i64 38, .int .i64 0, .int .i64 0, .int .i64 27, .int .i64 0, .int .i64 0] : Array Value)[i * 3 + j]? = some (.int .i64 (zA i j)) := fun i hi j hj => by
  rcases (by omega : i = 0 ∨ i = 1 ∨ i = 2) with rfl | rfl | rfl <;> rcases (by omega : j = 0 ∨ j = 1 ∨ j = 2) with rfl | rfl | rfl <;> rfl
theorem codeB : ∀ i, i < 2 → ∀ j, j < 3 → (#[.int .i64 9, .int .i64 0, .int .i64 0, .int .i64 27, .int .i64 0, .int .i64 0] : Array Value)[i * 3 + j]? = some (.int .i64 (zB i j)) := fun i hi j hj => by
  rcases (by omega : i = 0 ∨ i = 1) with rfl | rfl <;> rcases (by omega : j = 0 ∨ j = 1 ∨ j = 2) with rfl | rfl | rfl <;> rfl
theorem codeC : ∀ i, i < 1 → ∀ j, j < 3 → (#[.int .i64 1, .int .i64 0, .int .i64 0] : Array Value)[i * 3 + j]? = some (.int .i64 (zC i j)) := fun i hi j hj => by
  obtain rfl : i = 0 := by omega
  rcases (by omega : j = 0 ∨ j = 1 ∨ j = 2) with rfl | rfl | rfl <;> rfl
set_option maxHeartbeats 64000000 in
set_option maxRecDepth 100000 in
theorem awake_any (w : World) (hv : Vs w) : Calls Tryd.prog 7 #[] w fun e w' => e = .returned (.bool true) ∧ Touch [] w w' := by
  have HV := Lib.hid hv
  clear hv
  obtain ⟨Z, hZ⟩ : ∃ z, w.heap.size = z := ⟨_, rfl⟩
  go_enter Tryd.func7, Tryd.ntmps7
  go_upto_region 2 with fail
  have t1 : Touch [] w (w.alloc (.cells #[.int .i64 2, .int .i64 1, .int .i64 0, .int .i64 38, .int .i64 0, .int .i64 0, .int .i64 27, .int .i64 0, .int .i64 0] 40)) := (Touch.refl [] w).alloc _
  have b1 : Blk (w.alloc (.cells #[.int .i64 2, .int .i64 1, .int .i64 0, .int .i64 38, .int .i64 0, .int .i64 0, .int .i64 27, .int .i64 0, .int .i64 0] 40)) Z #[.int .i64 2, .int .i64 1, .int .i64 0, .int .i64 38, .int .i64 0, .int .i64 0, .int .i64 27, .int .i64 0, .int .i64 0] 40 := Blk.new hZ.symm
  have s1 : (w.alloc (.cells #[.int .i64 2, .int .i64 1, .int .i64 0, .int .i64 38, .int .i64 0, .int .i64 0, .int .i64 27, .int .i64 0, .int .i64 0] 40)).heap.size = Z + 1 := by simp [hZ]
  have t2 : Touch [] (w.alloc (.cells #[.int .i64 2, .int .i64 1, .int .i64 0, .int .i64 38, .int .i64 0, .int .i64 0, .int .i64 27, .int .i64 0, .int .i64 0] 40)) ((w.alloc (.cells #[.int .i64 2, .int .i64 1, .int .i64 0, .int .i64 38, .int .i64 0, .int .i64 0, .int .i64 27, .int .i64 0, .int .i64 0] 40)).alloc (.cells #[.int .i64 0, .int .i64 0, .int .i64 0] 42)) := (Touch.refl [] _).alloc _
  have b2 : Blk ((w.alloc (.cells #[.int .i64 2, .int .i64 1, .int .i64 0, .int .i64 38, .int .i64 0, .int .i64 0, .int .i64 27, .int .i64 0, .int .i64 0] 40)).alloc (.cells #[.int .i64 0, .int .i64 0, .int .i64 0] 42)) (Z + 1) #[.int .i64 0, .int .i64 0, .int .i64 0] 42 := Blk.new s1.symm
  have s2 : ((w.alloc (.cells #[.int .i64 2, .int .i64 1, .int .i64 0, .int .i64 38, .int .i64 0, .int .i64 0, .int .i64 27, .int .i64 0, .int .i64 0] 40)).alloc (.cells #[.int .i64 0, .int .i64 0, .int .i64 0] 42)).heap.size = Z + 1 + 1 := by simp [hZ]
  have t3 : Touch [] ((w.alloc (.cells #[.int .i64 2, .int .i64 1, .int .i64 0, .int .i64 38, .int .i64 0, .int .i64 0, .int .i64 27, .int .i64 0, .int .i64 0] 40)).alloc (.cells #[.int .i64 0, .int .i64 0, .int .i64 0] 42)) (((w.alloc (.cells #[.int .i64 2, .int .i64 1, .int .i64 0, .int .i64 38, .int .i64 0, .int .i64 0, .int .i64 27, .int .i64 0, .int .i64 0] 40)).alloc (.cells #[.int .i64 0, .int .i64 0, .int .i64 0] 42)).alloc (.cells #[.slice none 0 0] 25)) := (Touch.refl [] _).alloc _
  have b3 : Blk (((w.alloc (.cells #[.int .i64 2, .int .i64 1, .int .i64 0, .int .i64 38, .int .i64 0, .int .i64 0, .int .i64 27, .int .i64 0, .int .i64 0] 40)).alloc (.cells #[.int .i64 0, .int .i64 0, .int .i64 0] 42)).alloc (.cells #[.slice none 0 0] 25)) (Z + 1 + 1) #[.slice none 0 0] 25 := Blk.new s2.symm
  have s3 : (((w.alloc (.cells #[.int .i64 2, .int .i64 1, .int .i64 0, .int .i64 38, .int .i64 0, .int .i64 0, .int .i64 27, .int .i64 0, .int .i64 0] 40)).alloc (.cells #[.int .i64 0, .int .i64 0, .int .i64 0] 42)).alloc (.cells #[.slice none 0 0] 25)).heap.size = Z + 1 + 1 + 1 := by simp [hZ]
  have t4 : Touch [] (((w.alloc (.cells #[.int .i64 2, .int .i64 1, .int .i64 0, .int .i64 38, .int .i64 0, .int .i64 0, .int .i64 27, .int .i64 0, .int .i64 0] 40)).alloc (.cells #[.int .i64 0, .int .i64 0, .int .i64 0] 42)).alloc (.cells #[.slice none 0 0] 25)) ((((w.alloc (.cells #[.int .i64 2, .int .i64 1, .int .i64 0, .int .i64 38, .int .i64 0, .int .i64 0, .int .i64 27, .int .i64 0, .int .i64 0] 40)).alloc (.cells #[.int .i64 0, .int .i64 0, .int .i64 0] 42)).alloc (.cells #[.slice none 0 0] 25)).alloc (.cells #[.slice (some ⟨Z, 0, none⟩) 3 3, .slice (some ⟨Z + 1, 0, none⟩) 1 1, .slice none 0 0, .int .i64 0, .slice none 0 0, .slice none 0 0, .slice (some ⟨Z + 1 + 1, 0, none⟩) 1 1, .slice none 0 0, .int .i64 0] 29)) := (Touch.refl [] _).alloc _
  have b4 : Blk ((((w.alloc (.cells #[.int .i64 2, .int .i64 1, .int .i64 0, .int .i64 38, .int .i64 0, .int .i64 0, .int .i64 27, .int .i64 0, .int .i64 0] 40)).alloc (.cells #[.int .i64 0, .int .i64 0, .int .i64 0] 42)).alloc (.cells #[.slice none 0 0] 25)).alloc (.cells #[.slice (some ⟨Z, 0, none⟩) 3 3, .slice (some ⟨Z + 1, 0, none⟩) 1 1, .slice none 0 0, .int .i64 0, .slice none 0 0, .slice none 0 0, .slice (some ⟨Z + 1 + 1, 0, none⟩) 1 1, .slice none 0 0, .int .i64 0] 29)) (Z + 1 + 1 + 1) #[.slice (some ⟨Z, 0, none⟩) 3 3, .slice (some ⟨Z + 1, 0, none⟩) 1 1, .slice none 0 0, .int .i64 0, .slice none 0 0, .slice none 0 0, .slice (some ⟨Z + 1 + 1, 0, none⟩) 1 1, .slice none 0 0, .int .i64 0] 29 := Blk.new s3.symm
  have HAW : Hid (Aw w ((((w.alloc (.cells #[.int .i64 2, .int .i64 1, .int .i64 0, .int .i64 38, .int .i64 0, .int .i64 0, .int .i64 27, .int .i64 0, .int .i64 0] 40)).alloc (.cells #[.int .i64 0, .int .i64 0, .int .i64 0] 42)).alloc (.cells #[.slice none 0 0] 25)).alloc (.cells #[.slice (some ⟨Z, 0, none⟩) 3 3, .slice (some ⟨Z + 1, 0, none⟩) 1 1, .slice none 0 0, .int .i64 0, .slice none 0 0, .slice none 0 0, .slice (some ⟨Z + 1 + 1, 0, none⟩) 1 1, .slice none 0 0, .int .i64 0] 29)) Z Z 3 zA #[.int .i64 2, .int .i64 1, .int .i64 0, .int .i64 38, .int .i64 0, .int .i64 0, .int .i64 27, .int .i64 0, .int .i64 0]) := Lib.hid ⟨b4, ((b1.touch t2 (by simp)).touch t3 (by simp)).touch t4 (by simp), (b2.touch t3 (by simp)).touch t4 (by simp), b3.touch t4 (by simp), ((t1.trans t2).trans t3).trans t4, hZ⟩
  obtain ⟨wA, hwA⟩ : ∃ x, ((((w.alloc (.cells #[.int .i64 2, .int .i64 1, .int .i64 0, .int .i64 38, .int .i64 0, .int .i64 0, .int .i64 27, .int .i64 0, .int .i64 0] 40)).alloc (.cells #[.int .i64 0, .int .i64 0, .int .i64 0] 42)).alloc (.cells #[.slice none 0 0] 25)).alloc (.cells #[.slice (some ⟨Z, 0, none⟩) 3 3, .slice (some ⟨Z + 1, 0, none⟩) 1 1, .slice none 0 0, .int .i64 0, .slice none 0 0, .slice none 0 0, .slice (some ⟨Z + 1 + 1, 0, none⟩) 1 1, .slice none 0 0, .int .i64 0] 29)) = x := ⟨_, rfl⟩
  rw [hwA] at HAW ⊢
  clear t1 t2 t3 t4 b1 b2 b3 b4 s1 s2 s3 hwA hZ
  have p0 : wA.cell? ⟨Z + 1 + 1 + 1, 0, none⟩ = some (.slice (some ⟨Z, 0, none⟩) 3 3) := HAW.out.p.cell rfl
  have p1 : wA.cell? ⟨Z + 1 + 1 + 1, 1, none⟩ = some (.slice (some ⟨Z + 1, 0, none⟩) 1 1) := HAW.out.p.cell rfl
  have p2 : wA.cell? ⟨Z + 1 + 1 + 1, 2, none⟩ = some (.slice none 0 0) := HAW.out.p.cell rfl
  have p3 : wA.cell? ⟨Z + 1 + 1 + 1, 3, none⟩ = some (.int .i64 0) := HAW.out.p.cell rfl
  have p4 : wA.cell? ⟨Z + 1 + 1 + 1, 4, none⟩ = some (.slice none 0 0) := HAW.out.p.cell rfl
  have p5 : wA.cell? ⟨Z + 1 + 1 + 1, 5, none⟩ = some (.slice none 0 0) := HAW.out.p.cell rfl
  have p6 : wA.cell? ⟨Z + 1 + 1 + 1, 6, none⟩ = some (.slice (some ⟨Z + 1 + 1, 0, none⟩) 1 1) := HAW.out.p.cell rfl
  have p7 : wA.cell? ⟨Z + 1 + 1 + 1, 7, none⟩ = some (.slice none 0 0) := HAW.out.p.cell rfl
  have p8 : wA.cell? ⟨Z + 1 + 1 + 1, 8, none⟩ = some (.int .i64 0) := HAW.out.p.cell rfl
  go_wp2_with fail
  clear p0 p1 p2 p3 p4 p5 p6 p7 p8
  refine (check_any _ (mini 3 zA) wA (HV.out.touch HAW.out.t) (HAW.out.pg codeA) (mini_len (by decide))).mono ?_
  rintro e w1 ⟨t, c, rfl, hr, ht⟩
  obtain ⟨rfl, rfl⟩ := hr.uniq chkA
  have HA1 := Lib.hid (HAW.out.touch ht)
  clear hr ht
  have p0 : w1.cell? ⟨Z + 1 + 1 + 1, 0, none⟩ = some (.slice (some ⟨Z, 0, none⟩) 3 3) := HA1.out.p.cell rfl
  have p1 : w1.cell? ⟨Z + 1 + 1 + 1, 1, none⟩ = some (.slice (some ⟨Z + 1, 0, none⟩) 1 1) := HA1.out.p.cell rfl
  have p2 : w1.cell? ⟨Z + 1 + 1 + 1, 2, none⟩ = some (.slice none 0 0) := HA1.out.p.cell rfl
  have p3 : w1.cell? ⟨Z + 1 + 1 + 1, 3, none⟩ = some (.int .i64 0) := HA1.out.p.cell rfl
  have p4 : w1.cell? ⟨Z + 1 + 1 + 1, 4, none⟩ = some (.slice none 0 0) := HA1.out.p.cell rfl
  have p5 : w1.cell? ⟨Z + 1 + 1 + 1, 5, none⟩ = some (.slice none 0 0) := HA1.out.p.cell rfl
  have p6 : w1.cell? ⟨Z + 1 + 1 + 1, 6, none⟩ = some (.slice (some ⟨Z + 1 + 1, 0, none⟩) 1 1) := HA1.out.p.cell rfl
  have p7 : w1.cell? ⟨Z + 1 + 1 + 1, 7, none⟩ = some (.slice none 0 0) := HA1.out.p.cell rfl
  have p8 : w1.cell? ⟨Z + 1 + 1 + 1, 8, none⟩ = some (.int .i64 0) := HA1.out.p.cell rfl
  go_wp2_with fail
  clear p0 p1 p2 p3 p4 p5 p6 p7 p8
  refine (deps_any _ (mini 3 zA) 0 w1 (HV.out.touch HA1.out.t) (HA1.out.pg codeA) (mini_len (by decide))).mono ?_
  rintro e w2 ⟨ht, hd⟩
  have HA2 := Lib.hid (HA1.out.touch ht)
  rcases hd with ⟨v, D, _, _, _, _, _, rfl, hf, hs⟩ | ⟨hn, _⟩
  case inr =>
    have hz := chkA.zero rfl
    exact absurd ⟨hz.1, hz.2.1, hz.2.2.1, by decide, by decide⟩ hn
  obtain rfl : D = [0, 1, 0] := Full.uniq (show Full (flow (mini 3 zA) 0) D from hf) fullA (flow_may (mini_tab (by decide) (by decide)) (by decide) insA)
  have HS2 := Lib.hid hs
  clear hf hs ht
  have p0 : w2.cell? ⟨Z + 1 + 1 + 1, 0, none⟩ = some (.slice (some ⟨Z, 0, none⟩) 3 3) := HA2.out.p.cell rfl
  have p1 : w2.cell? ⟨Z + 1 + 1 + 1, 1, none⟩ = some (.slice (some ⟨Z + 1, 0, none⟩) 1 1) := HA2.out.p.cell rfl
  have p2 : w2.cell? ⟨Z + 1 + 1 + 1, 2, none⟩ = some (.slice none 0 0) := HA2.out.p.cell rfl
  have p3 : w2.cell? ⟨Z + 1 + 1 + 1, 3, none⟩ = some (.int .i64 0) := HA2.out.p.cell rfl
  have p4 : w2.cell? ⟨Z + 1 + 1 + 1, 4, none⟩ = some (.slice none 0 0) := HA2.out.p.cell rfl
  have p5 : w2.cell? ⟨Z + 1 + 1 + 1, 5, none⟩ = some (.slice none 0 0) := HA2.out.p.cell rfl
  have p6 : w2.cell? ⟨Z + 1 + 1 + 1, 6, none⟩ = some (.slice (some ⟨Z + 1 + 1, 0, none⟩) 1 1) := HA2.out.p.cell rfl
  have p7 : w2.cell? ⟨Z + 1 + 1 + 1, 7, none⟩ = some (.slice none 0 0) := HA2.out.p.cell rfl
  have p8 : w2.cell? ⟨Z + 1 + 1 + 1, 8, none⟩ = some (.int .i64 0) := HA2.out.p.cell rfl
  go_wp2_with fail
  clear p0 p1 p2 p3 p4 p5 p6 p7 p8
  refine (deps_any _ (mini 3 zA) 1 w2 (HV.out.touch HA2.out.t) (HA2.out.pg codeA) (mini_len (by decide))).mono ?_
  rintro e w3 ⟨ht, hd⟩
  have HA3 := Lib.hid (HA2.out.touch ht)
  have HS3 := Lib.hid (HS2.out.touch ht (by simp))
  have HNB := Lib.hid (sl_not_blk HS3.out HA3.out.p (j := 1) (by decide) box_not)
  rcases hd with ⟨_, _, _, _, _, _, h1, _, _, _⟩ | ⟨_, rfl⟩
  case inl => exact absurd h1 (by decide)
  clear ht
  have hp3 : (w3.alloc (.cells #[.int .i64 9, .int .i64 0, .int .i64 0, .int .i64 27, .int .i64 0, .int .i64 0] 40)).cell? ⟨Z + 1 + 1 + 1, 0, none⟩ = some (.slice (some ⟨Z, 0, none⟩) 3 3) := (HA3.out.p.alloc _).cell rfl
  have hp4 := (HA3.out.p.alloc (.cells #[.int .i64 9, .int .i64 0, .int .i64 0, .int .i64 27, .int .i64 0, .int .i64 0] 40)).free 0
  go_upto_region 6 with fail
  clear hp3 hp4
  have HA4 : Hid (Aw w ((w3.alloc (.cells #[.int .i64 9, .int .i64 0, .int .i64 0, .int .i64 27, .int .i64 0, .int .i64 0] 40)).setCell ⟨Z + 1 + 1 + 1, 0, none⟩ (.slice (some ⟨w3.heap.size, 0, none⟩) 2 2)) Z w3.heap.size 2 zB #[.int .i64 9, .int .i64 0, .int .i64 0, .int .i64 27, .int .i64 0, .int .i64 0]) := Lib.hid (HA3.out.turn _)
  have HS4 : Hid (Sl ((w3.alloc (.cells #[.int .i64 9, .int .i64 0, .int .i64 0, .int .i64 27, .int .i64 0, .int .i64 0] 40)).setCell ⟨Z + 1 + 1 + 1, 0, none⟩ (.slice (some ⟨w3.heap.size, 0, none⟩) 2 2)) v [0, 1, 0]) := Lib.hid ((HS3.out.alloc _).touch ((Touch.refl [Z + 1 + 1 + 1] _).setCell (by simp) _) (fun b hb hm => HNB.out (by rw [hb, List.mem_singleton.1 hm])))
  obtain ⟨gw4, hgw4⟩ : ∃ x, w3.heap.size = x := ⟨_, rfl⟩
  rw [hgw4] at HA4 HS4
  obtain ⟨w4, hw4⟩ : ∃ x, (w3.alloc (.cells #[.int .i64 9, .int .i64 0, .int .i64 0, .int .i64 27, .int .i64 0, .int .i64 0] 40)).setCell ⟨Z + 1 + 1 + 1, 0, none⟩ (.slice (some ⟨gw4, 0, none⟩) 2 2) = x := ⟨_, rfl⟩
  rw [hw4] at HA4 HS4
  rw [hgw4, hw4]
  clear hw4 hgw4
  have p0 : w4.cell? ⟨Z + 1 + 1 + 1, 0, none⟩ = some (.slice (some ⟨gw4, 0, none⟩) 2 2) := HA4.out.p.cell rfl
  have p1 : w4.cell? ⟨Z + 1 + 1 + 1, 1, none⟩ = some (.slice (some ⟨Z + 1, 0, none⟩) 1 1) := HA4.out.p.cell rfl
  have p2 : w4.cell? ⟨Z + 1 + 1 + 1, 2, none⟩ = some (.slice none 0 0) := HA4.out.p.cell rfl
  have p3 : w4.cell? ⟨Z + 1 + 1 + 1, 3, none⟩ = some (.int .i64 0) := HA4.out.p.cell rfl
  have p4 : w4.cell? ⟨Z + 1 + 1 + 1, 4, none⟩ = some (.slice none 0 0) := HA4.out.p.cell rfl
  have p5 : w4.cell? ⟨Z + 1 + 1 + 1, 5, none⟩ = some (.slice none 0 0) := HA4.out.p.cell rfl
  have p6 : w4.cell? ⟨Z + 1 + 1 + 1, 6, none⟩ = some (.slice (some ⟨Z + 1 + 1, 0, none⟩) 1 1) := HA4.out.p.cell rfl
  have p7 : w4.cell? ⟨Z + 1 + 1 + 1, 7, none⟩ = some (.slice none 0 0) := HA4.out.p.cell rfl
  have p8 : w4.cell? ⟨Z + 1 + 1 + 1, 8, none⟩ = some (.int .i64 0) := HA4.out.p.cell rfl
  go_wp2_with fail
  clear p0 p1 p2 p3 p4 p5 p6 p7 p8
  refine (check_any _ (mini 2 zB) w4 (HV.out.touch HA4.out.t) (HA4.out.pg codeB) (mini_len (by decide))).mono ?_
  rintro e w5 ⟨t, c, rfl, hr, ht⟩
  obtain ⟨rfl, rfl⟩ := hr.uniq chkB
  have HA5 := Lib.hid (HA4.out.touch ht)
  have HS5 := Lib.hid (HS4.out.touch ht (by simp))
  clear hr ht
  have hp3 : (w5.alloc (.cells #[.int .i64 1, .int .i64 0, .int .i64 0] 40)).cell? ⟨Z + 1 + 1 + 1, 0, none⟩ = some (.slice (some ⟨gw4, 0, none⟩) 2 2) := (HA5.out.p.alloc _).cell rfl
  have hp4 := (HA5.out.p.alloc (.cells #[.int .i64 1, .int .i64 0, .int .i64 0] 40)).free 0
  go_upto_region 8 with fail
  clear hp3 hp4
  have HA6 : Hid (Aw w ((w5.alloc (.cells #[.int .i64 1, .int .i64 0, .int .i64 0] 40)).setCell ⟨Z + 1 + 1 + 1, 0, none⟩ (.slice (some ⟨w5.heap.size, 0, none⟩) 1 1)) Z w5.heap.size 1 zC #[.int .i64 1, .int .i64 0, .int .i64 0]) := Lib.hid (HA5.out.turn _)
  have HS6 : Hid (Sl ((w5.alloc (.cells #[.int .i64 1, .int .i64 0, .int .i64 0] 40)).setCell ⟨Z + 1 + 1 + 1, 0, none⟩ (.slice (some ⟨w5.heap.size, 0, none⟩) 1 1)) v [0, 1, 0]) := Lib.hid ((HS5.out.alloc _).touch ((Touch.refl [Z + 1 + 1 + 1] _).setCell (by simp) _) (fun b hb hm => HNB.out (by rw [hb, List.mem_singleton.1 hm])))
  obtain ⟨gw6, hgw6⟩ : ∃ x, w5.heap.size = x := ⟨_, rfl⟩
  rw [hgw6] at HA6 HS6
  obtain ⟨w6, hw6⟩ : ∃ x, (w5.alloc (.cells #[.int .i64 1, .int .i64 0, .int .i64 0] 40)).setCell ⟨Z + 1 + 1 + 1, 0, none⟩ (.slice (some ⟨gw6, 0, none⟩) 1 1) = x := ⟨_, rfl⟩
  rw [hw6] at HA6 HS6
  rw [hgw6, hw6]
  clear hw6 hgw6
  have p0 : w6.cell? ⟨Z + 1 + 1 + 1, 0, none⟩ = some (.slice (some ⟨gw6, 0, none⟩) 1 1) := HA6.out.p.cell rfl
  have p1 : w6.cell? ⟨Z + 1 + 1 + 1, 1, none⟩ = some (.slice (some ⟨Z + 1, 0, none⟩) 1 1) := HA6.out.p.cell rfl
  have p2 : w6.cell? ⟨Z + 1 + 1 + 1, 2, none⟩ = some (.slice none 0 0) := HA6.out.p.cell rfl
  have p3 : w6.cell? ⟨Z + 1 + 1 + 1, 3, none⟩ = some (.int .i64 0) := HA6.out.p.cell rfl
  have p4 : w6.cell? ⟨Z + 1 + 1 + 1, 4, none⟩ = some (.slice none 0 0) := HA6.out.p.cell rfl
  have p5 : w6.cell? ⟨Z + 1 + 1 + 1, 5, none⟩ = some (.slice none 0 0) := HA6.out.p.cell rfl
  have p6 : w6.cell? ⟨Z + 1 + 1 + 1, 6, none⟩ = some (.slice (some ⟨Z + 1 + 1, 0, none⟩) 1 1) := HA6.out.p.cell rfl
  have p7 : w6.cell? ⟨Z + 1 + 1 + 1, 7, none⟩ = some (.slice none 0 0) := HA6.out.p.cell rfl
  have p8 : w6.cell? ⟨Z + 1 + 1 + 1, 8, none⟩ = some (.int .i64 0) := HA6.out.p.cell rfl
  go_wp2_with fail
  clear p0 p1 p2 p3 p4 p5 p6 p7 p8
  refine (check_any _ (mini 1 zC) w6 (HV.out.touch HA6.out.t) (HA6.out.pg codeC) (mini_len (by decide))).mono ?_
  rintro e w7 ⟨t, c, rfl, hr, ht⟩
  obtain ⟨rfl, rfl⟩ := hr.uniq chkC
  have HA7 := Lib.hid (HA6.out.touch ht)
  have HS7 := Lib.hid (HS6.out.touch ht (by simp))
  clear hr ht
  go_wp2_with fail
  refine (check_any _ noP w7 (HV.out.touch HA7.out.t) (noP_pg w7) noP_len).mono ?_
  rintro e w8 ⟨t, c, rfl, hr, ht⟩
  obtain ⟨rfl, rfl⟩ := hr.uniq chkN
  have HT8 := Lib.hid (HA7.out.t.trans ht)
  have HS8 := Lib.hid ((HS7.out.touch ht (by simp)).alloc (.cells #[.int .i64 0, .int .i64 1, .int .i64 0] 3))
  clear hr ht
  have HQ : Hid (Sl (w8.alloc (.cells #[.int .i64 0, .int .i64 1, .int .i64 0] 3)) (.slice (some ⟨w8.heap.size, 0, none⟩) 3 3) [0, 1, 0]) := Lib.hid (Qu.made (w := w8) (base := w8.heap.size) (e := 3) (b := w8.heap.size) (n := 3) (c := #[.int .i64 0, .int .i64 1, .int .i64 0]) rfl (Nat.le_refl _) rfl (by unfold maxLen; omega) : Qu _ _ _ _ (([0, 1, 0] : List Int).map (Value.int .i64))).sl
  go_wp2_with fail
  refine (ints_any _ _ [0, 1, 0] [0, 1, 0] _ HS8.out HQ.out (by decide) (by decide)).mono ?_
  rintro e w9 ⟨rfl, m, rfl⟩
  rw [show EqI [0, 1, 0] [0, 1, 0] = true from by decide]
  go_wp2_with fail
  go_ret
  exact ⟨rfl, (HT8.out.alloc _).drewN m⟩
end Go.Proofs.YtckppinobkkegaaDoor
