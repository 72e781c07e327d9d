/-
  Layer 19: the law's own awakening.
-/
import Derived.Test.YtjfnoondkgjabaaDoorGD
import Derived.LaidEqlPtr
set_option linter.unusedVariables false
namespace Go.Proofs.YtjfnoondkgjabaaDoor
open Go.RowKit Go.BigFrame

theorem ps_new {w : World} {k sb g N n sz : Nat} {f : Nat → Int} (h : Kv w k sb g f N 0 0 0 0 n sz) : Ps w k sb g N n sz f [⟨0, [], []⟩] :=
  ⟨f, ⟨h, rfl, fun j hj => absurd hj (Nat.not_lt_zero _)⟩, fun _ _ => rfl⟩
theorem Ps.lt {w : World} {k sb g N n sz : Nat} {v : Nat → Int} {S : List Frm} (h : Ps w k sb g N n sz v S) : k < w.heap.size ∧ sb < w.heap.size ∧ g < w.heap.size ∧ k ≠ sb ∧ k ≠ g := by
  obtain ⟨f, h, _⟩ := h.ks
  exact ⟨h.1.obj.lt, h.1.st.1.lt, h.1.st.2.1.lt, h.1.n1, h.1.n2⟩
def awC : Array Value := #[.int .i64 2, .int .i64 2, .int .i64 0, .int .i64 2, .int .i64 3, .int .i64 0, .int .i64 10, .int .i64 0, .int .i64 0, .int .i64 38, .int .i64 0, .int .i64 0, .int .i64 27, .int .i64 0, .int .i64 0]
def awP (Z : Nat) : PV := ⟨some ⟨Z, 0, none⟩, 5, 5, some ⟨Z + 1, 0, none⟩, 1, 1, none, 0, 0, 0, none, 0, 0, none, 0, 0, some ⟨Z + 1 + 1, 0, none⟩, 1, 1, none, 0, 0, 0⟩
def awW (w : World) : World := (((w.alloc (.cells awC 48)).alloc (.cells #[.int .i64 0, .int .i64 0, .int .i64 0] 63)).alloc (.cells #[.slice none 0 0] 29)).alloc (.cells (awP w.heap.size).c 33)
structure AwS (w0 w : World) (Z b k G sb g : Nat) (at' : Int) (S : List Frm) : Prop where
  tk : Tk w b k G at'
  ps : Ps w k sb g 10 0 10 (fun _ => 0) S
  code : Blk w Z awC 48
  prog : Blk w (Z + 1 + 1 + 1) (awP Z).c 33
  t : Touch [] w0 w
  n : w0.heap.size ≤ b ∧ w0.heap.size ≤ k ∧ w0.heap.size ≤ sb ∧ w0.heap.size ≤ g ∧ w0.heap.size ≤ G
  z : Z + 3 < b ∧ Z + 3 < k ∧ Z + 3 < sb ∧ Z + 3 < g ∧ Z + 3 < G
  d : b ≠ k ∧ b ≠ g ∧ b ≠ sb ∧ G ≠ k ∧ G ≠ g ∧ G ≠ sb ∧ b ≠ G
section
variable {w0 w w' : World} {Z b k G sb g : Nat} {at' : Int} {S : List Frm}
theorem AwS.still (h : AwS w0 w Z b k G sb g at' S) (ht : Touch [] w w') : AwS w0 w' Z b k G sb g at' S :=
  ⟨h.tk.touch ht (by simp) (by simp), h.ps.still ht, h.code.touch ht (by simp), h.prog.touch ht (by simp), h.t.trans ht, h.n, h.z, h.d⟩
theorem AwS.next (h : AwS w0 w Z b k G sb g at' S) {at2 : Int} {S2 : List Frm} (h1 : Ps w' k sb g 10 0 10 (fun _ => 0) S2) (h2 : Tk w' b k G at2) (ht : Touch [k, g, b] w w') : AwS w0 w' Z b k G sb g at2 S2 := by
  have hn := h.n
  have hz := h.z
  refine ⟨h2, h1, h.code.touch ht (by simp; omega), h.prog.touch ht (by simp; omega), h.t.transF ht (fun i hi hlt => ?_), h.n, h.z, h.d⟩
  simp at hi; omega
theorem AwS.at (h : AwS w0 w Z b k G sb g at' S) (i : Nat) (hi : i < 5) (x y z : Int) (h0 : awC[i * 3]? = some (.int .i64 x)) (h1 : awC[i * 3 + 1]? = some (.int .i64 y)) (h2 : awC[i * 3 + 2]? = some (.int .i64 z)) :
    ∀ w', Touch [] w w' → w'.cell? ⟨Z, 0 + i * 3, none⟩ = some (.int .i64 x) ∧ w'.cell? ⟨Z, 0 + i * 3 + 1, none⟩ = some (.int .i64 y) ∧ w'.cell? ⟨Z, 0 + i * 3 + 2, none⟩ = some (.int .i64 z) := fun w' t => by
  have hb := h.code.touch t (by simp)
  refine ⟨hb.cell (by rw [Nat.zero_add]; exact h0), hb.cell (by rw [Nat.zero_add]; exact h1), hb.cell (by rw [Nat.zero_add]; exact h2)⟩
theorem AwS.cells (h : AwS w0 w Z b k G sb g at' S) : w.cell? ⟨Z + 1 + 1 + 1, 0, none⟩ = some (.slice (some ⟨Z, 0, none⟩) 5 5) ∧ w.cell? ⟨Z + 1 + 1 + 1, 1, none⟩ = some (.slice (some ⟨Z + 1, 0, none⟩) 1 1) ∧ w.cell? ⟨Z + 1 + 1 + 1, 2, none⟩ = some (.slice none 0 0) ∧ w.cell? ⟨Z + 1 + 1 + 1, 3, none⟩ = some (.int .i64 0) ∧ w.cell? ⟨Z + 1 + 1 + 1, 4, none⟩ = some (.slice none 0 0) ∧ w.cell? ⟨Z + 1 + 1 + 1, 5, none⟩ = some (.slice none 0 0) ∧ w.cell? ⟨Z + 1 + 1 + 1, 6, none⟩ = some (.slice (some ⟨Z + 1 + 1, 0, none⟩) 1 1) ∧ w.cell? ⟨Z + 1 + 1 + 1, 7, none⟩ = some (.slice none 0 0) ∧ w.cell? ⟨Z + 1 + 1 + 1, 8, none⟩ = some (.int .i64 0) :=
  ⟨h.prog.cell (i := 0) rfl, h.prog.cell (i := 1) rfl, h.prog.cell (i := 2) rfl, h.prog.cell (i := 3) rfl, h.prog.cell (i := 4) rfl, h.prog.cell (i := 5) rfl, h.prog.cell (i := 6) rfl, h.prog.cell (i := 7) rfl, h.prog.cell (i := 8) rfl⟩
end
def AwD (w0 : World) (Z b k G sb g : Nat) (at' : Int) (S : List Frm) (e : Ending) (w' : World) : Prop := e = .returned (.tuple #[.bool true, .int .i64 0]) ∧ Hid (AwS w0 w' Z b k G sb g at' S)
section
variable {w0 w : World} {Z b k G sb g : Nat}
theorem aw_push {F : Frm} {r S' : List Frm} (i : Nat) (hi : i < 5) (x : Int) (h0 : awC[i * 3]? = some (.int .i64 2)) (h1 : awC[i * 3 + 1]? = some (.int .i64 x)) (h2 : awC[i * 3 + 2]? = some (.int .i64 0)) (hp : (pushM 10 x (F :: r)).1 = 0) (hS : (pushM 10 x (F :: r)).2 = S') (h : AwS w0 w Z b k G sb g i (F :: r)) :
    Calls Tryd.prog 4 #[.pointer (some ⟨b, 0, none⟩), .agg (awP Z).c, .pointer (some ⟨sb, 0, none⟩)] w (AwD w0 Z b k G sb g ((i : Int) + 1) S') := by
  obtain ⟨d1, d2, d3, d4, d5, d6, d7⟩ := h.d
  have hl := h.ps.lt
  refine (do_row (p := awP Z) (o := 2) (a := x) (bb := 0) (v' := fun _ => 0) (S' := S') (c := 0) (nx := (i : Int) + 1) hi (by show (5 : Nat) ≤ _; omega) rfl (h.at i hi 2 x 0 h0 h1 h2) (by omega) (fn := 19) rfl (by omega) h.tk h.ps d1 d2 d3 d4 d5 ?_).mono ?_
  · intro W w' hW ht hb
    exact row_push hp hS (h.tk.touch ht (by simp) (by simp)) hb (h.ps.still ht) (by omega) (by omega)
  · rintro e w' ⟨rfl, H⟩
    exact ⟨rfl, Lib.hid (h.next H.out.1 H.out.2.1 H.out.2.2)⟩
theorem aw_sub {F F1 F2 : Frm} {r S' : List Frm} (hv : Vs w) (x y z : Int) (h1 : popM (F :: r) = (y, 0, F1 :: r)) (h2 : popM (F1 :: r) = (x, 0, F2 :: r)) (ix : InI x) (iy : InI y) (hz : doV 10 x y = z) (hd : doC 10 x y = 0) (hp : (pushM 10 z (F2 :: r)).1 = 0) (hS : (pushM 10 z (F2 :: r)).2 = S') (h : AwS w0 w Z b k G sb g ((2 : Nat) : Int) (F :: r)) :
    Calls Tryd.prog 4 #[.pointer (some ⟨b, 0, none⟩), .agg (awP Z).c, .pointer (some ⟨sb, 0, none⟩)] w (AwD w0 Z b k G sb g 3 S') := by
  obtain ⟨d1, d2, d3, d4, d5, d6, d7⟩ := h.d
  have hl := h.ps.lt
  refine (do_row (p := awP Z) (i := 2) (o := 10) (a := 0) (bb := 0) (v' := fun _ => 0) (S' := S') (c := 0) (nx := 3) (by show 2 < 5; omega) (by show (5 : Nat) ≤ _; omega) rfl (h.at 2 (by omega) 10 0 0 rfl rfl rfl) (by omega) (fn := 30) rfl (by omega) h.tk h.ps d1 d2 d3 d4 d5 ?_).mono ?_
  · intro W w' hW ht hb
    refine (compute2 (c := 0) (hv.touch ht) (by rfl) h1 h2 ix iy hz hd (fun _ => hp) (fun _ => hS) (fun e => absurd rfl e) (h.tk.touch ht (by simp) (by simp)) hb (h.ps.still ht) (by omega) (by omega) d1 d2).mono ?_
    intro e w2 hc
    exact hc.row hb (by omega) (by omega)
  · rintro e w' ⟨rfl, H⟩
    exact ⟨rfl, Lib.hid (h.next H.out.1 H.out.2.1 H.out.2.2)⟩
end
set_option maxRecDepth 100000 in
set_option maxHeartbeats 16000000 in
theorem awake19 (w : World) (hv : Vs w) : Calls Tryd.prog 10 #[] w fun e w' => e = .returned (.bool true) ∧ Touch [] w w' := by
  obtain ⟨ji, hji⟩ := Option.isSome_iff_exists.1 (by kernel_rfl : (Tryd.prog.info? 61).isSome = true)
  have hpe := fun (a : Addr) (w : World) => run_eql_ptr_same w a Tryd.underlying38 hji
  clear hji
  have HV := Lib.hid hv
  have hA : Blk (awW w) w.heap.size awC 48 ∧ Blk (awW w) (w.heap.size + 1 + 1 + 1) (awP w.heap.size).c 33 ∧ Touch [] w (awW w) ∧ (awW w).heap.size = w.heap.size + 4 :=
    ⟨(((Blk.new rfl).alloc _).alloc _).alloc _, Blk.new (by simp), ((((Touch.refl [] w).alloc _).alloc _).alloc _).alloc _, by simp [awW]⟩
  have hs0 := hA.2.2.1
  go_enter Tryd.func10, Tryd.ntmps10
  go_wp2_with fail
  change Calls _ _ _ (awW w) _
  obtain ⟨W1, hW1⟩ : ∃ x, awW w = x := ⟨_, rfl⟩
  rw [hW1] at hA ⊢
  obtain ⟨Z, hZ⟩ : ∃ z, w.heap.size = z := ⟨_, rfl⟩
  have HZ := Lib.hid hZ
  rw [hZ] at hA ⊢
  have HA := Lib.hid hA
  clear hA hs0 hW1 hZ hv
  refine (snew_ok 10 (by omega) _).mono ?_
  rintro e w1 ⟨sb, g, rfl, hst, hsb, hg, ht⟩
  have HS := Lib.hid hst
  have HT := Lib.hid ht
  have HB : Hid (Z + 3 < sb ∧ Z + 3 < g) := Lib.hid (by have := HA.out.2.2.2; omega)
  clear hst ht hsb hg
  go_wp2_with fail
  refine (knew_yes sb g 10 0 10 (fun _ => 0) _ HS.out (by omega) (by omega)).mono ?_
  rintro e w2 ⟨rfl, hk, ht⟩
  have HK := Lib.hid hk
  have HKZ : Hid (Z + 3 < w1.heap.size) := Lib.hid (by have := HA.out.2.2.2; have := HT.out.size; omega)
  have HT2 := Lib.hid (HT.out.trans ht)
  obtain ⟨k, hkk⟩ : ∃ k, w1.heap.size = k := ⟨_, rfl⟩
  rw [hkk] at HK HKZ ⊢
  clear hk ht HS HT hkk
  go_wp2_with fail
  refine (tnew_any k 0 _).mono ?_
  rintro e w3 ⟨b, G, rfl, HN⟩
  have HP0 : Hid (AwS w w3 Z b k G sb g 0 [⟨0, [], []⟩]) := Lib.hid (by
    obtain ⟨n1, n2, n3, n4⟩ := HN.out
    obtain ⟨a1, a2, a3, a4⟩ := HA.out
    have hp := (ps_new HK.out)
    have hl := hp.lt
    have hz := HZ.out
    have hb := HB.out
    have hkz := HKZ.out
    have ha4 : w2.heap.size ≥ Z + 4 := by have := HT2.out.size; omega
    have hps3 := hp.still n4
    refine ⟨n1, hps3, (a1.touch HT2.out (by simp)).touch n4 (by simp), (a2.touch HT2.out (by simp)).touch n4 (by simp), (a3.trans HT2.out).trans n4, by omega, by omega, ?_⟩
    have := n1.ne
    omega)
  clear HN HK HKZ HB HA
  go_wp2_with fail
  refine (tnew_nil 0 _).mono ?_
  rintro e w4 ⟨rfl, rfl⟩
  go_wp2_with fail
  refine (p_call (S' := [⟨-1, [], []⟩, ⟨0, [], []⟩]) (c := 0) (-1) 0 0 (by omega) (by rfl) (by rfl) HP0.out.ps).mono ?_
  rintro e w4 ⟨rfl, hp, ht⟩
  have HP1 : Hid (AwS w w4 Z b k G sb g ((0 : Nat) : Int) [⟨-1, [], []⟩, ⟨0, [], []⟩]) := Lib.hid (HP0.out.next hp (HP0.out.tk.touch ht (by have := HP0.out.d; simp; omega) (by have := HP0.out.d; simp; omega)) (ht.mono (by intro i hi; simp at hi ⊢; omega)))
  clear hp ht HP0
  obtain ⟨x0, x1, x2, x3, x4, x5, x6, x7, x8⟩ := HP1.out.cells
  go_wp2_with fail
  change Calls _ _ #[_, .agg (awP Z).c, _] _ _
  refine (aw_push (S' := [⟨-1, [], [2]⟩, ⟨0, [], []⟩]) 0 (by omega) 2 rfl rfl rfl (by rfl) (by rfl) HP1.out).mono ?_
  rintro e w5 ⟨rfl, HP2⟩
  clear x0 x1 x2 x3 x4 x5 x6 x7 x8
  obtain ⟨x0, x1, x2, x3, x4, x5, x6, x7, x8⟩ := HP2.out.cells
  go_wp2_with fail
  change Calls _ _ #[_, .agg (awP Z).c, _] _ _
  refine (aw_push (S' := [⟨-1, [], [2, 3]⟩, ⟨0, [], []⟩]) 1 (by omega) 3 rfl rfl rfl (by rfl) (by rfl) HP2.out).mono ?_
  rintro e w6 ⟨rfl, HP3⟩
  clear x0 x1 x2 x3 x4 x5 x6 x7 x8
  obtain ⟨x0, x1, x2, x3, x4, x5, x6, x7, x8⟩ := HP3.out.cells
  go_wp2_with fail
  change Calls _ _ #[_, .agg (awP Z).c, _] _ _
  refine (aw_sub (F1 := ⟨-1, [], [2]⟩) (F2 := ⟨-1, [], []⟩) (S' := [⟨-1, [], [-1]⟩, ⟨0, [], []⟩]) (HV.out.touch HP3.out.t) 2 3 (-1) rfl rfl (by decide) (by decide) (by decide) (by decide) (by rfl) (by rfl) HP3.out).mono ?_
  rintro e w7 ⟨rfl, HP4⟩
  clear x0 x1 x2 x3 x4 x5 x6 x7 x8
  go_wp2_with fail
  refine (p_top (F := ⟨-1, [], [-1]⟩) (r := [⟨0, [], []⟩]) (x := -1) (b := true) 0 (by rfl) (by rfl) HP4.out.ps).mono ?_
  rintro e w8 ⟨rfl, ht⟩
  have HP5 := Lib.hid (HP4.out.still ht)
  clear ht
  obtain ⟨x0, x1, x2, x3, x4, x5, x6, x7, x8⟩ := HP5.out.cells
  go_wp2_with fail
  change Calls _ _ #[_, .agg (awP Z).c, _] _ _
  refine (do_kern (p := awP Z) (i := 3) (o := 38) (a := 0) (bb := 0) (g1 := Z) (o1 := 0) (by show 3 < 5; omega) (by show (5 : Nat) ≤ _; omega) rfl (HP5.out.at 3 (by omega) 38 0 0 rfl rfl rfl) (by omega) HP5.out.tk HP5.out.ps).mono ?_
  rintro e w9 ⟨rfl, ht⟩
  have HP6 := Lib.hid (HP5.out.still ht)
  clear ht x0 x1 x2 x3 x4 x5 x6 x7 x8
  go_wp2_with fail
  refine (at_any b k G 3 _ HP6.out.tk).mono ?_
  rintro e w10 ⟨rfl, rfl⟩
  go_wp2_with fail
  refine (goto_any b k G 3 1 _ HP6.out.tk).mono ?_
  rintro e w10 ⟨rfl, htk, ht⟩
  have HP7 := Lib.hid (HP6.out.next (HP6.out.ps.touch ht (by have := HP6.out.d; simp; omega) (by have := HP6.out.d; simp; omega) (by have := HP6.out.d; simp; omega)) htk (ht.mono (by intro i hi; simp at hi ⊢; omega)))
  clear htk ht
  go_wp2_with fail
  refine (at_any b k G 1 _ HP7.out.tk).mono ?_
  rintro e w11 ⟨rfl, rfl⟩
  go_wp2_with fail
  refine (stack_any b k G 1 _ HP7.out.tk).mono ?_
  rintro e w11 ⟨rfl, rfl⟩
  go_wp2_with fail
  go_ret
  exact ⟨rfl, HP7.out.t⟩
end Go.Proofs.YtjfnoondkgjabaaDoor
