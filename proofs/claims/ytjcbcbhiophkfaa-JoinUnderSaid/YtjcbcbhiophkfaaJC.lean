/-
  Who descends from one, as the program tells it: the list.
-/
import Derived.Test.YtjcbcbhiophkfaaJB
import Derived.Laws.EntriesVeiled
set_option linter.unusedVariables false
namespace Go.Proofs.Ytjcbcbhiophkfaa
open Go.RowKit Go.BigFrame

theorem und_succ {ps : Nat → Nat → Int} {n k : Nat} {p : Nat} (hp : ParOk n ps) (hk : k < n) (hpk : p ≤ k) : und ps p (k + 1) = if ubB ps n p ((k : Int) + 1) = true then und ps p k ++ [(k : Int) + 1] else und ps p k := by
  have h1 := und_next (pid := (p : Int)) hp hk
  have h2 := (und_up (ps := ps) (pid := (p : Int)) (x := ps k 1) (k := k) (n := n) (by omega))
  have h4 := (hp k hk).2
  have h5 : (ps k 1 = p ∨ ps k 1 ∈ und ps p k) ↔ ubB ps n p ((k : Int) + 1) = true := by
    unfold ubB
    rw [decide_eq_true_eq, h1, h2]
    constructor
    · rintro (e | e)
      · exact .inr (.inl e)
      · exact .inr (.inr e.1)
    · rintro (e | e | e)
      · omega
      · exact .inl e
      · exact .inr ⟨e, h4⟩
  show (if _ then _ else _) = _
  by_cases h : ps k 1 = p ∨ ps k 1 ∈ und ps p k
  · rw [if_pos h, if_pos (h5.1 h)]
  · rw [if_neg h, if_neg (fun e => h (h5.2 e))]
theorem und_self {ps : Nat → Nat → Int} {n p : Nat} (hp : ParOk n ps) (hpn : p ≤ n) : und ps p p = [] := by
  cases hu : und ps p p with
  | nil => rfl
  | cons x r =>
    have hm : x ∈ und ps p p := by rw [hu]; simp
    have h1 := und_gt hp hpn hm
    have h2 := (und_le hm).2
    omega
theorem und_len (ps : Nat → Nat → Int) (pid : Int) : ∀ k : Nat, (und ps pid k).length ≤ k
  | 0 => Nat.zero_le _
  | k + 1 => by
    have := und_len ps pid k
    show (if _ then _ else _ : List Int).length ≤ _
    split
    · rw [List.length_append, List.length_singleton]; omega
    · omega
/-- What holds at the label, but for the frame. -/
structure JS (b : Nat) (F : List Nat) (most : Int) (n : Nat) (ps : Nat → Nat → Int) (live : List Int) (p h0 X : Nat) (w : World) (k : Nat) (lv : Value) (w' : World) : Prop where
  k1 : p ≤ k
  k2 : k < n
  q : Qu w' (X + 3) 3 lv ((und ps p k).map (Value.int .i64))
  kn : Kn w' X ps n p k
  e : Ev w' (X + 1) (h0 + 1) (X + 1 + 1) h0 X b p
  t : Pt w' b F most n ps live
  tw : Touch [] w w'
  fl : ∀ x ∈ F, x < w.heap.size
  lo : w.heap.size ≤ h0 ∧ h0 + 1 < X
def JR (b : Nat) (F : List Nat) (most : Int) (n : Nat) (ps : Nat → Nat → Int) (live : List Int) (p h0 X : Nat) (w : World) (a' : Act) (w' : World) : Prop :=
  ∃ (k : Nat) (lv u4 u9 u10 u11 u12 u13 u14 u15 u16 u17 u18 u19 u20 u21 u22 u23 u24 u25 u26 u27 u28 u29 u30 u31 u32 u33 u34 u35 : Value), a' = { tmps := #[.pointer (some ⟨b, 0, none⟩), .int .i64 (p : Int), .pointer (some ⟨h0, 0, none⟩), .pointer (some ⟨h0 + 1, 0, none⟩), u4, .pointer (some ⟨X + 1, 0, none⟩), .pointer (some ⟨X + 1 + 1, 0, none⟩), lv, .int .i64 (k : Int), u9, u10, u11, u12, u13, u14, u15, u16, u17, u18, u19, u20, u21, u22, u23, u24, u25, u26, u27, u28, u29, u30, u31, u32, u33, u34, u35], defers := [] } ∧ JS b F most n ps live p h0 X w k lv w'
set_option maxRecDepth 100000 in
set_option maxHeartbeats 64000000 in
theorem under_q (b : Nat) (F : List Nat) (most : Int) (n : Nat) (ps : Nat → Nat → Int) (live : List Int) (p : Nat) (w : World) (hp : 1 ≤ p) (hpn : p < n) (hpo : ParOk n ps) (h : Pt w b F most n ps live) (hn : n ≤ 9000) :
    Calls Try.prog 20 #[.pointer (some ⟨b, 0, none⟩), .int .i64 p] w (Own (und ps p n) w) := by
  have d : decide ((p : Int) < 1) = false := dF (by omega)
  have d2 : decide ((n : Int) ≤ (p : Int)) = false := dF (by omega)
  have d3 : ¬ n ≤ p := by omega
  have d4 : decide (n ≤ p) = false := dF d3
  have HP := Lib.hid h
  have HPO := Lib.hid hpo
  have HFL : Hid (∀ x ∈ F, x < w.heap.size) := Lib.hid (by obtain ⟨va, vl, hv, rfl⟩ := h; exact hv.lt)
  have hmm := @run_makeMap Try.prog
  clear h hpo
  go_enter Try.func20, Try.ntmps20
  go_wp2
  obtain ⟨h0, hh⟩ : ∃ h, w.heap.size = h := ⟨_, rfl⟩
  obtain ⟨W, hW⟩ : ∃ W, ((w.alloc (.cells #[.pointer (some ⟨b, 0, none⟩)] 24)).alloc (.cells #[.int .i64 p] 3)) = W := ⟨_, rfl⟩
  have HT : Hid (Touch [] w W) := Lib.hid (by rw [← hW]; exact ((Touch.refl _ _).alloc _).alloc _)
  have B2 : Hid (Blk W h0 #[.pointer (some ⟨b, 0, none⟩)] 24) := Lib.hid (by rw [← hW]; exact (Blk.new hh.symm).alloc _)
  have B3 : Hid (Blk W (h0 + 1) #[.int .i64 p] 3) := Lib.hid (by rw [← hW]; exact Blk.new (by simp [hh]))
  rw [hW, hh]
  have HH := Lib.hid hh
  clear hW hh
  have x3 : ∀ qq : Later W, qq.world.cell? ⟨h0 + 1, 0, none⟩ = some (.int .i64 p) := fun qq => (B3.out.touch qq.ok (by simp)).cell (i := 0) rfl
  have x2 : ∀ qq : Later W, qq.world.cell? ⟨h0, 0, none⟩ = some (.pointer (some ⟨b, 0, none⟩)) := fun qq => (B2.out.touch qq.ok (by simp)).cell (i := 0) rfl
  refine wp_scope_jumps 0 (fun a' w' => ∃ X, JR b F most n ps live p h0 X w a' w') (fun a' _ => n - (intOf (a'.tmps.getD 8 undef)).toNat) rfl ?_ ?_
  · go_wp2_with fail
    refine wp_region_later (by kernel_rfl) (by kernel_rfl) ?_
    repeat (first
      | (go_big_quiet_step ((first | (with_reducible rfl) | exact Later.same (count_q b F most n ps live _ (HP.out.still (HT.out.trans (Later.ok _)))))))
      | (quiet_step (fail)))
    refine wpQuiet_nil ?_
    intro wq hw'
    obtain ⟨⟨wq', hwq⟩, hwe⟩ := hw'
    have hwe : wq = wq' := hwe
    subst hwe
    have HTq := Lib.hid (HT.out.trans hwq)
    have C2 := Lib.hid (B2.out.touch hwq (by simp))
    have C3 := Lib.hid (B3.out.touch hwq (by simp))
    clear hwe hwq x3 x2
    obtain ⟨X, hX⟩ : ∃ X, wq.heap.size = X := ⟨_, rfl⟩
    obtain ⟨wi, hup, hmi, ti, hsi⟩ := (Mp.new (w := wq) (enc := Value.int .i64)).put intKey Try.underlying79 Try.underlying3 (p : Int) (.bool true)
    rw [hX] at hup hmi ti
    have x3 : (wq.alloc (.map #[] 0)).cell? ⟨h0 + 1, 0, none⟩ = some (.int .i64 p) := (C3.out.alloc _).cell (i := 0) rfl
    have hhX : h0 + 1 < X := by have := C3.out.lt; omega
    have hwi : wi.heap.size = X + 1 := by rw [hsi]; simp [hX]
    have D2 := (C2.out.alloc (.map #[] 0)).touch ti (by simp; omega)
    have D3 := (C3.out.alloc (.map #[] 0)).touch ti (by simp; omega)
    have y3 : wi.cell? ⟨h0 + 1, 0, none⟩ = some (.int .i64 p) := D3.cell (i := 0) rfl
    have TI : Touch [] w wi := (HTq.out.alloc (.map #[] 0)).transF ti (fun i hi hlt => by simp at hi; have := HTq.out.size; omega)
    have t12 : Touch [] wi ((wi.alloc (.cells #[.map (some X)] 79)).alloc (.cells #[.func (.func 45) #[] #[.pointer (some ⟨X + 1, 0, none⟩), .pointer (some ⟨h0 + 1, 0, none⟩), .pointer (some ⟨X + 1 + 1, 0, none⟩), .pointer (some ⟨h0, 0, none⟩)]] 64)) := ((Touch.refl _ _).alloc _).alloc _
    have hj : JS b F most n ps live p h0 X w p (.slice none 0 0) (((wi.alloc (.cells #[.map (some X)] 79)).alloc (.cells #[.func (.func 45) #[] #[.pointer (some ⟨X + 1, 0, none⟩), .pointer (some ⟨h0 + 1, 0, none⟩), .pointer (some ⟨X + 1 + 1, 0, none⟩), .pointer (some ⟨h0, 0, none⟩)]] 64))) := by
      have hT0 : Touch [] w (((wi.alloc (.cells #[.map (some X)] 79)).alloc (.cells #[.func (.func 45) #[] #[.pointer (some ⟨X + 1, 0, none⟩), .pointer (some ⟨h0 + 1, 0, none⟩), .pointer (some ⟨X + 1 + 1, 0, none⟩), .pointer (some ⟨h0, 0, none⟩)]] 64))) := TI.trans t12
      refine ⟨Nat.le_refl _, hpn, by rw [und_self HPO.out (by omega)]; exact Qu.nil _ _ _, ?_, ⟨(Blk.new (by rw [hwi])).alloc _, D3.touch t12 (by simp), Blk.new (by simp [hwi]), D2.touch t12 (by simp), by omega⟩, HP.out.still hT0, hT0, HFL.out, ⟨by rw [HH.out]; exact Nat.le_refl _, hhX⟩⟩
      refine ⟨_, _, hmi.touch t12 (by simp), fun q v hv => ?_, fun q e1 e2 => ?_⟩
      · unfold putM at hv
        by_cases e : q = p
        · subst e; rw [if_pos rfl] at hv; cases hv
          rw [show ubB ps n p p = true from dT (.inl rfl)]
        · rw [if_neg e] at hv; cases hv
      · have : q = p := by omega
        unfold putM; rw [if_pos this]; rfl
    have z3 : (((wi.alloc (.cells #[.map (some X)] 79)).alloc (.cells #[.func (.func 45) #[] #[.pointer (some ⟨X + 1, 0, none⟩), .pointer (some ⟨h0 + 1, 0, none⟩), .pointer (some ⟨X + 1 + 1, 0, none⟩), .pointer (some ⟨h0, 0, none⟩)]] 64))).cell? ⟨h0 + 1, 0, none⟩ = some (.int .i64 p) := hj.e.p.cell (i := 0) rfl
    have HJ0 := Lib.hid hj
    clear D2 D3 t12 TI hmi ti hsi hj
    go_wp2_with fail
    go_step3
    obtain ⟨W1, hW1⟩ : ∃ W1, ((wi.alloc (.cells #[.map (some X)] 79)).alloc (.cells #[.func (.func 45) #[] #[.pointer (some ⟨X + 1, 0, none⟩), .pointer (some ⟨h0 + 1, 0, none⟩), .pointer (some ⟨X + 1 + 1, 0, none⟩), .pointer (some ⟨h0, 0, none⟩)]] 64)) = W1 := ⟨_, rfl⟩
    have hj := HJ0.out
    rw [hW1] at hj ⊢
    obtain ⟨lv, hlv⟩ : ∃ lv, Value.slice none 0 0 = lv := ⟨_, rfl⟩
    rw [hlv] at hj ⊢
    clear hW1 hlv HJ0 hup z3 y3 x3 hwi
    have HJ := Lib.hid hj
    have hkn := hj.k2
    have hpk := hj.k1
    have HQX : Hid (X ∉ F) := Lib.hid (fun hm => by have := hj.fl X hm; have := hj.lo; omega)
    obtain ⟨va, vc, rfl⟩ := Qu.form hj.q
    have y6 := hj.e.u.cell (i := 0) rfl
    have v1 : IntKind.i64.wrap ((p : Int) + 1) = (p : Int) + 1 := IntWalk.i64_in _ (by omega)
    clear hj
    go_wp2_with fail
    refine (under_next (X + 1) (h0 + 1) (X + 1 + 1) h0 X b ps n p _ F most live p HPO.out hkn hn HJ.out.t HQX.out HJ.out.e HJ.out.kn (by omega)).mono ?_
    rintro e w2 ⟨rfl, hk2, ht2⟩
    have HK2 := Lib.hid hk2
    have HE2 := Lib.hid (HJ.out.e.touch ht2 (by simp))
    have HP2 : Hid (Pt w2 b F most n ps live) := Lib.hid (by obtain ⟨va', vl', hv, hF⟩ := HJ.out.t; exact ⟨va', vl', hv.touch ht2 (fun x hx hm => by simp at hm; subst hm; exact HQX.out (by rw [hF]; exact hx)), hF⟩)
    have HT2 : Hid (Touch [] w w2) := Lib.hid (HJ.out.tw.transF ht2 (fun i hi hlt => by simp at hi; have := HJ.out.lo; omega))
    have HQ2 := Lib.hid (HJ.out.q.touch ht2 (fun i hi hm => by simp at hm; have := (HJ.out.q.own i hi).1; omega))
    have hus := und_succ (p := p) HPO.out hkn hpk
    obtain ⟨ub', hub⟩ : ∃ x, ubB ps n p ((p : Int) + 1) = x := ⟨_, rfl⟩
    rw [hub] at hus ⊢
    clear hk2 ht2 hub y6
    have x2 := HE2.out.t.cell (i := 0) rfl
    cases ub' with
    | true =>
      rw [if_pos rfl] at hus
      have HUS := Lib.hid hus
      have hxs : X + 3 ≤ w2.heap.size := by have := HE2.out.u.lt; omega
      obtain ⟨v', w3, hr, hq3, hg, hnw⟩ := Qu.appendI (HQ2.out.alloc (.cells #[.int .i64 ((p : Int) + 1)] 3)) (by simp; omega) (show Sl (w2.alloc (.cells #[.int .i64 ((p : Int) + 1)] 3)) (.slice (some ⟨w2.heap.size, 0, none⟩) 1 1) [(p : Int) + 1] from ⟨_, 1, rfl, .inr ⟨w2.heap.size, 0, rfl, by simp, row1 _ _ _ _ rfl⟩⟩) (by have := und_len ps p p; simp; omega)
      obtain ⟨O, hO⟩ : ∃ O, O = (Value.slice va (und ps p p).length vc).ownBlock.toList := ⟨_, rfl⟩
      have hOb : ∀ i ∈ O, X + 3 ≤ i := fun i hi => by rw [hO] at hi; exact (HQ2.out.own i (by simpa using hi)).1
      have t3 : Touch O w2 w3 := ((Touch.refl O w2).alloc _).grown hg (fun i hi hlt => by rw [hO]; simp [hi])
      have HQ3 : Hid (Qu w3 (X + 3) 3 v' ((und ps p (p + 1)).map (Value.int .i64))) := Lib.hid (by rw [hus]; exact hq3)
      have HK3 := Lib.hid (HK2.out.touch t3 (fun hm => by have := hOb _ hm; omega))
      have HE3 : Hid (Ev w3 (X + 1) (h0 + 1) (X + 1 + 1) h0 X b p) := Lib.hid (by
        have hlo := HJ.out.lo
        exact ⟨HE2.out.k.touch t3 (fun hm => by have := hOb _ hm; omega), HE2.out.p.touch t3 (fun hm => by have := hOb _ hm; omega), HE2.out.u.touch t3 (fun hm => by have := hOb _ hm; omega), HE2.out.t.touch t3 (fun hm => by have := hOb _ hm; omega), HE2.out.ap⟩)
      have HP3 : Hid (Pt w3 b F most n ps live) := Lib.hid (by obtain ⟨va', vl', hv, hF⟩ := HP2.out; exact ⟨va', vl', hv.touch t3 (fun x hx hm => by have := hOb _ hm; have := HJ.out.fl x (by rw [hF]; exact hx); have := HJ.out.lo; omega), hF⟩)
      have HT3 : Hid (Touch [] w w3) := Lib.hid (HT2.out.transF t3 (fun i hi hlt => by have := hOb _ hi; have := HJ.out.lo; omega))
      have x3 := HE3.out.t.cell (i := 0) rfl
      obtain ⟨va', vc', hv'⟩ := Qu.form HQ3.out
      have hlen : (und ps p (p + 1)).length = (und ps p p).length + 1 := by rw [hus]; simp
      rw [hlen] at hv'
      subst hv'
      have HLN := Lib.hid hlen
      clear hq3 hg hnw hO hOb t3 hus hlen
      go_wp2_with (at_builtin; refine Lib.wpList_append_run _ rfl _ _ _ _ rfl _ _ rfl rfl _ _ (hr _) ?_)
      have HPq := HP3
      refine (count_q b F most n ps live _ HPq.out).mono ?_
      rintro e w4 ⟨rfl, rfl⟩
      by_cases hlast : p + 1 < n
      · have hl : (p : Int) + 1 < (n : Int) := by omega
        have hl2 : decide ((p : Int) + 1 < (n : Int)) = true := dT hl
        go_wp2
        go_step3
        exact ⟨rfl, ⟨X, p + 1, _, _, _, _, _, _, _, _, _, _, _, _, _, _, _, _, _, _, _, _, _, _, _, _, _, _, _, _, _, by first | rfl | (simp), ⟨by omega, hlast, HQ3.out, by have := HK3.out; rw [Int.natCast_add]; exact this, HE3.out, HP3.out, HT3.out, HJ.out.fl, HJ.out.lo⟩⟩⟩
      · have hl : ¬ (p : Int) + 1 < (n : Int) := by omega
        have hl2 : decide ((p : Int) + 1 < (n : Int)) = false := dF hl
        obtain rfl : n = p + 1 := by omega
        go_wp2
        simp only [Exit.jump]
        go_ret
        exact ⟨_, rfl, HQ3.out.mono (by have := HJ.out.lo; omega), HT3.out⟩
    | false =>
      rw [if_neg (by simp)] at hus
      have HUS := Lib.hid hus
      clear hus
      have HPq := HP2
      go_wp2_with fail
      refine (count_q b F most n ps live _ HPq.out).mono ?_
      rintro e w4 ⟨rfl, rfl⟩
      by_cases hlast : p + 1 < n
      · have hl : (p : Int) + 1 < (n : Int) := by omega
        have hl2 : decide ((p : Int) + 1 < (n : Int)) = true := dT hl
        go_wp2
        go_step3
        exact ⟨rfl, ⟨X, p + 1, _, _, _, _, _, _, _, _, _, _, _, _, _, _, _, _, _, _, _, _, _, _, _, _, _, _, _, _, _, by first | rfl | (simp), ⟨by omega, hlast, by rw [HUS.out]; exact HQ2.out, by have := HK2.out; rw [Int.natCast_add]; exact this, HE2.out, HP2.out, HT2.out, HJ.out.fl, HJ.out.lo⟩⟩⟩
      · have hl : ¬ (p : Int) + 1 < (n : Int) := by omega
        have hl2 : decide ((p : Int) + 1 < (n : Int)) = false := dF hl
        obtain rfl : n = p + 1 := by omega
        go_wp2
        simp only [Exit.jump]
        go_ret
        exact ⟨_, rfl, by rw [HUS.out]; exact HQ2.out.mono (by have := HJ.out.lo; omega), HT2.out⟩
  · rintro a' w1 ⟨X, k, lv, u4, u9, u10, u11, u12, u13, u14, u15, u16, u17, u18, u19, u20, u21, u22, u23, u24, u25, u26, u27, u28, u29, u30, u31, u32, u33, u34, u35, rfl, hj⟩
    clear x3 x2
    have HJ := Lib.hid hj
    have hkn := hj.k2
    have hpk := hj.k1
    have HQX : Hid (X ∉ F) := Lib.hid (fun hm => by have := hj.fl X hm; have := hj.lo; omega)
    obtain ⟨va, vc, rfl⟩ := Qu.form hj.q
    have y6 := hj.e.u.cell (i := 0) rfl
    have v1 : IntKind.i64.wrap ((k : Int) + 1) = (k : Int) + 1 := IntWalk.i64_in _ (by omega)
    clear hj
    go_wp2_with fail
    refine (under_next (X + 1) (h0 + 1) (X + 1 + 1) h0 X b ps n p _ F most live k HPO.out hkn hn HJ.out.t HQX.out HJ.out.e HJ.out.kn (by omega)).mono ?_
    rintro e w2 ⟨rfl, hk2, ht2⟩
    have HK2 := Lib.hid hk2
    have HE2 := Lib.hid (HJ.out.e.touch ht2 (by simp))
    have HP2 : Hid (Pt w2 b F most n ps live) := Lib.hid (by obtain ⟨va', vl', hv, hF⟩ := HJ.out.t; exact ⟨va', vl', hv.touch ht2 (fun x hx hm => by simp at hm; subst hm; exact HQX.out (by rw [hF]; exact hx)), hF⟩)
    have HT2 : Hid (Touch [] w w2) := Lib.hid (HJ.out.tw.transF ht2 (fun i hi hlt => by simp at hi; have := HJ.out.lo; omega))
    have HQ2 := Lib.hid (HJ.out.q.touch ht2 (fun i hi hm => by simp at hm; have := (HJ.out.q.own i hi).1; omega))
    have hus := und_succ (p := p) HPO.out hkn hpk
    obtain ⟨ub', hub⟩ : ∃ x, ubB ps n p ((k : Int) + 1) = x := ⟨_, rfl⟩
    rw [hub] at hus ⊢
    clear hk2 ht2 hub y6
    have x2 := HE2.out.t.cell (i := 0) rfl
    cases ub' with
    | true =>
      rw [if_pos rfl] at hus
      have HUS := Lib.hid hus
      have hxs : X + 3 ≤ w2.heap.size := by have := HE2.out.u.lt; omega
      obtain ⟨v', w3, hr, hq3, hg, hnw⟩ := Qu.appendI (HQ2.out.alloc (.cells #[.int .i64 ((k : Int) + 1)] 3)) (by simp; omega) (show Sl (w2.alloc (.cells #[.int .i64 ((k : Int) + 1)] 3)) (.slice (some ⟨w2.heap.size, 0, none⟩) 1 1) [(k : Int) + 1] from ⟨_, 1, rfl, .inr ⟨w2.heap.size, 0, rfl, by simp, row1 _ _ _ _ rfl⟩⟩) (by have := und_len ps p k; simp; omega)
      obtain ⟨O, hO⟩ : ∃ O, O = (Value.slice va (und ps p k).length vc).ownBlock.toList := ⟨_, rfl⟩
      have hOb : ∀ i ∈ O, X + 3 ≤ i := fun i hi => by rw [hO] at hi; exact (HQ2.out.own i (by simpa using hi)).1
      have t3 : Touch O w2 w3 := ((Touch.refl O w2).alloc _).grown hg (fun i hi hlt => by rw [hO]; simp [hi])
      have HQ3 : Hid (Qu w3 (X + 3) 3 v' ((und ps p (k + 1)).map (Value.int .i64))) := Lib.hid (by rw [hus]; exact hq3)
      have HK3 := Lib.hid (HK2.out.touch t3 (fun hm => by have := hOb _ hm; omega))
      have HE3 : Hid (Ev w3 (X + 1) (h0 + 1) (X + 1 + 1) h0 X b p) := Lib.hid (by
        have hlo := HJ.out.lo
        exact ⟨HE2.out.k.touch t3 (fun hm => by have := hOb _ hm; omega), HE2.out.p.touch t3 (fun hm => by have := hOb _ hm; omega), HE2.out.u.touch t3 (fun hm => by have := hOb _ hm; omega), HE2.out.t.touch t3 (fun hm => by have := hOb _ hm; omega), HE2.out.ap⟩)
      have HP3 : Hid (Pt w3 b F most n ps live) := Lib.hid (by obtain ⟨va', vl', hv, hF⟩ := HP2.out; exact ⟨va', vl', hv.touch t3 (fun x hx hm => by have := hOb _ hm; have := HJ.out.fl x (by rw [hF]; exact hx); have := HJ.out.lo; omega), hF⟩)
      have HT3 : Hid (Touch [] w w3) := Lib.hid (HT2.out.transF t3 (fun i hi hlt => by have := hOb _ hi; have := HJ.out.lo; omega))
      have x3 := HE3.out.t.cell (i := 0) rfl
      obtain ⟨va', vc', hv'⟩ := Qu.form HQ3.out
      have hlen : (und ps p (k + 1)).length = (und ps p k).length + 1 := by rw [hus]; simp
      rw [hlen] at hv'
      subst hv'
      have HLN := Lib.hid hlen
      clear hq3 hg hnw hO hOb t3 hus hlen
      go_wp2_with (at_builtin; refine Lib.wpList_append_run _ rfl _ _ _ _ rfl _ _ rfl rfl _ _ (hr _) ?_)
      have HPq := HP3
      refine (count_q b F most n ps live _ HPq.out).mono ?_
      rintro e w4 ⟨rfl, rfl⟩
      by_cases hlast : k + 1 < n
      · have hl : (k : Int) + 1 < (n : Int) := by omega
        have hl2 : decide ((k : Int) + 1 < (n : Int)) = true := dT hl
        go_wp2
        go_step3
        refine ⟨rfl, ⟨X, k + 1, _, _, _, _, _, _, _, _, _, _, _, _, _, _, _, _, _, _, _, _, _, _, _, _, _, _, _, _, _, by first | rfl | (simp), ⟨by omega, hlast, HQ3.out, by have := HK3.out; rw [Int.natCast_add]; exact this, HE3.out, HP3.out, HT3.out, HJ.out.fl, HJ.out.lo⟩⟩, ?_⟩
        simp [intOf]; omega
      · have hl : ¬ (k : Int) + 1 < (n : Int) := by omega
        have hl2 : decide ((k : Int) + 1 < (n : Int)) = false := dF hl
        obtain rfl : n = k + 1 := by omega
        go_wp2
        simp only [Exit.jump]
        go_ret
        exact ⟨_, rfl, HQ3.out.mono (by have := HJ.out.lo; omega), HT3.out⟩
    | false =>
      rw [if_neg (by simp)] at hus
      have HUS := Lib.hid hus
      clear hus
      have HPq := HP2
      go_wp2_with fail
      refine (count_q b F most n ps live _ HPq.out).mono ?_
      rintro e w4 ⟨rfl, rfl⟩
      by_cases hlast : k + 1 < n
      · have hl : (k : Int) + 1 < (n : Int) := by omega
        have hl2 : decide ((k : Int) + 1 < (n : Int)) = true := dT hl
        go_wp2
        go_step3
        refine ⟨rfl, ⟨X, k + 1, _, _, _, _, _, _, _, _, _, _, _, _, _, _, _, _, _, _, _, _, _, _, _, _, _, _, _, _, _, by first | rfl | (simp), ⟨by omega, hlast, by rw [HUS.out]; exact HQ2.out, by have := HK2.out; rw [Int.natCast_add]; exact this, HE2.out, HP2.out, HT2.out, HJ.out.fl, HJ.out.lo⟩⟩, ?_⟩
        simp [intOf]; omega
      · have hl : ¬ (k : Int) + 1 < (n : Int) := by omega
        have hl2 : decide ((k : Int) + 1 < (n : Int)) = false := dF hl
        obtain rfl : n = k + 1 := by omega
        go_wp2
        simp only [Exit.jump]
        go_ret
        exact ⟨_, rfl, by rw [HUS.out]; exact HQ2.out.mono (by have := HJ.out.lo; omega), HT2.out⟩
end Go.Proofs.Ytjcbcbhiophkfaa
