/-
  One call on both.
  The law's own small run of the program's allocator.
  Both allocators in a law: the state, a list of calls as an argument; AllocPlays.
  An argument that is a list of calls; the laws, their arguments in the order of the rows.
  From the walks of the laws of layer 16 to their rows: every argument is opened, the walk is called, and every argument is read again.
-/
import Derived.Test.YticglfmmjgnicaaGreatRows
import Derived.WalkKit
import Derived.ProofKit
import Derived.OpenShut
import Derived.ShutString
import Derived.ChangeOld
import Derived.Below
import Derived.Test.YticglfmmjgnicaaGreatZPN
set_option linter.unusedVariables false
namespace Go.Proofs.YticglfmmjgnicaaGreat
open Go Go.RowKit

/-- What a call leaves of both. -/
def BoP (w : World) (FA FB : List Nat) (a b : Nat) (m' : Am) (w' : World) : Prop := ∃ FA' FB' r', TwR w' FA' FB' a b m' m' r' ∧ Fr FA w FA' w' ∧ Fr FB w FB' w'
/-- The step on the model. -/
def Am.step (m : Am) (k q : Int) (u : List Int) : Am :=
  if k = 0 then (m.cAdmit q u).1 else if k = 1 then (m.cAsk q u).1 else if k = 2 then (m.cGive q u).1 else (m.cLeave q).1
def PlyP (w : World) (FA FB : List Nat) (a b : Nat) (m' : Am) (e : Ending) (w' : World) : Prop := e = .returned (.bool true) ∧ Touch (FA ++ FB) w w' ∧ ∃ FA' FB' r', TwR w' FA' FB' a b m' m' r' ∧ (∀ k, k ∈ FA' → k ∈ FA ∨ w.heap.size ≤ k) ∧ ∀ k, k ∈ FB' → k ∈ FB ∨ w.heap.size ≤ k
/-- First the one, then the other. -/
theorem PlyP.both {w w1 w2 w3 : World} {FA FB FA' FB' : List Nat} {a b : Nat} {m m' : Am} {r r' : RaV} (h : TwR w FA FB a b m m r) (hf1 : Fr FA w FA' w1) (hp : PaS w1 FA' a m') (hf2 : Fr FB w1 FB' w2) (hr : Ra w2 FB' b m'.rc r') (ht : Touch [] w2 w3) : PlyP w FA FB a b m' (.returned (.bool true)) w3 := by
  have h1 := h.stepA hf1 hp
  have h2 := h1.stepB hf2 hr
  have hs := hf1.t.size
  refine ⟨rfl, ?_, FA', FB', r', h2.same ht, hf1.g, fun k hk => ?_⟩
  · exact ((hf1.t.mono (fun k hk => List.mem_append.2 (.inl hk))).trans (hf2.t.mono (fun k hk => List.mem_append.2 (.inr hk)))).trans (ht.mono (by simp))
  · rcases hf2.g k hk with e | e
    · exact .inl e
    · exact .inr (by omega)
theorem PlyP.wider {w w0 w' : World} {FA FB : List Nat} {a b : Nat} {m' : Am} {e : Ending} (ht : Touch [] w0 w) (hA : ∀ k, k ∈ FA → k < w0.heap.size) (hB : ∀ k, k ∈ FB → k < w0.heap.size) (h : PlyP w FA FB a b m' e w') : PlyP w0 FA FB a b m' e w' := by
  obtain ⟨h1, h2, FA', FB', r', h3, h4, h5⟩ := h
  have hs := ht.size
  exact ⟨h1, (ht.mono (by simp)).trans h2, FA', FB', r', h3, fun k hk => (h4 k hk).imp id (fun e => by omega), fun k hk => (h5 k hk).imp id (fun e => by omega)⟩
theorem scanF_few : ∀ (l : List (Int × List Int)) (m : Am) (s : List (Int × List Int)) (g : List Int), (Am.scanF l m s g).2.2.length ≤ l.length + g.length := fun l m s g => by
  have h := Am.scanF_len l m s g
  have : ∀ (l : List (Int × List Int)) (m : Am) (s : List (Int × List Int)) (g : List Int), s.length ≤ (Am.scanF l m s g).2.1.length := fun l => by
    induction l with
    | nil => intro m s g; exact Nat.le_refl _
    | cons x l ih =>
      intro m s g
      unfold Am.scanF
      by_cases hg : m.grant x (decide (s.length = 0)) = true
      · rw [if_pos hg]; exact ih _ _ _
      · rw [if_neg hg]; have := ih m (s ++ [x]) g; simp at this; omega
  have := this l m s g
  omega
theorem scan_few {m : Am} (ok : m.Ok) : m.scan.2.length ≤ 32 := by
  have h := scanF_few m.pend m [] []
  have := pend_few ok
  have e : m.scan.2 = (Am.scanF m.pend m [] []).2.2 := rfl
  rw [e]
  simp at h
  omega
theorem ask_few {m : Am} (ok : m.Ok) (q : Int) (u : List Int) : (m.cAsk q u).2.1.length ≤ 1000 := by
  unfold Am.cAsk
  split; simp
  split; simp
  split; simp
  split; simp
  rename_i h1 h2 h3 h4
  have := scan_few (ok.wait (p := q) (u := u) (by simpa using h1) (by simpa using h2) h3 (fun hc => by
    cases hf : fitsB (addW (m.held q) u) (m.claim q) with
    | true => rfl
    | false => exact absurd ⟨hc, hf⟩ h4))
  simp only
  omega
theorem give_few {m : Am} (ok : m.Ok) (q : Int) (u : List Int) : (m.cGive q u).2.1.length ≤ 1000 := by
  unfold Am.cGive
  split; simp
  split; simp
  split; simp
  rename_i h1 h2 h3
  have := scan_few (ok.back (p := q) (u := u) (by simpa using h1) (by simpa using h2) (by simpa using h3))
  simp only
  omega
theorem leave_few {m : Am} (ok : m.Ok) (q : Int) : (m.cLeave q).2.1.length ≤ 1000 := by
  unfold Am.cLeave
  split; simp
  rename_i h1
  have := scan_few (ok.quit (p := q) (by simpa using h1))
  simp only
  omega
set_option maxRecDepth 100000 in
set_option maxHeartbeats 40000000 in
theorem plays_any (w : World) (FA FB : List Nat) (a b : Nat) (m : Am) (r : RaV) (kd q : Int) (ua : Option Addr) (un uc : Nat) (u : List Int) (h : TwR w FA FB a b m m r) (hqi : InI q) (hu : Sl w (.slice ua un uc) u) (hul : u.length ≤ 1000) (hv : u ≠ [] → ∀ k, (Value.slice ua un uc).ownBlock = some k → k ∉ FA ∧ k ∉ FB) :
    Calls Tryz.prog 13 #[.pointer (some ⟨a, 0, none⟩), .pointer (some ⟨b, 0, none⟩), .agg #[.int .i64 kd, .int .i64 q, .slice ua un uc]] w (PlyP w FA FB a b (m.step kd q u)) := by
  have tb : Touch [] w (w.alloc (.cells #[.int .i64 kd, .int .i64 q, .slice ua un uc] 35)) := (Touch.refl [] w).alloc _
  have bx : Blk (w.alloc (.cells #[.int .i64 kd, .int .i64 q, .slice ua un uc] 35)) w.heap.size #[.int .i64 kd, .int .i64 q, .slice ua un uc] 35 := Blk.new rfl
  have HBX := Lib.hid bx
  have HTB := Lib.hid tb
  have HTW := Lib.hid (h.same tb)
  have HU := Lib.hid (hu.touch tb (fun _ _ => by simp))
  have HV := Lib.hid hv
  have HLT : Hid ((∀ k, k ∈ FA → k < w.heap.size) ∧ ∀ k, k ∈ FB → k < w.heap.size) := Lib.hid ⟨h.A.lt, h.B.lt⟩
  obtain ⟨W, hW⟩ : ∃ W, w.alloc (.cells #[.int .i64 kd, .int .i64 q, .slice ua un uc] 35) = W := ⟨_, rfl⟩
  have HW := Lib.hid hW
  rw [hW] at HTB HTW HU HBX
  obtain ⟨bq, hbq⟩ : ∃ k, w.heap.size = k := ⟨_, rfl⟩
  have HBQ := Lib.hid hbq
  rw [hbq] at HBX
  have HOK := Lib.hid h.A.1
  -- what is done first leaves the step, the units and the other's
  have HA : Hid (∀ FA' w' m', Fr FA W FA' w' → PaS w' FA' a m' → TwR w' FA' FB a b m' m r ∧ Blk w' bq #[.int .i64 kd, .int .i64 q, .slice ua un uc] 35 ∧ Sl w' (.slice ua un uc) u) := Lib.hid (fun FA' w' m' hf hp => by
    refine ⟨HTW.out.stepA hf hp, HBX.out.touch hf.t (fun hm => by have := HLT.out.1 _ hm; have := HBQ.out; omega), HU.out.keep hf.t (fun hne k hk => (HV.out hne k hk).1)⟩)
  have b0 : W.cell? ⟨bq, 0, none⟩ = some (.int .i64 kd) := HBX.out.cell (i := 0) rfl
  have b1 : W.cell? ⟨bq, 1, none⟩ = some (.int .i64 q) := HBX.out.cell (i := 1) rfl
  have b2 : W.cell? ⟨bq, 2, none⟩ = some (.slice ua un uc) := HBX.out.cell (i := 2) rfl
  clear h hu tb bx hv
  by_cases k0 : kd = 0
  · have HS : Hid (m.step kd q u = (m.cAdmit q u).1) := Lib.hid (by unfold Am.step; rw [if_pos k0])
    subst k0
    go_enter Tryz.func13, Tryz.ntmps13
    go_upto_region 3 with fail
    have HTD := Lib.hid ((Touch.refl [] W).drew)
    have HC1 := Lib.hid (admit_any W.drew FA a m q (.slice ua un uc) u (HTW.out.same HTD.out).A hqi (HU.out.touch HTD.out (fun _ _ => by simp)))
    clear b0 b1 b2
    have HT := Lib.hid (HBX.out.touch HTD.out (by simp))
    have HX : Hid (∀ w', Blk w' bq #[.int .i64 0, .int .i64 q, .slice ua un uc] 35 → w'.cell? ⟨bq, 1, none⟩ = some (.int .i64 q) ∧ w'.cell? ⟨bq, 2, none⟩ = some (.slice ua un uc)) := Lib.hid (fun w' hb => ⟨hb.cell (i := 1) rfl, hb.cell (i := 2) rfl⟩)
    have HA : Hid (∀ FA' w' m', Fr FA W.drew FA' w' → PaS w' FA' a m' → TwR w' FA' FB a b m' m r ∧ Blk w' bq #[.int .i64 0, .int .i64 q, .slice ua un uc] 35 ∧ Sl w' (.slice ua un uc) u) := Lib.hid (fun FA' w' m' hf hp => HA.out FA' w' m' (Fr.trans (Fr.same HTD.out HTW.out.A.lt) hf) hp)
    have HTW := Lib.hid (HTW.out.same HTD.out)
    obtain ⟨X, hX⟩ : ∃ X, (m.cAdmit q u).2 = X := ⟨_, rfl⟩
    have HXX := Lib.hid hX
    clear hW hX
    refine wp_region_till (fun _ => True) (fun w' => Blk w' bq #[.int .i64 0, .int .i64 q, .slice ua un uc] 35) [] (by kernel_rfl) ?_
    obtain ⟨wk, hwk⟩ : ∃ w', World.drew W = w' := ⟨_, rfl⟩
    rw [hwk] at HTD HC1 HTW HA HT ⊢
    clear hwk
    obtain ⟨nk, hsz⟩ : ∃ n, wk.heap.size = n := ⟨_, rfl⟩
    refine wpTill.takeT (i := 0) (v := ?v1) (some 23) rfl rfl (by kernel_rfl) (fun _ _ _ h => h) (Or.inl ⟨by rfl, ?hy1⟩) ⟨trivial, HT.out⟩ ?rest1
    case hy1 => (intro w hSw; obtain ⟨q1, q2⟩ := HX.out w hSw; go_simp; try with_reducible rfl)
    simp only [Act.put, List.setIfInBounds_toArray, List.set_cons_zero, List.set_cons_succ]
    refine wpTill.takeT (i := 1) (v := ?v2) (some 24) rfl rfl (by kernel_rfl) (fun _ _ _ h => h) (Or.inl ⟨by rfl, ?hy2⟩) ⟨trivial, HT.out⟩ ?rest2
    case hy2 => (intro w hSw; obtain ⟨q1, q2⟩ := HX.out w hSw; go_simp; try with_reducible rfl)
    simp only [Act.put, List.setIfInBounds_toArray, List.set_cons_zero, List.set_cons_succ]
    refine wpTill.takeT (i := 2) (v := ?v3) (some 25) rfl rfl (by kernel_rfl) (fun _ _ _ h => h) (Or.inl ⟨by rfl, ?hy3⟩) ⟨trivial, HT.out⟩ ?rest3
    case hy3 => (intro w hSw; obtain ⟨q1, q2⟩ := HX.out w hSw; go_simp; try with_reducible rfl)
    simp only [Act.put, List.setIfInBounds_toArray, List.set_cons_zero, List.set_cons_succ]
    refine wpTill.takeT (i := 3) (v := ?v4) (some 26) rfl rfl (by kernel_rfl) (fun _ _ _ h => h) (Or.inl ⟨by rfl, ?hy4⟩) ⟨trivial, HT.out⟩ ?rest4
    case hy4 => (intro w hSw; obtain ⟨q1, q2⟩ := HX.out w hSw; go_simp; try with_reducible rfl)
    simp only [Act.put, List.setIfInBounds_toArray, List.set_cons_zero, List.set_cons_succ]
    refine wpTill.takeT (i := 4) (v := ?v5) (some 27) rfl rfl (by kernel_rfl) (fun _ _ _ h => h) (Or.inl ⟨by rfl, ?hy5⟩) ⟨trivial, HT.out⟩ ?rest5
    case hy5 => (intro w hSw; obtain ⟨q1, q2⟩ := HX.out w hSw; go_simp; try with_reducible rfl)
    simp only [Act.put, List.setIfInBounds_toArray, List.set_cons_zero, List.set_cons_succ]
    refine wpTill.takeT (i := 6) (v := ?v6) (some 29) rfl rfl (by kernel_rfl) (fun _ _ _ h => h) (Or.inl ⟨by rfl, ?hy6⟩) ⟨trivial, HT.out⟩ ?rest6
    case hy6 => (intro w hSw; obtain ⟨q1, q2⟩ := HX.out w hSw; go_simp; try with_reducible rfl)
    simp only [Act.put, List.setIfInBounds_toArray, List.set_cons_zero, List.set_cons_succ]
    refine wpTill.takeT (i := 7) (v := ?v7) (some 30) rfl rfl (by kernel_rfl) (fun _ _ _ h => h) (Or.inl ⟨by rfl, ?hy7⟩) ⟨trivial, HT.out⟩ ?rest7
    case hy7 => (intro w hSw; obtain ⟨q1, q2⟩ := HX.out w hSw; go_simp; try with_reducible rfl)
    simp only [Act.put, List.setIfInBounds_toArray, List.set_cons_zero, List.set_cons_succ]
    refine wpTill.takeT (i := 8) (v := ?v8) (some 31) rfl rfl (by kernel_rfl) (fun _ _ _ h => h) (Or.inl ⟨by rfl, ?hy8⟩) ⟨trivial, HT.out⟩ ?rest8
    case hy8 => (intro w hSw; obtain ⟨q1, q2⟩ := HX.out w hSw; go_simp; try with_reducible rfl)
    simp only [Act.put, List.setIfInBounds_toArray, List.set_cons_zero, List.set_cons_succ]
    refine wpTill.takeT (i := 9) (v := ?v9) (some 32) rfl rfl (by kernel_rfl) (fun _ _ _ h => h) (Or.inl ⟨by rfl, ?hy9⟩) ⟨trivial, HT.out⟩ ?rest9
    case hy9 => (intro w hSw; obtain ⟨q1, q2⟩ := HX.out w hSw; go_simp; try with_reducible rfl)
    simp only [Act.put, List.setIfInBounds_toArray, List.set_cons_zero, List.set_cons_succ]
    refine wpTill.takeT (i := 10) (v := ?v10) (some 33) rfl rfl (by kernel_rfl) (fun _ _ _ h => h) (Or.inl ⟨by rfl, ?hy10⟩) ⟨trivial, HT.out⟩ ?rest10
    case hy10 => (intro w hSw; obtain ⟨q1, q2⟩ := HX.out w hSw; go_simp; try with_reducible rfl)
    simp only [Act.put, List.setIfInBounds_toArray, List.set_cons_zero, List.set_cons_succ]
    refine wpTill.ready (rs := [5]) (by kernel_rfl) (by simp) ?_
    refine AllTill.cons (i := 5) (rs := []) (by rfl) (fun K hK => ?_) ?_
    · go_simp
      go_at_call 34
      refine (HC1.out).mono ?_
      rintro e wk ⟨rfl, FA1, hf, hp⟩
      clear hsz
      have HA2 := Lib.hid (HA.out FA1 wk _ hf hp)
      have HP2 := Lib.hid (And.intro hf hp)
      have HT := Lib.hid HA2.out.2.1
      clear hf hp
      obtain ⟨nk, hsz⟩ : ∃ n, wk.heap.size = n := ⟨_, rfl⟩
      simp only [Act.put, List.setIfInBounds_toArray, List.set_cons_zero, List.set_cons_succ]
      refine hK.out _ _ trivial (fun _ => HT.out) ?_
      clear hK K
      refine wpTill.ready (rs := [11]) (by kernel_rfl) (by simp) ?_
      refine AllTill.cons (i := 11) (rs := []) (by rfl) (fun K hK => ?_) ?_
      · go_simp
        go_at_call 44
        refine (radmit_m _ FB b m r q (.slice ua un uc) u HA2.out.1.B HOK.out hqi HA2.out.2.2 hul (fun hne k hk => (HV.out hne k hk).2)).mono ?_
        rintro e wk ⟨rfl, FB1, r1, hf1, hr1⟩
        clear hsz
        have HF3 := Lib.hid (And.intro hf1 hr1)
        have HT := Lib.hid (HT.out.touch hf1.t (fun hm => by have := HLT.out.2 _ hm; have := HBQ.out; omega))
        clear hf1 hr1
        obtain ⟨nk, hsz⟩ : ∃ n, wk.heap.size = n := ⟨_, rfl⟩
        simp only [Act.put, List.setIfInBounds_toArray, List.set_cons_zero, List.set_cons_succ]
        refine hK.out _ _ trivial (fun _ => HT.out) ?_
        clear hK K
        refine wpTill.takeT (i := 12) (v := ?v11) (some 35) rfl rfl (by kernel_rfl) (fun _ _ _ h => h) (Or.inl ⟨by rfl, ?hy11⟩) ⟨trivial, HT.out⟩ ?rest11
        case hy11 => (intro w hSw; obtain ⟨q1, q2⟩ := HX.out w hSw; go_simp; try with_reducible rfl)
        simp only [Act.put, List.setIfInBounds_toArray, List.set_cons_zero, List.set_cons_succ]
        refine wpTill.takeT (i := 13) (v := ?v12) (some 6) rfl rfl (by kernel_rfl) (fun _ _ _ h => h) (Or.inl ⟨by rfl, ?hy12⟩) ⟨trivial, HT.out⟩ ?rest12
        case hy12 => (intro w hSw; obtain ⟨q1, q2⟩ := HX.out w hSw; go_simp; try with_reducible rfl)
        simp only [Act.put, List.setIfInBounds_toArray, List.set_cons_zero, List.set_cons_succ]
        refine wpTill.done (by kernel_rfl) ?_ _
        have HF : Hid (PlyP w FA FB a b (m.step 0 q u) (.returned (.bool true)) wk) := Lib.hid (by
          rw [HS.out]
          exact PlyP.wider (HTB.out.trans HTD.out) HLT.out.1 HLT.out.2 (PlyP.both HTW.out HP2.out.1 HP2.out.2 HF3.out.1 HF3.out.2 (Touch.refl [] wk)))
        clear hsz
        go_wp2_with fail
        go_ret
        exact HF.out
      exact AllTill.nil
    exact AllTill.nil
  · have k0' : (kd == 0) = false := by simpa using k0
    by_cases k1 : kd = 1
    · have HS : Hid (m.step kd q u = (m.cAsk q u).1) := Lib.hid (by unfold Am.step; rw [if_neg k0, if_pos k1])
      have HC1 := Lib.hid (ask_any W FA a m q (.slice ua un uc) u HTW.out.A HU.out)
      subst k1
      go_enter Tryz.func13, Tryz.ntmps13
      go_wp2_with fail
      refine HC1.out.mono ?_
      rintro e w2 ⟨v2, FA', rfl, hf, hp, hq2, ho2⟩
      have HA2 := Lib.hid (HA.out FA' w2 _ hf hp)
      have HP2 := Lib.hid (And.intro hf hp)
      obtain ⟨xs, hxs⟩ : ∃ xs, (m.cAsk q u).2.1 = xs := ⟨_, rfl⟩
      obtain ⟨X, hX⟩ : ∃ X, (m.cAsk q u).2.2 = X := ⟨_, rfl⟩
      have HC2 := Lib.hid (rask_any w2 FB b m r q (.slice ua un uc) u HA2.out.1.B HOK.out HA2.out.2.2 hul (fun hne k hk => (HV.out hne k hk).2))
      rw [hxs, hX] at HC2
      rw [hxs] at hq2
      rw [hX]
      have HX := Lib.hid hX
      have hxl : xs.length ≤ 1000 := by rw [← hxs]; exact ask_few HOK.out q u
      obtain ⟨xa, xn, xc, rfl⟩ : ∃ a n c, v2 = Value.slice a n c := (by obtain ⟨a, c, e, _⟩ := hq2.shape; exact ⟨a, _, c, e⟩)
      have HQ2 := Lib.hid (And.intro hq2 ho2)
      have hb2 := HA2.out.2.1
      have b1 : w2.cell? ⟨bq, 1, none⟩ = some (.int .i64 q) := hb2.cell (i := 1) rfl
      have b2 : w2.cell? ⟨bq, 2, none⟩ = some (.slice ua un uc) := hb2.cell (i := 2) rfl
      clear hf hp hq2 ho2 hb2 hxs hX HC1
      go_wp2_with fail
      refine HC2.out.mono ?_
      rintro e w3 ⟨v3, rfl, FB', hf3, ⟨r3, hr3⟩, hq3, ho3⟩
      obtain ⟨ya, yn, yc, rfl⟩ : ∃ a n c, v3 = Value.slice a n c := (by obtain ⟨a, c, e, _⟩ := hq3.shape; exact ⟨a, _, c, e⟩)
      have hsl2 := HQ2.out.1.sl.touch hf3.t (fun k hk hm => by have h1 := (HQ2.out.1.own k hk).1; have h2 := HLT.out.2 k hm; have h3 := HTB.out.size; omega)
      have HI := Lib.hid (ints_e _ _ xs w3 hsl2 hq3.sl (by omega))
      have HF3 := Lib.hid (And.intro hf3 hr3)
      clear b1 b2 b0 hf3 hr3 hq3 ho3 hsl2 HC2
      go_wp2_with fail
      refine HI.out.mono ?_
      rintro e w4 ⟨rfl, t4⟩
      have HF : Hid (PlyP w FA FB a b (m.step 1 q u) (.returned (.bool true)) w4) := Lib.hid (by
        rw [HS.out]
        exact PlyP.wider HTB.out HLT.out.1 HLT.out.2 (PlyP.both HTW.out HP2.out.1 HP2.out.2 HF3.out.1 HF3.out.2 t4))
      clear t4
      go_wp2_with fail
      go_ret
      exact HF.out
    · have k1' : (kd == 1) = false := by simpa using k1
      by_cases k2 : kd = 2
      · have HS : Hid (m.step kd q u = (m.cGive q u).1) := Lib.hid (by unfold Am.step; rw [if_neg k0, if_neg k1, if_pos k2])
        have HC1 := Lib.hid (give_any W FA a m q (.slice ua un uc) u HTW.out.A HU.out (fun hne k hk => (HV.out hne k hk).1))
        subst k2
        go_enter Tryz.func13, Tryz.ntmps13
        go_wp2_with fail
        refine HC1.out.mono ?_
        rintro e w2 ⟨v2, FA', rfl, hf, hp, hq2, ho2⟩
        have HA2 := Lib.hid (HA.out FA' w2 _ hf hp)
        have HP2 := Lib.hid (And.intro hf hp)
        obtain ⟨xs, hxs⟩ : ∃ xs, (m.cGive q u).2.1 = xs := ⟨_, rfl⟩
        obtain ⟨X, hX⟩ : ∃ X, (m.cGive q u).2.2 = X := ⟨_, rfl⟩
        have HC2 := Lib.hid (rgive_any w2 FB b m r q (.slice ua un uc) u HA2.out.1.B HOK.out HA2.out.2.2 hul (fun hne k hk => (HV.out hne k hk).2))
        rw [hxs, hX] at HC2
        rw [hxs] at hq2
        rw [hX]
        have HX := Lib.hid hX
        have hxl : xs.length ≤ 1000 := by rw [← hxs]; exact give_few HOK.out q u
        obtain ⟨xa, xn, xc, rfl⟩ : ∃ a n c, v2 = Value.slice a n c := (by obtain ⟨a, c, e, _⟩ := hq2.shape; exact ⟨a, _, c, e⟩)
        have HQ2 := Lib.hid (And.intro hq2 ho2)
        have hb2 := HA2.out.2.1
        have b1 : w2.cell? ⟨bq, 1, none⟩ = some (.int .i64 q) := hb2.cell (i := 1) rfl
        have b2 : w2.cell? ⟨bq, 2, none⟩ = some (.slice ua un uc) := hb2.cell (i := 2) rfl
        clear hf hp hq2 ho2 hb2 hxs hX HC1
        go_wp2_with fail
        refine HC2.out.mono ?_
        rintro e w3 ⟨v3, rfl, FB', hf3, ⟨r3, hr3⟩, hq3, ho3⟩
        obtain ⟨ya, yn, yc, rfl⟩ : ∃ a n c, v3 = Value.slice a n c := (by obtain ⟨a, c, e, _⟩ := hq3.shape; exact ⟨a, _, c, e⟩)
        have hsl2 := HQ2.out.1.sl.touch hf3.t (fun k hk hm => by have h1 := (HQ2.out.1.own k hk).1; have h2 := HLT.out.2 k hm; have h3 := HTB.out.size; omega)
        have HI := Lib.hid (ints_e _ _ xs w3 hsl2 hq3.sl (by omega))
        have HF3 := Lib.hid (And.intro hf3 hr3)
        clear b1 b2 b0 hf3 hr3 hq3 ho3 hsl2 HC2
        go_wp2_with fail
        refine HI.out.mono ?_
        rintro e w4 ⟨rfl, t4⟩
        have HF : Hid (PlyP w FA FB a b (m.step 2 q u) (.returned (.bool true)) w4) := Lib.hid (by
          rw [HS.out]
          exact PlyP.wider HTB.out HLT.out.1 HLT.out.2 (PlyP.both HTW.out HP2.out.1 HP2.out.2 HF3.out.1 HF3.out.2 t4))
        clear t4
        go_wp2_with fail
        go_ret
        exact HF.out
      · have k2' : (kd == 2) = false := by simpa using k2
        have HS : Hid (m.step kd q u = (m.cLeave q).1) := Lib.hid (by unfold Am.step; rw [if_neg k0, if_neg k1, if_neg k2])
        have HC1 := Lib.hid (leave_any W FA a m q HTW.out.A)
        go_enter Tryz.func13, Tryz.ntmps13
        go_wp2_with fail
        refine HC1.out.mono ?_
        rintro e w2 ⟨v2, FA', rfl, hf, hp, hq2, ho2⟩
        have HA2 := Lib.hid (HA.out FA' w2 _ hf hp)
        have HP2 := Lib.hid (And.intro hf hp)
        obtain ⟨xs, hxs⟩ : ∃ xs, (m.cLeave q).2.1 = xs := ⟨_, rfl⟩
        obtain ⟨X, hX⟩ : ∃ X, (m.cLeave q).2.2 = X := ⟨_, rfl⟩
        have HC2 := Lib.hid (rleave_any w2 FB b m r q HA2.out.1.B HOK.out)
        rw [hxs, hX] at HC2
        rw [hxs] at hq2
        rw [hX]
        have HX := Lib.hid hX
        have hxl : xs.length ≤ 1000 := by rw [← hxs]; exact leave_few HOK.out q
        obtain ⟨xa, xn, xc, rfl⟩ : ∃ a n c, v2 = Value.slice a n c := (by obtain ⟨a, c, e, _⟩ := hq2.shape; exact ⟨a, _, c, e⟩)
        have HQ2 := Lib.hid (And.intro hq2 ho2)
        have hb2 := HA2.out.2.1
        have b1 : w2.cell? ⟨bq, 1, none⟩ = some (.int .i64 q) := hb2.cell (i := 1) rfl
        have b2 : w2.cell? ⟨bq, 2, none⟩ = some (.slice ua un uc) := hb2.cell (i := 2) rfl
        clear hf hp hq2 ho2 hb2 hxs hX HC1
        go_wp2_with fail
        refine HC2.out.mono ?_
        rintro e w3 ⟨v3, rfl, FB', hf3, ⟨r3, hr3⟩, hq3, ho3⟩
        obtain ⟨ya, yn, yc, rfl⟩ : ∃ a n c, v3 = Value.slice a n c := (by obtain ⟨a, c, e, _⟩ := hq3.shape; exact ⟨a, _, c, e⟩)
        have hsl2 := HQ2.out.1.sl.touch hf3.t (fun k hk hm => by have h1 := (HQ2.out.1.own k hk).1; have h2 := HLT.out.2 k hm; have h3 := HTB.out.size; omega)
        have HI := Lib.hid (ints_e _ _ xs w3 hsl2 hq3.sl (by omega))
        have HF3 := Lib.hid (And.intro hf3 hr3)
        clear b1 b2 b0 hf3 hr3 hq3 ho3 hsl2 HC2
        go_wp2_with fail
        refine HI.out.mono ?_
        rintro e w4 ⟨rfl, t4⟩
        have HF : Hid (PlyP w FA FB a b (m.step kd q u) (.returned (.bool true)) w4) := Lib.hid (by
          rw [HS.out]
          exact PlyP.wider HTB.out HLT.out.1 HLT.out.2 (PlyP.both HTW.out HP2.out.1 HP2.out.2 HF3.out.1 HF3.out.2 t4))
        clear t4
        go_wp2_with fail
        go_ret
        exact HF.out
end Go.Proofs.YticglfmmjgnicaaGreat

set_option linter.unusedVariables false
namespace Go.Proofs.YticglfmmjgnicaaGreat
open Go Go.RowKit

def mA0 : Am := Am.new [2] true
def mA1 : Am := (Am.cAdmit mA0 1 [2]).1
def mA2 : Am := (Am.cAdmit mA1 2 [2]).1
def mA3 : Am := (Am.cAdmit mA2 3 [3]).1
def mA4 : Am := (Am.cAsk mA3 1 [1]).1
def mA5 : Am := (Am.cAsk mA4 2 [1]).1
def mA6 : Am := (Am.cAsk mA5 1 [2]).1
def mA7 : Am := (Am.cGive mA6 1 [2]).1
def mA8 : Am := (Am.cLeave mA7 1).1
def mA9 : Am := (Am.cLeave mA8 1).1
theorem rA1 : mA0.cAdmit 1 [2] = (mA1, 0) := Prod.ext rfl (by decide +kernel)
theorem rA2 : mA1.cAdmit 2 [2] = (mA2, 0) := Prod.ext rfl (by decide +kernel)
theorem rA3 : mA2.cAdmit 3 [3] = (mA3, 35) := Prod.ext rfl (by decide +kernel)
theorem rA4 : mA3.cAsk 1 [1] = (mA4, [1], 0) := Prod.ext rfl (Prod.ext (by decide +kernel) (by decide +kernel))
theorem rA5 : mA4.cAsk 2 [1] = (mA5, [], 0) := Prod.ext rfl (Prod.ext (by decide +kernel) (by decide +kernel))
theorem rA6 : mA5.cAsk 1 [2] = (mA6, [], 35) := Prod.ext rfl (Prod.ext (by decide +kernel) (by decide +kernel))
theorem rA7 : mA6.cGive 1 [2] = (mA7, [], 36) := Prod.ext rfl (Prod.ext (by decide +kernel) (by decide +kernel))
theorem rA8 : mA7.cLeave 1 = (mA8, [2], true) := Prod.ext rfl (Prod.ext (by decide +kernel) (by decide +kernel))
theorem rA9 : mA8.cLeave 1 = (mA9, [], false) := Prod.ext rfl (Prod.ext (by decide +kernel) (by decide +kernel))
theorem one_sl (w : World) (x : Int) : Sl (w.alloc (.cells #[.int .i64 x] 3)) (.slice (some ⟨w.heap.size, 0, none⟩) 1 1) [x] := ⟨_, 1, rfl, .inr ⟨w.heap.size, 0, rfl, by simp, row1 _ _ _ _ rfl⟩⟩
structure AwS (w0 w : World) (F : List Nat) (a : Nat) (m : Am) : Prop where
  P : PaS w F a m
  g : ∀ k, k ∈ F → w0.heap.size ≤ k
  t : Touch [] w0 w
section
variable {w0 w w' : World} {F F' : List Nat} {a : Nat} {m m' : Am}
theorem AwS.same (h : AwS w0 w F a m) (ht : Touch [] w w') : AwS w0 w' F a m := ⟨h.P.same ht, h.g, h.t.trans ht⟩
theorem AwS.step (h : AwS w0 w F a m) (hf : Fr F w F' w') (hp : PaS w' F' a m') : AwS w0 w' F' a m' :=
  ⟨hp, fun k hk => by
    rcases hf.g k hk with e | e
    · exact h.g k e
    · have := h.t.size; omega, h.t.transF hf.t (fun k hk hl => absurd hl (by have := h.g k hk; omega))⟩
/-- A list that a call has answered, kept. -/
structure Kp (w : World) (F : List Nat) (v : Value) (xs : List Int) : Prop where
  s : Sl w v xs
  o : ∀ k, v.ownBlock = some k → k ∉ F ∧ k < w.heap.size
theorem Kp.same {v : Value} {xs : List Int} (h : Kp w F v xs) (ht : Touch [] w w') : Kp w' F v xs := ⟨h.s.touch ht (fun _ _ => by simp), fun k hk => ⟨(h.o k hk).1, Nat.lt_of_lt_of_le (h.o k hk).2 ht.size⟩⟩
theorem Kp.step {v : Value} {xs : List Int} (h : Kp w F v xs) (hf : Fr F w F' w') : Kp w' F' v xs := ⟨h.s.touch hf.t (fun k hk => (h.o k hk).1), fun k hk => ⟨fun hm => by
  rcases hf.g k hm with e | e
  · exact (h.o k hk).1 e
  · have := (h.o k hk).2; omega, Nat.lt_of_lt_of_le (h.o k hk).2 hf.t.size⟩⟩
theorem Kp.of {w0 : World} {v : Value} {xs : List Int} (h : Qu w w0.heap.size 3 v (xs.map (Value.int .i64))) (ho : ∀ k, v.ownBlock = some k → k ∉ F) : Kp w F v xs := ⟨h.sl, fun k hk => ⟨ho k hk, (h.own k hk).2⟩⟩
end
def AwP (w : World) (e : Ending) (w' : World) : Prop := e = .returned (.bool true) ∧ Touch [] w w'
set_option maxRecDepth 100000 in
set_option maxHeartbeats 40000000 in
theorem awake_any (w : World) : Calls Tryz.prog 10 #[] w (AwP w) := by
  have t0 : Touch [] w (w.alloc (.cells #[.int .i64 2] 3)) := (Touch.refl [] w).alloc _
  have HT0 := Lib.hid t0
  have HC := Lib.hid (new_any _ _ [2] true (one_sl w 2) (by simp))
  clear t0
  go_enter Tryz.func10, Tryz.ntmps10
  go_wp2_with fail
  refine HC.out.mono ?_
  rintro e w1 ⟨ht, hn⟩
  have h2 : newB [2] = true := by decide +kernel
  rcases hn with ⟨hn, _⟩ | ⟨_, a, F0, rfl, hp, hg⟩
  · rw [h2] at hn; cases hn
  have HS : Hid (AwS w w1 F0 a mA0) := Lib.hid ⟨hp, fun k hk => by have := hg k hk; have := HT0.out.size; omega, HT0.out.trans ht⟩
  have HC := Lib.hid (new_any _ _ [0] true (one_sl w1 0) (by simp))
  clear ht h2 hp hg HT0
  go_wp2_with fail
  refine HC.out.mono ?_
  rintro e w2 ⟨ht, hn⟩
  have h0 : newB [0] = false := by decide +kernel
  rcases hn with ⟨_, rfl⟩ | ⟨hn, _⟩
  case inr => rw [h0] at hn; cases hn
  have HS := Lib.hid (HS.out.same (((Touch.refl [] w1).alloc _).trans ht))
  clear ht h0 HC
  have hs := HS.out.same ((Touch.refl [] w2).alloc (.cells #[.int .i64 2] 3))
  have hc := admit_any _ F0 a mA0 1 _ [2] hs.P (by unfold InI; omega) (one_sl w2 2)
  rw [rA1] at hc
  have HS := Lib.hid hs
  have HC := Lib.hid hc
  clear hs hc
  go_wp2_with fail
  refine HC.out.mono ?_
  rintro e w3 ⟨rfl, F1, hf, hp⟩
  have HS := Lib.hid (HS.out.step hf hp)
  clear hf hp HC
  have hs := HS.out.same ((Touch.refl [] w3).alloc (.cells #[.int .i64 2] 3))
  have hc := admit_any _ F1 a mA1 2 _ [2] hs.P (by unfold InI; omega) (one_sl w3 2)
  rw [rA2] at hc
  have HS := Lib.hid hs
  have HC := Lib.hid hc
  clear hs hc
  go_wp2_with fail
  refine HC.out.mono ?_
  rintro e w4 ⟨rfl, F2, hf, hp⟩
  have HS := Lib.hid (HS.out.step hf hp)
  clear hf hp HC
  have hs := HS.out.same ((Touch.refl [] w4).alloc (.cells #[.int .i64 3] 3))
  have hc := admit_any _ F2 a mA2 3 _ [3] hs.P (by unfold InI; omega) (one_sl w4 3)
  rw [rA3] at hc
  have HS := Lib.hid hs
  have HC := Lib.hid hc
  clear hs hc
  go_wp2_with fail
  refine HC.out.mono ?_
  rintro e w5 ⟨rfl, F3, hf, hp⟩
  have HS := Lib.hid (HS.out.step hf hp)
  clear hf hp HC
  have hs := HS.out.same ((Touch.refl [] w5).alloc (.cells #[.int .i64 1] 3))
  have hc := ask_any _ F3 a mA3 1 _ [1] hs.P (one_sl w5 1)
  rw [rA4] at hc
  have HS := Lib.hid hs
  have HC := Lib.hid hc
  clear hs hc
  go_wp2_with fail
  refine HC.out.mono ?_
  rintro e w6 ⟨v3, F4, rfl, hf, hp, hq, ho⟩
  obtain ⟨xa3, xc3, rfl⟩ : ∃ a c, v3 = Value.slice a 1 c := by obtain ⟨a, c, e, _⟩ := hq.shape; exact ⟨a, c, e⟩
  have HK3 := Lib.hid (Kp.of hq ho)
  have HS := Lib.hid (HS.out.step hf hp)
  clear hf hp HC hq ho
  have hs := HS.out.same ((Touch.refl [] w6).alloc (.cells #[.int .i64 1] 3))
  have HK3 := Lib.hid (HK3.out.same ((Touch.refl [] w6).alloc (.cells #[.int .i64 1] 3)))
  have hc := ask_any _ F4 a mA4 2 _ [1] hs.P (one_sl w6 1)
  rw [rA5] at hc
  have HS := Lib.hid hs
  have HC := Lib.hid hc
  clear hs hc
  go_wp2_with fail
  refine HC.out.mono ?_
  rintro e w7 ⟨v4, F5, rfl, hf, hp, hq, ho⟩
  obtain ⟨xa4, xc4, rfl⟩ : ∃ a c, v4 = Value.slice a 0 c := by obtain ⟨a, c, e, _⟩ := hq.shape; exact ⟨a, c, e⟩
  have HK3 := Lib.hid (HK3.out.step hf)
  have HS := Lib.hid (HS.out.step hf hp)
  clear hf hp HC hq ho
  have hs := HS.out.same ((Touch.refl [] w7).alloc (.cells #[.int .i64 2] 3))
  have HK3 := Lib.hid (HK3.out.same ((Touch.refl [] w7).alloc (.cells #[.int .i64 2] 3)))
  have hc := ask_any _ F5 a mA5 1 _ [2] hs.P (one_sl w7 2)
  rw [rA6] at hc
  have HS := Lib.hid hs
  have HC := Lib.hid hc
  clear hs hc
  go_wp2_with fail
  refine HC.out.mono ?_
  rintro e w8 ⟨v5, F6, rfl, hf, hp, hq, ho⟩
  obtain ⟨xa5, xc5, rfl⟩ : ∃ a c, v5 = Value.slice a 0 c := by obtain ⟨a, c, e, _⟩ := hq.shape; exact ⟨a, c, e⟩
  have HK3 := Lib.hid (HK3.out.step hf)
  have HS := Lib.hid (HS.out.step hf hp)
  clear hf hp HC hq ho
  have hs := HS.out.same ((Touch.refl [] w8).alloc (.cells #[.int .i64 2] 3))
  have HK3 := Lib.hid (HK3.out.same ((Touch.refl [] w8).alloc (.cells #[.int .i64 2] 3)))
  have hc := give_any _ F6 a mA6 1 _ [2] hs.P (one_sl w8 2) (fun _ k hk hm => by simp [Value.ownBlock] at hk; have := HS.out.P.lt k hm; omega)
  rw [rA7] at hc
  have HS := Lib.hid hs
  have HC := Lib.hid hc
  clear hs hc
  go_wp2_with fail
  refine HC.out.mono ?_
  rintro e w9 ⟨v6, F7, rfl, hf, hp, hq, ho⟩
  obtain ⟨xa6, xc6, rfl⟩ : ∃ a c, v6 = Value.slice a 0 c := by obtain ⟨a, c, e, _⟩ := hq.shape; exact ⟨a, c, e⟩
  have HK3 := Lib.hid (HK3.out.step hf)
  have HS := Lib.hid (HS.out.step hf hp)
  clear hf hp HC hq ho
  have HK3 := Lib.hid (HK3.out.same ((Touch.refl [] w9).alloc (.cells #[.int .i64 1] 3)))
  have HS := Lib.hid (HS.out.same ((Touch.refl [] w9).alloc (.cells #[.int .i64 1] 3)))
  have HC := Lib.hid (ints_e _ _ [1] _ HK3.out.s (one_sl w9 1) (by simp))
  go_wp2_with fail
  refine HC.out.mono ?_
  rintro e w20 ⟨rfl, ht⟩
  have HS := Lib.hid (HS.out.same ht)
  obtain ⟨ok, p, hp, e⟩ := HS.out.P
  have hc := pending_any w20 F7 a mA7 p hp.toPb (by rw [e]; decide +kernel) (by rw [e]; decide +kernel)
  rw [e] at hc
  have HC := Lib.hid hc
  clear ht ok hp e hc HK3
  go_wp2_with fail
  refine HC.out.mono ?_
  rintro e w21 ⟨v21, qu, rfl, haks, ht⟩
  obtain ⟨ka, kc, rfl⟩ : ∃ a c, v21 = Value.slice a 1 c := by obtain ⟨a, c, e, _⟩ := haks.s.form; exact ⟨a, c, e⟩
  have HS := Lib.hid (HS.out.same ht)
  clear haks ht HC
  have hs := HS.out
  have hc := leave_any _ F7 a mA7 1 hs.P
  rw [rA8] at hc
  have HS := Lib.hid hs
  have HC := Lib.hid hc
  clear hs hc
  go_wp2_with fail
  refine HC.out.mono ?_
  rintro e w10 ⟨v7, F8, rfl, hf, hp, hq, ho⟩
  obtain ⟨xa7, xc7, rfl⟩ : ∃ a c, v7 = Value.slice a 1 c := by obtain ⟨a, c, e, _⟩ := hq.shape; exact ⟨a, c, e⟩
  have HK7 := Lib.hid (Kp.of hq ho)
  have HS := Lib.hid (HS.out.step hf hp)
  clear hf hp HC hq ho
  have hs := HS.out
  have hc := leave_any _ F8 a mA8 1 hs.P
  rw [rA9] at hc
  have HS := Lib.hid hs
  have HC := Lib.hid hc
  clear hs hc
  go_wp2_with fail
  refine HC.out.mono ?_
  rintro e w11 ⟨v8, F9, rfl, hf, hp, hq, ho⟩
  obtain ⟨xa8, xc8, rfl⟩ : ∃ a c, v8 = Value.slice a 0 c := by obtain ⟨a, c, e, _⟩ := hq.shape; exact ⟨a, c, e⟩
  have HK7 := Lib.hid (HK7.out.step hf)
  have HS := Lib.hid (HS.out.step hf hp)
  clear hf hp HC hq ho
  have HK7 := Lib.hid (HK7.out.same ((Touch.refl [] w11).alloc (.cells #[.int .i64 2] 3)))
  have HS := Lib.hid (HS.out.same ((Touch.refl [] w11).alloc (.cells #[.int .i64 2] 3)))
  have HC := Lib.hid (ints_e _ _ [2] _ HK7.out.s (one_sl w11 2) (by simp))
  go_wp2_with fail
  refine HC.out.mono ?_
  rintro e w30 ⟨rfl, ht⟩
  have HS := Lib.hid (HS.out.same ht)
  obtain ⟨ok, p, hp, e⟩ := HS.out.P
  have hc := held_in w30 F9 a mA9 p 2 hp.toPb (by decide +kernel) (by decide +kernel) (by decide +kernel) (by unfold InI; omega)
  rw [show mA9.held 2 = [1] from by decide +kernel] at hc
  have HC := Lib.hid hc
  clear ht ok hp e hc HK7
  go_wp2_with fail
  refine HC.out.mono ?_
  rintro e w31 ⟨v31, rfl, hq, ht⟩
  obtain ⟨ha, hc, rfl⟩ : ∃ a c, v31 = Value.slice a 1 c := by obtain ⟨a, c, e, _⟩ := hq.shape; exact ⟨a, c, e⟩
  have HS := Lib.hid (HS.out.same (ht.trans ((Touch.refl [] w31).alloc (.cells #[.int .i64 1] 3))))
  have HC := Lib.hid (ints_e _ _ [1] _ (hq.sl.touch ((Touch.refl [] w31).alloc (.cells #[.int .i64 1] 3)) (fun _ _ => by simp)) (one_sl w31 1) (by simp))
  clear hq ht
  go_wp2_with fail
  refine HC.out.mono ?_
  rintro e w32 ⟨rfl, ht⟩
  have HS := Lib.hid (HS.out.same ht)
  obtain ⟨ok, p, hp, e⟩ := HS.out.P
  have hc := avail_any w32 F9 a mA9 p hp ok
  rw [show mA9.avl = [1] from by decide +kernel] at hc
  have HC := Lib.hid hc
  have HPD := Lib.hid (And.intro ok e)
  clear ht ok hp e hc
  go_wp2_with fail
  refine HC.out.mono ?_
  rintro e w33 ⟨v33, F33, rfl, hrd, hq, ho⟩
  obtain ⟨hf, hp⟩ := hrd.paS HPD.out.1 HPD.out.2
  obtain ⟨ia, ic, rfl⟩ : ∃ a c, v33 = Value.slice a 1 c := by obtain ⟨a, c, e, _⟩ := hq.shape; exact ⟨a, c, e⟩
  have HS := Lib.hid ((HS.out.step hf hp).same ((Touch.refl [] w33).alloc (.cells #[.int .i64 1] 3)))
  have HC := Lib.hid (ints_e _ _ [1] _ (hq.sl.touch ((Touch.refl [] w33).alloc (.cells #[.int .i64 1] 3)) (fun _ _ => by simp)) (one_sl w33 1) (by simp))
  clear hrd hq ho hf hp HPD
  go_wp2_with fail
  refine HC.out.mono ?_
  rintro e w34 ⟨rfl, ht⟩
  have HS := Lib.hid (HS.out.same ht)
  obtain ⟨ok, p, hp, e⟩ := HS.out.P
  have hc := asafe_any w34 F33 a mA9 p hp ok
  rw [show mA9.safe = true from by decide +kernel] at hc
  have HC := Lib.hid hc
  have HPD := Lib.hid (And.intro ok e)
  clear ht ok hp e hc
  go_wp2_with fail
  refine HC.out.mono ?_
  rintro e w35 ⟨rfl, F35, hrd⟩
  obtain ⟨hf, hp⟩ := hrd.paS HPD.out.1 HPD.out.2
  have HS := Lib.hid (HS.out.step hf hp)
  obtain ⟨ok, p2, hp2, e⟩ := HS.out.P
  have hc := astuck_any w35 F35 a mA9 p2 hp2 ok e (by decide +kernel)
  rw [show mA9.stuck = [] from by decide +kernel] at hc
  have HC := Lib.hid hc
  have HPD := Lib.hid (And.intro ok e)
  clear hrd hf hp ok hp2 e hc
  go_wp2_with fail
  refine HC.out.mono ?_
  rintro e w36 ⟨v36, F36, rfl, hrd, hq, ho⟩
  obtain ⟨hf, hp⟩ := hrd.paS HPD.out.1 HPD.out.2
  obtain ⟨ja, jc, rfl⟩ : ∃ a c, v36 = Value.slice a 0 c := by obtain ⟨a, c, e, _⟩ := hq.shape; exact ⟨a, c, e⟩
  have HF : Hid (AwP w (.returned (.bool true)) w36) := Lib.hid ⟨rfl, (HS.out.step hf hp).t⟩
  clear hrd hq ho hf hp HC HPD HS
  go_wp2_with fail
  go_ret
  exact HF.out
end Go.Proofs.YticglfmmjgnicaaGreat

set_option linter.unusedVariables false
namespace Go.Proofs.YticglfmmjgnicaaGreat
open Go Go.RowKit

structure Ts (w0 w : World) (a b : Nat) (m : Am) : Prop where
  h : ∃ FA FB r, TwR w FA FB a b m m r ∧ (∀ k, k ∈ FA → w0.heap.size ≤ k) ∧ ∀ k, k ∈ FB → w0.heap.size ≤ k
  t : Touch [] w0 w
section
variable {w0 w w' w1 : World} {a b : Nat} {m : Am}
theorem Ts.same (h : Ts w0 w a b m) (ht : Touch [] w w') : Ts w0 w' a b m := by
  obtain ⟨FA, FB, r, h1, h2, h3⟩ := h.h
  exact ⟨⟨FA, FB, r, h1.same ht, h2, h3⟩, h.t.trans ht⟩
theorem Ts.ok (h : Ts w0 w a b m) : m.Ok := by
  obtain ⟨FA, FB, r, h1, h2, h3⟩ := h.h
  exact h1.A.1
def TsP (w0 : World) (a b : Nat) (m : Am) (e : Ending) (w' : World) : Prop := e = .returned (.bool true) ∧ Ts w0 w' a b m
theorem plays_s (kd q : Int) (ua : Option Addr) (un uc : Nat) (u : List Int) (h : Ts w0 w a b m) (ht : Touch [] w w1) (hqi : InI q) (hu : Sl w1 (.slice ua un uc) u) (hul : u.length ≤ 1000) (hv : u ≠ [] → ∀ k, (Value.slice ua un uc).ownBlock = some k → k < w0.heap.size ∨ w.heap.size ≤ k) :
    Calls Tryz.prog 13 #[.pointer (some ⟨a, 0, none⟩), .pointer (some ⟨b, 0, none⟩), .agg #[.int .i64 kd, .int .i64 q, .slice ua un uc]] w1 (TsP w0 a b (m.step kd q u)) := by
  obtain ⟨FA, FB, r, h1, h2, h3⟩ := h.h
  have hl1 := h1.A.lt
  have hl2 := h1.B.lt
  refine (plays_any w1 FA FB a b m r kd q ua un uc u (h1.same ht) hqi hu hul (fun hne k hk => ?_)).mono ?_
  · rcases hv hne k hk with e | e
    · exact ⟨fun hm => by have := h2 k hm; omega, fun hm => by have := h3 k hm; omega⟩
    · exact ⟨fun hm => by have := hl1 k hm; omega, fun hm => by have := hl2 k hm; omega⟩
  · rintro e w' ⟨he, t, FA', FB', r', q1, q2, q3⟩
    have s1 := h.t.size
    have s2 := ht.size
    refine ⟨he, ⟨FA', FB', r', q1, fun k hk => ?_, fun k hk => ?_⟩, (h.t.trans ht).transF t (fun k hk hl => ?_)⟩
    · rcases q2 k hk with e | e
      · exact h2 k e
      · omega
    · rcases q3 k hk with e | e
      · exact h3 k e
      · omega
    · rcases List.mem_append.1 hk with e | e
      · have := h2 k e; omega
      · have := h3 k e; omega
theorem same_s (h : Ts w0 w a b m) : Calls Tryz.prog 14 #[.pointer (some ⟨a, 0, none⟩), .pointer (some ⟨b, 0, none⟩)] w (TsP w0 a b m) := by
  obtain ⟨FA, FB, r, h1, h2, h3⟩ := h.h
  refine (same_any w FA FB a b m r h1).mono ?_
  rintro e w' ⟨he, FA', q1, q2⟩
  have s1 := h.t.size
  exact ⟨he, ⟨FA', FB, r, q1, fun k hk => by
    rcases q2.g k hk with e | e
    · exact h2 k e
    · omega, h3⟩, h.t.transF q2.t (fun k hk hl => by have := h2 k hk; omega)⟩
/-- The one is read. -/
theorem Ts.read {xs : List Int} {e : Ending} (h : Ts w0 w a b m) (hr : ∀ FA FB r, TwR w FA FB a b m m r → OwT w FA FB a b m m r xs e w') : ∃ v, e = .returned v ∧ Ts w0 w' a b m ∧ Qu w' w.heap.size 3 v (xs.map (Value.int .i64)) := by
  obtain ⟨FA, FB, r, h1, h2, h3⟩ := h.h
  obtain ⟨v, FA', he, q1, q2, q3, q4⟩ := hr FA FB r h1
  have s1 := h.t.size
  exact ⟨v, he, ⟨⟨FA', FB, r, q1, fun k hk => by
    rcases q2.g k hk with e | e
    · exact h2 k e
    · omega, h3⟩, h.t.transF q2.t (fun k hk hl => by have := h2 k hk; omega)⟩, q3⟩
end
theorem new_two {w w1 w2 : World} {tot : List Int} {clm : Bool} {e1 e2 : Ending} (h1 : NewP w tot clm e1 w1) (h2 : RNewP w1 tot clm e2 w2) :
    (newB tot = false ∧ e1 = .returned (.tuple #[.pointer none, .int .i64 1]) ∧ e2 = .returned (.tuple #[.pointer none, .int .i64 1]) ∧ Touch [] w w2) ∨ (newB tot = true ∧ ∃ a b, e1 = .returned (.tuple #[.pointer (some ⟨a, 0, none⟩), .int .i64 0]) ∧ e2 = .returned (.tuple #[.pointer (some ⟨b, 0, none⟩), .int .i64 0]) ∧ Ts w w2 a b (Am.new tot clm)) := by
  obtain ⟨t1, h1⟩ := h1
  obtain ⟨t2, h2⟩ := h2
  rcases h1 with ⟨hb, he⟩ | ⟨hb, a, FA, he, hp, hg⟩
  · rcases h2 with ⟨_, he2⟩ | ⟨hb2, _⟩
    · exact .inl ⟨hb, he, he2, t1.trans t2⟩
    · rw [hb] at hb2; cases hb2
  · rcases h2 with ⟨hb2, _⟩ | ⟨_, b, FB, r, he2, hr, hg2⟩
    · rw [hb] at hb2; cases hb2
    · have s1 := t1.size
      exact .inr ⟨hb, a, b, he, he2, ⟨FA, FB, r, ⟨hp.same t2, hr, fun k hk hm => by have := hp.lt k hk; have := hg2 k hm; omega⟩, hg, fun k hk => by have := hg2 k hk; omega⟩, t1.trans t2⟩
/-- A list of calls. -/
abbrev Cal := Int × Int × List Int
def cal (l : List Cal) (i : Nat) : Cal := l.getD i (0, 0, [])
def Stl (w : World) (v : Value) (l : List Cal) : Prop := ∃ a cap, v = .slice a l.length cap ∧ (l = [] ∨ ∃ g off, a = some ⟨g, off, none⟩ ∧ g < w.heap.size ∧ ∃ ps : Nat → Value, ∀ i, i < l.length → Sl w (ps i) (cal l i).2.2 ∧ w.cell? ⟨g, off + i * 3, none⟩ = some (.int .i64 (cal l i).1) ∧ w.cell? ⟨g, off + i * 3 + 1, none⟩ = some (.int .i64 (cal l i).2.1) ∧ w.cell? ⟨g, off + i * 3 + 2, none⟩ = some (ps i))
theorem Stl.form {w : World} {v : Value} {l : List Cal} (h : Stl w v l) : ∃ a c, v = .slice a l.length c := by obtain ⟨a, c, h, _⟩ := h; exact ⟨a, c, h⟩
theorem Stl.at {w : World} {a : Option Addr} {n cap : Nat} {l : List Cal} (h : Stl w (.slice a n cap) l) {i : Nat} (hi : i < l.length) : ∃ g off, a = some ⟨g, off, none⟩ ∧ ∃ ua un uc, Sl w (.slice ua un uc) (cal l i).2.2 ∧
    ∀ w', Touch [] w w' → w'.cell? ⟨g, off + i * 3, none⟩ = some (.int .i64 (cal l i).1) ∧ w'.cell? ⟨g, off + i * 3 + 1, none⟩ = some (.int .i64 (cal l i).2.1) ∧ w'.cell? ⟨g, off + i * 3 + 2, none⟩ = some (.slice ua un uc) := by
  obtain ⟨a', cap', he, h⟩ := h
  cases he
  rcases h with h | ⟨g, off, rfl, hg, ps, hp⟩
  · subst h; simp at hi
  · obtain ⟨q0, q1, q2, q3⟩ := hp i hi
    obtain ⟨ua, uc, hu⟩ := q0.form
    refine ⟨g, off, rfl, ua, _, uc, by rw [← hu]; exact q0, fun w' ht => ?_⟩
    have hb := ht.block g hg (by simp)
    refine ⟨?_, ?_, ?_⟩
    · rw [World.cell?_of_block (w := w) (a := ⟨g, off + i * 3, none⟩) hb]; exact q1
    · rw [World.cell?_of_block (w := w) (a := ⟨g, off + i * 3 + 1, none⟩) hb]; exact q2
    · rw [World.cell?_of_block (w := w) (a := ⟨g, off + i * 3 + 2, none⟩) hb, ← hu]; exact q3
theorem Sl.ltn {w : World} {v : Value} {xs : List Int} (h : Sl w v xs) (hne : xs ≠ []) : ∀ k, v.ownBlock = some k → k < w.heap.size := fun k hk => by
  obtain ⟨a, c, rfl, h | ⟨g, off, rfl, hg, _⟩⟩ := h
  · exact absurd h hne
  · simp [Value.ownBlock] at hk; omega
def smallB (tot : List Int) (l : List Cal) : Bool := decide (tot.length ≤ 20) && decide (l.length ≤ 60) && (List.range l.length).all fun i => decide ((cal l i).2.2.length ≤ 20)
def SmP (tot : List Int) (l : List Cal) (w : World) (e : Ending) (w' : World) : Prop := ∃ B, e = .returned (.bool B) ∧ w = w' ∧ (B = true → tot.length ≤ 20 ∧ l.length ≤ 60 ∧ ∀ i, i < l.length → (cal l i).2.2.length ≤ 20)
set_option maxRecDepth 100000 in
set_option maxHeartbeats 4000000 in
theorem small_any (w : World) (v vl : Value) (tot : List Int) (l : List Cal) (h : Sl w v tot) (hl : Stl w vl l) (h1 : tot.length ≤ 9223372036854775807) (h2 : l.length ≤ 9223372036854775807) (h3 : ∀ i, i < l.length → (cal l i).2.2.length ≤ 9223372036854775807) :
    Calls Tryz.prog 9 #[v, vl] w (SmP tot l w) := by
  obtain ⟨a, c, rfl⟩ := h.form
  obtain ⟨la, lc, rfl⟩ := hl.form
  obtain ⟨N, hN⟩ : ∃ N, tot.length = N := ⟨_, rfl⟩
  obtain ⟨L, hL⟩ : ∃ L, l.length = L := ⟨_, rfl⟩
  have HN := Lib.hid hN
  have HL := Lib.hid hL
  have HS := Lib.hid hl
  have H3 := Lib.hid h3
  rw [hN] at h1 ⊢
  rw [hL] at h2 HS ⊢
  clear h hl h3 hN hL
  by_cases c1 : (20 : Int) < (N : Int)
  · have HF : Hid (SmP tot l w (.returned (.bool false)) w) := Lib.hid ⟨false, rfl, rfl, fun h => by cases h⟩
    go_enter Tryz.func9, Tryz.ntmps9
    go_wp2_with fail
    go_ret
    exact HF.out
  · by_cases c2 : (60 : Int) < (L : Int)
    · have HF : Hid (SmP tot l w (.returned (.bool false)) w) := Lib.hid ⟨false, rfl, rfl, fun h => by cases h⟩
      go_enter Tryz.func9, Tryz.ntmps9
      go_wp2_with fail
      go_ret
      exact HF.out
    · have hL60 : L ≤ 60 := by omega
      have hN20 : N ≤ 20 := by omega
      go_enter Tryz.func9, Tryz.ntmps9
      go_wp2_with fail
      go_loop [5] (fun iv => ∃ j : Nat, j ≤ L ∧ iv = .int .i64 (j : Int) ∧ ∀ k, k < j → (cal l k).2.2.length ≤ 20) (fun iv => L + 1 - (intOf iv).toNat)
      case atStart => exact ⟨0, by omega, rfl, fun k hk => by omega⟩
      case round =>
        obtain ⟨j, hj, rfl, hno⟩ := hrel
        have HNo := Lib.hid hno
        clear hno
        by_cases hjn : j < L
        · have hlt : (j : Int) < (L : Int) := by omega
          obtain ⟨g, off, hg, ua, un, uc, hsl, xo⟩ := HS.out.at (i := j) (by rw [HL.out]; exact hjn)
          cases hg
          have x1 := (xo _ (Touch.refl _ _)).2.2
          have hun : un = (cal l j).2.2.length := by obtain ⟨a, c, e, _⟩ := hsl; cases e; rfl
          have hum := H3.out j (by rw [HL.out]; exact hjn)
          rw [← hun] at hum
          have HUN := Lib.hid hun
          clear xo hun hsl
          by_cases c3 : (20 : Int) < (un : Int)
          · have HF : Hid (SmP tot l w (.returned (.bool false)) w) := Lib.hid ⟨false, rfl, rfl, fun h => by cases h⟩
            go_wp2
            go_ret
            exact HF.out
          · have HC3 : Hid (un ≤ 20) := Lib.hid (by omega)
            go_wp2
            go_round
            case rel =>
              refine ⟨j + 1, by omega, by go_num, fun k hk => ?_⟩
              by_cases e : k = j
              · subst e; rw [← HUN.out]; exact HC3.out
              · exact HNo.out k (by omega)
            case measure => simp [intOf]; omega
        · have hlt : ¬ (j : Int) < (L : Int) := by omega
          have HF : Hid (SmP tot l w (.returned (.bool true)) w) := Lib.hid ⟨true, rfl, rfl, fun _ => ⟨by rw [HN.out]; exact hN20, by rw [HL.out]; exact hL60, fun i hi => HNo.out i (by rw [HL.out] at hi; omega)⟩⟩
          go_wp2
          go_ret
          exact HF.out
theorem eql_pA (r : Addr) (w : World) : (binOp .eql 26 (.pointer (some r)) (.pointer none)).run Tryz.prog w = .ok (.bool false) w := by kernel_rfl
theorem eql_pB (r : Addr) (w : World) : (binOp .eql 30 (.pointer (some r)) (.pointer none)).run Tryz.prog w = .ok (.bool false) w := by kernel_rfl
set_option maxRecDepth 100000 in
set_option maxHeartbeats 8000000 in
theorem allocPlays_any (a0 : Option Addr) (n0 c0 : Nat) (tot : List Int) (clm : Bool) (la : Option Addr) (ln lc : Nat) (l : List Cal) (w : World) (h : Sl w (.slice a0 n0 c0) tot) (hl : Stl w (.slice la ln lc) l) (h1 : tot.length ≤ 9223372036854775807) (h2 : l.length ≤ 9223372036854775807) (h3 : ∀ i, i < l.length → (cal l i).2.2.length ≤ 9223372036854775807 ∧ InI (cal l i).2.1) :
    Calls Tryz.prog 3 #[.slice a0 n0 c0, .bool clm, .slice la ln lc] w (AwP w) := by
  have HSM := Lib.hid (small_any w _ _ tot l h hl h1 h2 (fun i hi => (h3 i hi).1))
  have HS := Lib.hid (And.intro h hl)
  have H3 := Lib.hid h3
  have hln : ln = l.length := by obtain ⟨a, c, e, _⟩ := hl; cases e; rfl
  have HLN := Lib.hid hln
  have HAW := Lib.hid (awake_any w)
  clear h hl h1 h2 h3 hln
  go_enter Tryz.func3, Tryz.ntmps3
  go_wp2_with fail
  refine HSM.out.mono ?_
  rintro e w1 ⟨B, rfl, rfl, hB⟩
  have HB := Lib.hid hB
  clear hB HSM
  cases B with
  | false =>
    go_wp2_with fail
    refine HAW.out.mono ?_
    rintro e w1 ⟨rfl, ht⟩
    have HT := Lib.hid ht
    clear ht
    go_wp2_with fail
    go_ret
    exact ⟨rfl, HT.out⟩
  | true =>
    have hsm := HB.out rfl
    have hlen : ln ≤ 60 := by rw [HLN.out]; exact hsm.2.1
    have HC := Lib.hid (new_any w _ tot clm HS.out.1 (by omega))
    have HSM := Lib.hid hsm
    clear hsm HB HAW
    go_wp2_with fail
    refine HC.out.mono ?_
    rintro e w1 hn1
    have HN1 := Lib.hid hn1
    have HT1 := Lib.hid hn1.1
    have HC2 := Lib.hid (rnew_any w1 (.slice a0 n0 c0) tot clm (HS.out.1.touch hn1.1 (fun _ _ => by simp)) (by have := HSM.out.1; omega))
    have hcase : (newB tot = false ∧ e = .returned (.tuple #[.pointer none, .int .i64 1])) ∨ (newB tot = true ∧ ∃ a, e = .returned (.tuple #[.pointer (some ⟨a, 0, none⟩), .int .i64 0])) := by
      rcases hn1.2 with ⟨hb, he⟩ | ⟨hb, a, F, he, _⟩
      · exact .inl ⟨hb, he⟩
      · exact .inr ⟨hb, a, he⟩
    clear hn1 HC
    rcases hcase with ⟨hb, rfl⟩ | ⟨hb, a, rfl⟩
    · have HBN := Lib.hid hb
      clear hb
      go_wp2_with fail
      refine HC2.out.mono ?_
      rintro e w2 hn2
      rcases new_two HN1.out hn2 with ⟨_, _, rfl, ht⟩ | ⟨hb, _⟩
      · have HT2 := Lib.hid ht
        have HAW := Lib.hid (awake_any w2)
        clear ht hn2 HC2
        go_wp2_with fail
        go_loopw [11] (fun iv wr => iv = .int .i64 0 ∧ w2 = wr) (fun _ _ => 1)
        case atStart => exact ⟨rfl, rfl⟩
        case round =>
          obtain ⟨rfl, hww⟩ := hrel
          rw [← hww]
          clear hww
          have en : (binOp .neq 30 (.pointer none) (.pointer none)).run Tryz.prog w2 = .ok (.bool false) w2 := by kernel_rfl
          by_cases hz : ln = 0
          · have hlt : ¬ (0 : Int) < (ln : Int) := by omega
            go_wp2_with fail
            refine HAW.out.mono ?_
            rintro e w3 ⟨rfl, ht⟩
            have HT := Lib.hid (HT2.out.trans ht)
            clear ht
            go_wp2_with fail
            go_ret
            exact ⟨rfl, HT.out⟩
          · have hlt : (0 : Int) < (ln : Int) := by omega
            go_wp2_with fail
            refine HAW.out.mono ?_
            rintro e w3 ⟨rfl, ht⟩
            have HT := Lib.hid (HT2.out.trans ht)
            clear ht
            go_wp2_with fail
            go_ret
            exact ⟨rfl, HT.out⟩
      · rw [HBN.out] at hb; cases hb
    · have HBN := Lib.hid hb
      clear hb
      go_wp2_with fail
      refine HC2.out.mono ?_
      rintro e w2 hn2
      rcases new_two HN1.out hn2 with ⟨hb, _⟩ | ⟨_, a', b, hea, rfl, hts⟩
      · rw [HBN.out] at hb; cases hb
      · cases hea
        have HTS := Lib.hid hts
        clear hts hn2 HC2 HN1
        have ea := eql_pA ⟨a, 0, none⟩
        have eb := eql_pB ⟨b, 0, none⟩
        go_wp2_with fail
        go_loopw [11] (fun iv wr => ∃ (i : Nat) (m : Am), i ≤ ln ∧ iv = .int .i64 (i : Int) ∧ Ts w wr a b m) (fun iv _ => ln + 1 - (intOf iv).toNat)
        case atStart => exact ⟨0, _, by omega, rfl, HTS.out⟩
        case round =>
          clear HTS
          obtain ⟨i, m, hi, rfl, hts⟩ := hrel
          have HTS := Lib.hid hts
          clear hts
          by_cases hk : i < ln
          · have hlt : (i : Int) < (ln : Int) := by omega
            have hil : i < l.length := by rw [← HLN.out]; exact hk
            obtain ⟨g, off, hg, ua, un, uc, hsl, xo⟩ := HS.out.2.at (i := i) hil
            cases hg
            obtain ⟨x1, x2, x3⟩ := xo _ HTS.out.t
            obtain ⟨kd, hkd⟩ : ∃ x, (cal l i).1 = x := ⟨_, rfl⟩
            obtain ⟨q, hq⟩ : ∃ x, (cal l i).2.1 = x := ⟨_, rfl⟩
            obtain ⟨u, hu⟩ : ∃ x, (cal l i).2.2 = x := ⟨_, rfl⟩
            have hb3 := H3.out i hil
            have hb4 := HSM.out.2.2 i hil
            rw [hkd] at x1
            rw [hq] at x2 hb3
            rw [hu] at hsl hb4
            have HC := Lib.hid (plays_s kd q ua un uc u HTS.out (Touch.refl _ _) hb3.2 (hsl.touch HTS.out.t (fun _ _ => by simp)) (by omega) (fun hne k hk => .inl (hsl.ltn hne k hk)))
            clear xo hkd hq hu hb3 hb4 hsl
            go_wp2_with fail
            refine HC.out.mono ?_
            rintro e w5 ⟨rfl, hts⟩
            have HC := Lib.hid (same_s hts)
            clear hts x1 x2 x3
            go_wp2_with fail
            refine HC.out.mono ?_
            rintro e w6 ⟨rfl, hts⟩
            have HTS6 := Lib.hid hts
            clear hts HC
            go_wp2_with fail
            go_roundw
            case rel => exact ⟨i + 1, _, by omega, by go_num, HTS6.out⟩
            case measure => simp [intOf]; omega
          · have hlt : ¬ (i : Int) < (ln : Int) := by omega
            have HAW := Lib.hid (awake_any wr)
            go_wp2_with fail
            refine HAW.out.mono ?_
            rintro e w3 ⟨rfl, ht⟩
            have HT := Lib.hid (HTS.out.t.trans ht)
            clear ht
            go_wp2_with fail
            go_ret
            exact ⟨rfl, HT.out⟩
end Go.Proofs.YticglfmmjgnicaaGreat

set_option linter.unusedVariables false
namespace Go.Proofs.YticglfmmjgnicaaGreat
open Go Go.RowKit Go.BigFrame Go.ChangeShapes Go.WideShapes Go.Deep

section
variable {H : Type} {enc : TypeId × Value → H} {P : Program} {w : World} {base : Nat} {spare : Nat → Bool} {held : Bool}
/-- An argument that is a list of calls. -/
theorem arg_calls {t e ti ei : TypeId} {fs : Array Field} {fuel : Nat} {a : Option Addr} {len cap : Nat} {x : DataW H × List MemPlace} (ht : P.underlying t = some (.slice e)) (he : P.underlying e = some (.struct fs)) (hti : P.underlying ti = some (.slice ei)) (hei : P.underlying ei = some (.int .i64)) (hCi : P.cellsOf ei = 1)
    (hf0 : fs[0]?.map (fun f => (f.offset, f.type)) = some (0, ei)) (hf1 : fs[1]?.map (fun f => (f.offset, f.type)) = some (1, ei)) (hf2 : fs[2]?.map (fun f => (f.offset, f.type)) = some (2, ti)) (hCti : P.cellsOf ti = 1) (hC : P.cellsOf e = 3)
    (h : DataW.trod enc P w base spare held fuel t (Value.slice a len cap).cells.toList = some x) :
    ∃ l : List Cal, l.length = len ∧ Stl w (.slice a len cap) l ∧ (∀ i, i < len → (cal l i).2.2.length ≤ maxLen ∧ InI (cal l i).2.1) ∧ len ≤ maxLen := by
  obtain ⟨hm, hz | ⟨g, off, rfl, hlt, hi⟩⟩ := arg_elems ht hC (by omega) h
  · subst hz
    exact ⟨[], rfl, ⟨a, cap, rfl, .inl rfl⟩, fun i hi => by omega, hm⟩
  · have h1 : ∀ i, ∃ (r : Value × Cal), i < len → Sl w r.1 r.2.2.2 ∧ (w.cell? ⟨g, off + i * 3, none⟩ = some (.int .i64 r.2.1) ∧ w.cell? ⟨g, off + i * 3 + 1, none⟩ = some (.int .i64 r.2.2.1) ∧ w.cell? ⟨g, off + i * 3 + 2, none⟩ = some r.1) ∧ r.2.2.2.length ≤ maxLen ∧ InI r.2.2.1 := by
      intro i
      by_cases hil : i < len
      · obtain ⟨cs, n, y, hl, hc, htr⟩ := hi i hil
        obtain ⟨ys, n', _, _, _, hyl, hf⟩ := DataW.trod_struct he htr
        obtain ⟨f0, e0, o0⟩ : ∃ f, fs[0]? = some f ∧ (f.offset, f.type) = (0, ei) := by
          cases hq : fs[0]? with
          | none => rw [hq] at hf0; cases hf0
          | some f => rw [hq] at hf0; exact ⟨f, rfl, by simpa using hf0⟩
        obtain ⟨f1, e1, o1⟩ : ∃ f, fs[1]? = some f ∧ (f.offset, f.type) = (1, ei) := by
          cases hq : fs[1]? with
          | none => rw [hq] at hf1; cases hf1
          | some f => rw [hq] at hf1; exact ⟨f, rfl, by simpa using hf1⟩
        obtain ⟨f2, e2, o2⟩ : ∃ f, fs[2]? = some f ∧ (f.offset, f.type) = (2, ti) := by
          cases hq : fs[2]? with
          | none => rw [hq] at hf2; cases hf2
          | some f => rw [hq] at hf2; exact ⟨f, rfl, by simpa using hf2⟩
        have k0 := hf 0 f0 e0
        have k1 := hf 1 f1 e1
        have k2 := hf 2 f2 e2
        have hlt : ∀ j f, fs[j]? = some f → ∃ y, ys[j]? = some y := fun j f e => by
          have : j < fs.size := by
            by_cases h : j < fs.size
            · exact h
            · rw [Array.getElem?_eq_none (by omega)] at e; cases e
          exact ⟨_, List.getElem?_eq_getElem (by omega)⟩
        obtain ⟨y0, hy0⟩ := hlt 0 f0 e0
        obtain ⟨y1, hy1⟩ := hlt 1 f1 e1
        obtain ⟨y2, hy2⟩ := hlt 2 f2 e2
        rw [hy0] at k0
        rw [hy1] at k1
        rw [hy2] at k2
        rw [(Prod.mk.inj o0).1, (Prod.mk.inj o0).2, hCi] at k0
        rw [(Prod.mk.inj o1).1, (Prod.mk.inj o1).2, hCi] at k1
        rw [(Prod.mk.inj o2).1, (Prod.mk.inj o2).2, hCti] at k2
        obtain ⟨a0, a1, a2, rfl⟩ : ∃ a0 a1 a2, cs = [a0, a1, a2] := by
          match cs, hl with
          | [a0, a1, a2], _ => exact ⟨a0, a1, a2, rfl⟩
        simp only [List.drop_zero, List.drop_succ_cons, List.take_succ_cons, List.take_zero] at k0 k1 k2
        obtain ⟨z0, hz0, _, _⟩ := DataW.trod_int hei k0
        obtain rfl : a0 = .int .i64 z0 := by simpa using hz0
        obtain ⟨z1, hz1, _, hwf⟩ := DataW.trod_int hei k1
        obtain rfl : a1 = .int .i64 z1 := by simpa using hz1
        have hin : InI z1 := inI_of hwf
        have sl : ∀ {u : Value} {n' : Nat} {y : DataW H × List MemPlace}, DataW.trod enc P w base spare held n' ti [u] = some y → ∃ xs, Sl w u xs ∧ xs.length ≤ maxLen := fun {u n' y} hu => by
          rcases open_slice hti hu with ⟨hcs, _⟩ | ⟨a', len', cap', m, n, D, Pl, hcs, _⟩
          · obtain rfl : u = .slice none 0 0 := by simpa using hcs
            exact ⟨[], Sl.nil w, by simp⟩
          · obtain rfl : u = .slice a' len' cap' := by simpa using hcs
            obtain ⟨xs, q1, q2, q3, q4⟩ := arg_ints hti hei hCi (a := a') (len := len') (cap := cap') hu
            exact ⟨xs, q2, by omega⟩
        obtain ⟨xs, s1, s2⟩ := sl k2
        refine ⟨(a2, (z0, z1, xs)), fun _ => ⟨s1, ⟨?_, ?_, ?_⟩, s2, hin⟩⟩
        · have := hc 0 (by omega); rw [Nat.add_zero] at this; exact this
        · have := hc 1 (by omega); rw [← Nat.add_assoc] at this; exact this
        · have := hc 2 (by omega); rw [← Nat.add_assoc] at this; exact this
      · exact ⟨(.int .i64 0, (0, 0, [])), fun h => absurd h hil⟩
    obtain ⟨F, hF⟩ := Classical.axiomOfChoice h1
    have hg : ∀ i, i < len → cal ((List.range len).map fun i => (F i).2) i = (F i).2 := fun i hi => by simp [cal, hi]
    refine ⟨(List.range len).map fun i => (F i).2, by simp, ⟨_, cap, by simp, .inr ⟨g, off, rfl, hlt, fun i => (F i).1, fun i hi => ?_⟩⟩, fun i hi => ?_, hm⟩
    · have hi' : i < len := by simpa using hi
      rw [hg i hi']
      exact ⟨(hF i hi').1, (hF i hi').2.1⟩
    · rw [hg i hi]; exact (hF i hi).2.2
end
theorem plays_row (va : Value) (tot : List Int) (clm : Bool) (vl : Value) (l : List Cal) (w : World) (h : Sl w va tot) (_ : ∀ y ∈ tot, InI y) (h1 : tot.length ≤ maxLen) (hl : Stl w vl l) (h3 : ∀ i, i < l.length → (cal l i).2.2.length ≤ maxLen ∧ InI (cal l i).2.1) (h2 : l.length ≤ maxLen) :
    Calls Tryz.prog 3 #[va, .bool clm, vl] w fun e w' => e = .returned (.bool true) ∧ Below w.heap.size w w' := by
  obtain ⟨a, c, rfl⟩ := h.form
  obtain ⟨la, lc, rfl⟩ := hl.form
  exact (allocPlays_any _ _ _ tot clm _ _ _ l w h hl h1 h2 h3).mono fun _ _ ⟨he, ht⟩ => ⟨he, ht.below (Nat.le_refl _) (by simp)⟩
end Go.Proofs.YticglfmmjgnicaaGreat

set_option linter.unusedVariables false
namespace Go.Proofs.YticglfmmjgnicaaGreat
open Go.ChangeShapes Go.WideShapes Go.ChangeAt Go.RowKit
open Go.ChangeMaps (open_string shut_string)

theorem own : ownKnob Tryz.prog.godebug = none := by kernel_rfl
theorem laidOut : laidOutB Tryz.prog = true := by kernel_rfl

namespace allocPlays
set_option maxRecDepth 100000 in
theorem lifted (os : Os) (started : os.Started) (H : Type) (enc : TypeId × Value → H) :
    ReturnsInHanded {} Tryz.checked os 3 .any (Rows.allocPlaysSpec.pre6 enc Tryz.prog Tryz.f3 Rows.allocPlaysRow.domain false) (Rows.allocPlaysSpec.post enc Tryz.prog Tryz.f3 false true false false) := by
  refine returnsInHanded_of_change (C := Tryz.checked) own started (by kernel_rfl) Tryz.func3
    (ChangeSpec.witness6 (enc := enc) (C := Tryz.checked) false ⟨#[], #[.slice none 0 0, .bool false, .slice none 0 0], []⟩ 8 (by kernel_rfl) (by kernel_rfl) (by kernel_rfl) (by kernel_rfl)) ?_
  intro W base args ds gs before hval0 hW hcnd _
  have hval : ∀ (j : Nat) t v, Tryz.f3.params[j]? = some t → args[j]? = some v → Value.okWide Tryz.prog W .any base t v := hval0
  have hW' := hW
  obtain ⟨p, q, hA0, hV, rfl, hfz, hnd⟩ := hW
  have hA : DataW.TrodAll enc Tryz.prog W 0 (fun _ => true) true Tryz.f3.params.toList args.toList ds p := hA0
  rw [Tryz.params3] at hA hval
  obtain ⟨v0, vs0, d0, ds0, p0, q0, hargs, rfl, rfl, h0, r0⟩ := trodAll_cons hA
  obtain ⟨v1, vs1, d1, ds1, p1, q1, rfl, rfl, rfl, h1, r1⟩ := trodAll_cons r0
  obtain ⟨v2, vs2, d2, ds2, p2, q2, rfl, rfl, rfl, h2, r2⟩ := trodAll_cons r1
  obtain ⟨rfl, rfl, rfl⟩ := trodAll_nil r2
  obtain rfl : args = #[v0, v1, v2] := by cases args; simp_all
  obtain ⟨rfl, rfl⟩ := trodVars_none hV
  obtain ⟨a0, len0, cap0, rfl⟩ := okWide_slice Tryz.underlying22 (hval 0 22 v0 rfl rfl)
  have k0 := h0
  have lt0 : ∀ x ∈ p0, x.block < W.heap.size := by obtain ⟨m, hm⟩ := k0; exact DataW.trod_lt m _ _ _ hm
  obtain ⟨z0, hl0, w0, u0, x0⟩ := (by obtain ⟨fuel, hf⟩ := h0; exact arg_ints Tryz.underlying22 Tryz.underlying3 (by kernel_rfl) hf : ∃ xs : List Int, xs.length = len0 ∧ Sl W (.slice a0 len0 cap0) xs ∧ (∀ y ∈ xs, InI y) ∧ len0 ≤ maxLen)
  obtain ⟨a1, rfl, rfl, rfl⟩ := open_bool Tryz.underlying4 (hval 1 4 v1 rfl rfl) h1
  obtain ⟨a2, len2, cap2, rfl⟩ := okWide_slice Tryz.underlying23 (hval 2 23 v2 rfl rfl)
  have k2 := h2
  have lt2 : ∀ x ∈ p2, x.block < W.heap.size := by obtain ⟨m, hm⟩ := k2; exact DataW.trod_lt m _ _ _ hm
  obtain ⟨z2, hl2, w2, u2, x2⟩ := (by obtain ⟨fuel, hf⟩ := h2; exact arg_calls Tryz.underlying23 Tryz.underlying35 Tryz.underlying22 Tryz.underlying3 (by kernel_rfl) (by kernel_rfl) (by kernel_rfl) (by kernel_rfl) (by kernel_rfl) (by kernel_rfl) hf : ∃ l : List Cal, l.length = len2 ∧ Stl W (.slice a2 len2 cap2) l ∧ (∀ i, i < len2 → (cal l i).2.2.length ≤ maxLen ∧ InI (cal l i).2.1) ∧ len2 ≤ maxLen)
  clear hA0 hval0
  refine (plays_row _ z0 a1 _ z2 (w := W) w0 u0 (by rw [hl0]; exact x0) w2 (by rw [hl2]; exact u2) (by rw [hl2]; exact x2)).mono fun e W' ⟨he, bel0⟩ => ?_
  subst he
  have bel : Below W.heap.size W W' := by first | exact bel0 | (subst bel0; exact Below.refl _ _)
  exact ⟨_, rfl, _, _, _, [], _, [], hW', trodAll_mk1 (shut_bool Tryz.underlying4 _), (trodAll_cons_mk (Below.trod laidOut (by kernel_rfl) (of_decide_eq_true (by kernel_rfl)) k0 bel lt0) (trodAll_cons_mk (shut_bool Tryz.underlying4 _) (trodAll_cons_mk (Below.trod laidOut (by kernel_rfl) (of_decide_eq_true (by kernel_rfl)) k2 bel lt2) trodAll_mk0))), rfl, bel.frame _, fun h => by cases h⟩

theorem over : Rows.allocPlaysRow.holds Tryz.pinned (OpenSpec.ofChange Rows.allocPlaysSpec) :=
  OpenClaim.holds_of_wide 3 Tryz.f3 rfl rfl rfl rfl rfl rfl rfl ⟨rfl, rfl, rfl, rfl, rfl⟩ rfl rfl rfl rfl rfl (by kernel_rfl) Tryz.func3 (by kernel_rfl)
    (of_decide_eq_true (by kernel_rfl)) (by unfold Func.isWrapper; first | (rw [if_pos (by decide +kernel)]; kernel_rfl) | (rw [if_neg (by decide +kernel)]; exact ⟨rfl, rfl⟩))
    (fun os started H enc _ => lifted os started H enc)
theorem proved : Rows.AllocPlaysSaid := over
#print axioms proved
end allocPlays
end Go.Proofs.YticglfmmjgnicaaGreat
