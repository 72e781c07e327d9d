/-
  Who joins waits for all that it forked: what the rounds keep.
-/
import Derived.Test.YtjcbcbhiophkfaaJH
set_option linter.unusedVariables false
namespace Go.Proofs.Ytjcbcbhiophkfaa
open Go.RowKit Go.BigFrame

set_option maxHeartbeats 4000000 in
theorem without_any (v : Value) (xs : List Int) (x : Int) (w : World) (h : Sl w v xs) (hl : xs.length ≤ 100000) :
    Calls Try.prog 16 #[v, .int .i64 x] w (Own (wo xs x) w) := by
  obtain ⟨a, cap, rfl, h⟩ := h
  have HR := Lib.hid h
  have HSl : Hid (Sl w (.slice a xs.length cap) xs) := Lib.hid ⟨a, cap, rfl, h⟩
  obtain ⟨n, hn⟩ : ∃ n, xs.length = n := ⟨_, rfl⟩
  have HN := Lib.hid hn
  rw [hn] at hl HSl ⊢
  have HQ0 := Lib.hid (Qu.made (w := w) (base := w.heap.size) (e := 3) (b := w.heap.size) (n := 0) (c := #[]) rfl (Nat.le_refl _) rfl (Nat.zero_le _))
  clear h hn
  go_enter Try.func16, Try.ntmps16
  go_wp2
  go_loopw [5, 6] (fun v i wr => ∃ j : Nat, j ≤ n ∧ i = .int .i64 j ∧ Qu wr w.heap.size 3 v ((wo (xs.take j) x).map (Value.int .i64)) ∧ Touch [] w wr) (fun _ i _ => n + 1 - (intOf i).toNat)
  case atStart => exact ⟨0, by omega, rfl, HQ0.out, (Touch.refl _ _).alloc _⟩
  case round =>
    obtain ⟨j, hj, rfl, hq, ht⟩ := hrel
    have HQ := Lib.hid hq
    have HT := Lib.hid ht
    have hlen : (wo (xs.take j) x).length ≤ 100000 := by
      have h1 := List.length_filter_le (fun y => y != x) (xs.take j)
      have h2 : (xs.take j).length ≤ j := List.length_take_le _ _
      unfold wo; omega
    obtain ⟨va, vc, rfl⟩ := Qu.form hq
    clear hq ht
    by_cases hjn : j < n
    · have hlt : (j : Int) < (n : Int) := by omega
      have HZR := HR.out
      rcases HZR with h | ⟨g, off, rfl, hg, hrow⟩
      · exfalso; have := HN.out; rw [h] at this; simp at this; omega
      have hc := hrow.touch HT.out hg (by simp) j (by rw [HN.out]; exact hjn)
      have HS := Lib.hid (wo_snoc xs j x (by rw [HN.out]; exact hjn))
      obtain ⟨y, hy⟩ : ∃ y, xs.getD j 0 = y := ⟨_, rfl⟩
      rw [hy] at hc HS
      clear hy hrow
      by_cases hyx : y = x
      · have d1 : (y != x) = false := bneF hyx
        have HYX := Lib.hid hyx
        clear hyx
        go_wp2
        go_roundw
        case rel => exact ⟨j + 1, by omega, by go_num, by rw [HS.out, if_pos HYX.out, List.append_nil]; exact HQ.out, HT.out⟩
        case measure => simp [intOf]; omega
      · have d1 : (y != x) = true := bneT hyx
        have HYX := Lib.hid hyx
        clear hyx
        obtain ⟨v', w2, hr, hq2, hg2, hn2⟩ := Qu.appendI (HQ.out.alloc (.cells #[.int .i64 y] 3)) (by have := HT.out.size; simp; omega) (show Sl (wr.alloc (.cells #[.int .i64 y] 3)) (.slice (some ⟨wr.heap.size, 0, none⟩) 1 1) [y] from ⟨_, 1, rfl, .inr ⟨wr.heap.size, 0, rfl, by simp, row1 wr y _ _ rfl⟩⟩) (by simp; omega)
        have HQ2 : Hid (Qu w2 w.heap.size 3 v' ((wo (xs.take (j + 1)) x).map (Value.int .i64))) := Lib.hid (by rw [HS.out, if_neg HYX.out]; exact hq2)
        have HT2 : Hid (Touch [] w w2) := Lib.hid ((HT.out.alloc _).grown hg2 (fun k hk hlt => by have := (HQ.out.own k hk).1; omega))
        clear hq2 hg2 hn2
        go_wp2_with (at_builtin; refine Lib.wpList_append_run _ rfl _ _ _ _ rfl _ _ rfl rfl _ _ (hr _) ?_)
        go_roundw
        case rel => exact ⟨j + 1, by omega, by go_num, HQ2.out, HT2.out⟩
        case measure => simp [intOf]; omega
    · have hlt : ¬ (j : Int) < (n : Int) := by omega
      obtain rfl : j = n := by omega
      have HQ3 : Hid (Qu wr w.heap.size 3 (.slice va (wo (xs.take j) x).length vc) ((wo xs x).map (Value.int .i64))) := Lib.hid (by rw [show wo xs x = wo (xs.take j) x from by rw [List.take_of_length_le (by rw [HN.out]; exact Nat.le_refl _)]]; exact HQ.out)
      go_wp2
      go_ret
      exact ⟨_, rfl, HQ3.out, HT.out⟩

/-- A list of the law's own, apart from the blocks F. -/
structure Lf (w0 w : World) (F : List Nat) (v : Value) (xs : List Int) : Prop where
  q : Qu w w0.heap.size 3 v (xs.map (Value.int .i64))
  na : ∀ k, v.ownBlock = some k → k ∉ F
  a : Apt w0 F [] w
theorem Lf.fr {w0 w w' : World} {F F' : List Nat} {v : Value} {xs : List Int} (h : Lf w0 w F v xs) (hf : Fr F w F' w') : Lf w0 w' F' v xs :=
  ⟨h.q.touch hf.t h.na, fun k hk hm => by
    rcases hf.g k hm with e | e
    · exact h.na k hk e
    · have := (h.q.own k hk).2; omega, h.a.one hf⟩
theorem Lf.touch {w0 w w' : World} {F : List Nat} {v : Value} {xs : List Int} (h : Lf w0 w F v xs) (ht : Touch [] w w') : Lf w0 w' F v xs := h.fr (Fr.same ht h.a.fl)
theorem Lf.new {w0 w w' : World} {F : List Nat} {v : Value} {xs : List Int} (h : Apt w0 F [] w) (ht : Touch [] w w') (hq : Qu w' w.heap.size 3 v (xs.map (Value.int .i64))) : Lf w0 w' F v xs :=
  ⟨hq.mono h.t.size, fun k hk hm => by have := (hq.own k hk).1; have := h.fl k hm; omega, h.touch ht⟩
theorem Lf.t {w0 w : World} {F : List Nat} {v : Value} {xs : List Int} (h : Lf w0 w F v xs) : Touch [] w0 w := h.a.t
/-- One more at its end. -/
theorem Lf.push {w0 w : World} {F : List Nat} {b : Nat} {most : Int} {n : Nat} {ps : Nat → Nat → Int} {live : List Int} {v : Value} {xs : List Int} (h : Lf w0 w F v xs) (hp : Pt w b F most n ps live) (x : Int) (hl : xs.length ≤ 100000) :
    ∃ v' w', (∀ ty, (Builtin.append_ #[42, 42] ty #[v, .slice (some ⟨w.heap.size, 0, none⟩) 1 1]).run Try.prog (w.alloc (.cells #[.int .i64 x] 3)) = .ok v' w') ∧ Lf w0 w' F v' (xs ++ [x]) ∧ Pt w' b F most n ps live := by
  have hs := h.t.size
  obtain ⟨v', w', hr, hq, hg, hn⟩ := Qu.appendI (h.q.alloc (.cells #[.int .i64 x] 3)) (by simp; omega) (show Sl (w.alloc (.cells #[.int .i64 x] 3)) (.slice (some ⟨w.heap.size, 0, none⟩) 1 1) [x] from ⟨_, 1, rfl, .inr ⟨w.heap.size, 0, rfl, by simp, row1 _ _ _ _ rfl⟩⟩) (by simp; omega)
  have ht0 : Touch [] w0 w' := (h.t.alloc _).grown hg (fun k hk hlt => by have := (h.q.own k hk).1; omega)
  obtain ⟨S, hS, hS2⟩ : ∃ S : List Nat, Touch S w w' ∧ ∀ k, k ∈ S → v.ownBlock = some k := by
    cases hv : v.ownBlock with
    | none => exact ⟨[], ((Touch.refl [] w).alloc _).grown hg (fun k hk _ => by rw [hv] at hk; cases hk), fun k hk => by cases hk⟩
    | some g => exact ⟨[g], ((Touch.refl [g] w).alloc _).grown hg (fun k hk _ => by rw [hv] at hk; cases hk; simp), fun k hk => by simp at hk; rw [hk]⟩
  have hp' : Pt w' b F most n ps live := by
    obtain ⟨va, vl, hv, rfl⟩ := hp
    exact ⟨va, vl, hv.touch hS (fun k hk hf => h.na k (hS2 k hf) hk), rfl⟩
  refine ⟨v', w', hr, ⟨hq, fun k hk hf => ?_, ⟨(by intro _ _ h; cases h), h.a.f0, (by intro _ h; cases h), fun k hk => Nat.lt_of_lt_of_le (h.a.fl k hk) hS.size, (by intro _ h; cases h), ht0⟩⟩, hp'⟩
  rcases hn k hk with e | e
  · exact h.na k e hf
  · have := h.a.fl k hf; simp at e; omega

theorem upF_congr {n : Nat} {f g : Nat → Bool} (h : ∀ i, i < n → f i = g i) : upF n f = upF n g := by
  have := filter_upF n f (fun _ => true) g (fun i hi => by rw [h i hi]; simp)
  exact (List.filter_eq_self.2 (fun _ _ => rfl)).symm.trans this
theorem kidsN_1 (ps : Nat → Nat → Int) (n : Nat) : kidsN ps n 1 = ((upF n (kdF ps 1)).length : Nat) := by unfold kidsN; rw [if_neg (by omega)]
/-- While they are forked. -/
structure Wu (n : Nat) (ps : Nat → Nat → Int) (live left : List Int) : Prop where
  ok : Ok n ps live
  n1 : 1 ≤ n
  par0 : ps 0 1 = 0
  par : ∀ i, 1 ≤ i → i < n → ps i 1 = 1
  lf : left = upF n (kdF ps 1)
  st : ps 0 0 = 1
  len : live.length = n
  lef : left.length + 1 = n
theorem Wu.zero : Wu 1 (addP (fun _ _ => 0) 0 (newF 0)) [1] [] :=
  ⟨(Ok.empty _).spawn 0, by omega, rfl, fun i h1 h2 => by omega, by decide, rfl, rfl, rfl⟩
theorem Wu.spawn {n : Nat} {ps : Nat → Nat → Int} {live left : List Int} (h : Wu n ps live left) : Wu (n + 1) (addP ps n (newF 1)) (live ++ [(n : Int) + 1]) (left ++ [(n : Int) + 1]) := by
  have hn := h.n1
  refine ⟨h.ok.spawn 1, by omega, by rw [addP_old _ _ _ (by omega)]; exact h.par0, fun i h1 h2 => ?_, ?_, by rw [addP_old _ _ _ (by omega)]; exact h.st, by simp [h.len], by have := h.lef; simp; omega⟩
  · by_cases e : i = n
    · subst e; rw [addP_new]; rfl
    · rw [addP_old _ _ _ e]; exact h.par i h1 (by omega)
  · rw [upF_succ, h.lf]
    congr 1
    · refine upF_congr (fun i hi => ?_)
      unfold kdF lvF
      rw [addP_old _ _ _ (by omega), addP_old _ _ _ (by omega)]
    · have e : kdF (addP ps n (newF 1)) 1 n = true := by
        unfold kdF lvF
        rw [addP_new, addP_new]; decide
      rw [if_pos e]
theorem Wu.isL {n : Nat} {ps : Nat → Nat → Int} {live left : List Int} (h : Wu n ps live left) : isL ps n 1 = true := by
  unfold Go.Proofs.Ytjcbcbhiophkfaa.isL
  rw [f1 h.n1, h.st]; rfl
/-- While they end. -/
structure Wt (n : Nat) (ps : Nat → Nat → Int) (live left : List Int) : Prop where
  ok : Ok n ps live
  n1 : 1 ≤ n
  par0 : ps 0 1 = 0
  par : ∀ i, 1 ≤ i → i < n → ps i 1 = 1
  lf : left = upF n (kdF ps 1)
  st : ps 0 0 = if left = [] then 1 else 2
  wy : left ≠ [] → ps 0 2 = 5
theorem block_kd {ps : Nat → Nat → Int} (h : ps 0 1 = 0) (kd ix : Int) (a : Nat) : kdF (blockP ps 0 kd ix) 1 a = kdF ps 1 a := by
  unfold kdF
  rw [block_par]
  by_cases e : a = 0
  · subst e; rw [h]; simp
  · unfold lvF blockP
    rw [setP_ne _ _ (by omega), setP_ne _ _ (by omega), setP_ne _ _ (by omega)]
theorem wake_kd {ps : Nat → Nat → Int} (h : ps 0 1 = 0) (a : Nat) : kdF (wakeP ps 0) 1 a = kdF ps 1 a := by
  unfold kdF
  rw [wake_par]
  by_cases e : a = 0
  · subst e; rw [h]; simp
  · unfold lvF wakeP
    rw [setP_ne _ _ (by omega), setP_ne _ _ (by omega), setP_ne _ _ (by omega)]
theorem Wu.join {n : Nat} {ps : Nat → Nat → Int} {live left : List Int} (h : Wu n ps live left) (h2 : 2 ≤ n) : joinR ps n 1 = false ∧ ∀ live', Ok n (joinP ps n 1) live' → Wt n (joinP ps n 1) live' left := by
  have hk : kidsN ps n 1 ≠ 0 := by rw [kidsN_1, ← h.lf]; have := h.lef; omega
  have hb : canB ps n 1 5 = true := dT ⟨by rw [f1 h.n1]; exact h.st, by omega, by omega⟩
  have hj : joinP ps n 1 = blockP ps 0 5 0 := by unfold joinP; rw [if_neg hk, if_pos hb]; rfl
  have hne : left ≠ [] := by intro e; have := h.lef; rw [e] at this; simp at this; omega
  refine ⟨dF hk, fun live' hok => ?_⟩
  rw [hj] at hok ⊢
  refine ⟨hok, h.n1, by rw [block_par]; exact h.par0, fun i h1 h2 => by rw [block_par]; exact h.par i h1 h2, ?_, by rw [if_neg hne]; rfl, fun _ => rfl⟩
  rw [h.lf]
  exact upF_congr fun i hi => (block_kd h.par0 5 0 i).symm
theorem end_row {ps : Nat → Nat → Int} {i a : Nat} (c : Int) (j : Nat) (h : a ≠ i) : endP ps i c a j = ps a j := by
  unfold endP
  split <;> simp only [setP_ne _ _ (show ¬ (a = i ∧ _) from fun e => h e.1)]
theorem Wt.end {n : Nat} {ps : Nat → Nat → Int} {live left : List Int} (h : Wt n ps live left) {pid : Int} (hp : pid ∈ left) (c : Int) :
    isL ps n pid = true ∧ ejR ps n pid c = (if wo left pid = [] then 1 else 0) ∧ ∀ live', Ok n (ejP ps n pid c) live' → Wt n (ejP ps n pid c) live' (wo left pid) := by
  have hne : left ≠ [] := by intro e; rw [e] at hp; cases hp
  have hm := hp
  rw [h.lf, upF_mem] at hm
  obtain ⟨i, hi, hk, rfl⟩ := hm
  unfold kdF at hk
  rw [Bool.and_eq_true] at hk
  have hi0 : i ≠ 0 := by
    intro e; subst e
    have := of_decide_eq_true hk.2
    rw [h.par0] at this; omega
  have hl : isL ps n ((i : Int) + 1) = true := by rw [lvF_eq hi]; exact hk.1
  have ha : at1 ((i : Int) + 1) = i := by unfold at1; omega
  have hpar : fieldOf ps n ((i : Int) + 1) 1 = 1 := by rw [fieldOf_in _ hi]; exact of_decide_eq_true hk.2
  obtain ⟨qs, hqs⟩ : ∃ q, endP ps i c = q := ⟨_, rfl⟩
  have q00 : qs 0 0 = 2 := by rw [← hqs, end_row _ _ (by omega), h.st, if_neg hne]
  have q02 : qs 0 2 = 5 := by rw [← hqs, end_row _ _ (by omega), h.wy hne]
  have q01 : qs 0 1 = 0 := by rw [← hqs, end_par, h.par0]
  have hkd : upF n (kdF qs 1) = wo left ((i : Int) + 1) := by
    rw [h.lf]
    unfold wo
    refine (filter_upF n _ _ _ (fun a hna => ?_)).symm
    unfold kdF
    rw [← hqs, end_par]
    by_cases e : a = i
    · subst e
      have : lvF (endP ps a c) a = false := by rw [← lvF_eq hna, isL_end _ _ _ _ _ hna]; simp
      rw [this]; simp
    · have : lvF (endP ps i c) a = lvF ps a := by unfold lvF; rw [end_row _ _ e]
      rw [this]
      have : ((a : Int) + 1 != (i : Int) + 1) = true := bneT (by omega)
      rw [this]; simp
  have hwk : wkB qs n 1 = decide (wo left ((i : Int) + 1) = []) := by
    unfold wkB
    rw [f1 h.n1, f1 h.n1, q00, q02, kidsN_1, hkd]
    by_cases e : wo left ((i : Int) + 1) = []
    · rw [dT e, e]; rfl
    · rw [dF e]
      exact dF (fun hh => e (List.eq_nil_of_length_eq_zero (by omega)))
  refine ⟨hl, ?_, fun live' hok => ?_⟩
  · unfold ejR
    rw [if_pos hl, ha, hqs, hpar, hwk]
    by_cases e : wo left ((i : Int) + 1) = []
    · rw [dT e, if_pos e]; rfl
    · rw [dF e, if_neg e]; rfl
  · have he : ejP ps n ((i : Int) + 1) c = if wo left ((i : Int) + 1) = [] then wakeP qs 0 else qs := by
      unfold ejP
      rw [if_pos hl, ha, hqs, hpar, hwk]
      by_cases e : wo left ((i : Int) + 1) = []
      · rw [dT e, if_pos e]; rfl
      · rw [dF e, if_neg e]; rfl
    rw [he] at hok ⊢
    by_cases e : wo left ((i : Int) + 1) = []
    · rw [if_pos e] at hok ⊢
      refine ⟨hok, h.n1, by rw [wake_par]; exact q01, fun a h1 h2 => by rw [wake_par, ← hqs, end_par]; exact h.par a h1 h2, ?_, by rw [if_pos e]; rfl, fun hx => absurd e hx⟩
      rw [← hkd]
      exact upF_congr fun a _ => (wake_kd q01 a).symm
    · rw [if_neg e] at hok ⊢
      exact ⟨hok, h.n1, q01, fun a h1 h2 => by rw [← hqs, end_par]; exact h.par a h1 h2, hkd.symm, by rw [if_neg e]; exact q00, fun _ => q02⟩
theorem wo_less {xs : List Int} {x : Int} (h : x ∈ xs) : (wo xs x).length < xs.length := by
  unfold wo
  exact List.length_filter_lt_length_iff_exists.2 ⟨x, h, by simp⟩
theorem Wt.last {n : Nat} {ps : Nat → Nat → Int} {live : List Int} (h : Wt n ps live []) : joinR ps n 1 = true ∧ joinP ps n 1 = ps := by
  have hk : kidsN ps n 1 = 0 := by rw [kidsN_1, ← h.lf]; rfl
  exact ⟨dT hk, by unfold joinP; rw [if_pos hk]⟩
end Go.Proofs.Ytjcbcbhiophkfaa
