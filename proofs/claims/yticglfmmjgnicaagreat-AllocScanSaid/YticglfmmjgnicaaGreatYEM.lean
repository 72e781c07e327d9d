/-
  The reference's allocator: whether it is safe, who is left, a new one.
  Both allocators side by side: the program's and the reference's.
  One call on both.
  The law's own small run of the program's allocator.
  Both allocators in a law: the state, a list of calls as an argument; AllocPlays.
  An allocator made of numbers, on both sides; a number makes a call.
  What stays, whatever is called: the totals, the mode; what is to be had and what is held, one by one.
  Safe, by processes: an order in which each one finds what it may still ask for; what keeps it; a safe state leaves nobody by reduction.
  Safe stays so, whatever is called; nobody is left by reduction; what is pending could not be granted.
-/
import Derived.Test.YticglfmmjgnicaaGreatYEL
set_option linter.unusedVariables false
set_option linter.unusedSimpArgs false
namespace Go.Proofs.YticglfmmjgnicaaGreat
open Go Go.RowKit

def RNewP (w : World) (tot : List Int) (clm : Bool) (e : Ending) (w' : World) : Prop :=
  Touch [] w w' ∧ ((newB tot = false ∧ e = .returned (.tuple #[.pointer none, .int .i64 1])) ∨ (newB tot = true ∧ ∃ b F r, e = .returned (.tuple #[.pointer (some ⟨b, 0, none⟩), .int .i64 0]) ∧ Ra w' F b (Am.new tot clm).rc r ∧ ∀ k, k ∈ F → w.heap.size ≤ k))
theorem rnew_mem {w w1 w2 : World} {tot : List Int} {clm : Bool} {v1 v2 : Value} (t1 : Touch [] w w1) (h1 : Qu w1 w.heap.size 3 v1 (tot.map (Value.int .i64))) (t2 : Touch [] w1 w2) (h2 : Qu w2 w1.heap.size 3 v2 (tot.map (Value.int .i64))) :
    Ra (w2.alloc (.cells #[v1, v2, .bool clm, .slice none 0 0, .slice none 0 0, .slice none 0 0, .slice none 0 0] 48)) ([w2.heap.size] ++ (v1.ownBlock.toList ++ v2.ownBlock.toList)) w2.heap.size (Am.new tot clm).rc ⟨v1, v2, .slice none 0 0, .slice none 0 0, .slice none 0 0, .slice none 0 0, fun _ => .slice none 0 0⟩ ∧ ∀ k, k ∈ [w2.heap.size] ++ (v1.ownBlock.toList ++ v2.ownBlock.toList) → w.heap.size ≤ k := by
  have s1 := t1.size
  have s2 := t2.size
  have ta : Touch [] w2 (w2.alloc (.cells #[v1, v2, .bool clm, .slice none 0 0, .slice none 0 0, .slice none 0 0, .slice none 0 0] 48)) := (Touch.refl _ _).alloc _
  have o1 := h1.own
  have o2 := h2.own
  have hav : (Am.new tot clm).rc.avl = tot := avlL_nil tot _
  refine ⟨⟨Blk.new rfl, fun k hk => ?_, by simp, ⟨(h1.sl.touch t2 (fun _ _ => by simp)).touch ta (fun _ _ => by simp), fun k hk => ⟨by simp [hk], fun hm => ?_⟩⟩, ⟨by rw [hav]; exact h2.sl.touch ta (fun _ _ => by simp), fun k hk => ⟨by simp [hk], fun hm => ?_⟩⟩,
    ⟨⟨0, Qu.nil _ _ _⟩, fun k hk => by simp [Value.ownBlock] at hk⟩, ⟨[], rfl, fun k hk => by simp [Value.ownBlock] at hk, ⟨0, Qu.nil _ _ _⟩, fun i hi => by cases hi⟩, ⟨[], rfl, fun k hk => by simp [Value.ownBlock] at hk, ⟨0, Qu.nil _ _ _⟩, fun i hi => by cases hi⟩, ⟨⟨0, Av.nil _ _ _ _ _⟩, fun k hk => by simp [Value.ownBlock] at hk, fun i hi => by cases hi⟩⟩, fun k hk => ?_⟩
  · have s3 : (w2.alloc (.cells #[v1, v2, .bool clm, .slice none 0 0, .slice none 0 0, .slice none 0 0, .slice none 0 0] 48)).heap.size = w2.heap.size + 1 := by simp
    simp at hk
    rcases hk with e | e | e
    · omega
    · have := (o1 k e).2; omega
    · have := (o2 k e).2; omega
  · simp at hm
    have := (o1 k hk).2; omega
  · simp at hm
    have := (o2 k hk).2; omega
  · simp at hk
    rcases hk with e | e | e
    · omega
    · exact (o1 k e).1
    · have := (o2 k e).1; omega
set_option maxRecDepth 100000 in
set_option maxHeartbeats 8000000 in
theorem rnew_any (w : World) (v : Value) (tot : List Int) (clm : Bool) (h : Sl w v tot) (hl : tot.length ≤ 1000) : Calls Tryz.prog 12 #[v, .bool clm] w (RNewP w tot clm) := by
  obtain ⟨a, c, rfl⟩ := h.form
  obtain ⟨N, hN⟩ : ∃ N, tot.length = N := ⟨_, rfl⟩
  have HN := Lib.hid hN
  have hnb : newB tot = (decide (N ≤ 6) && isB tot (N : Int) && !decide ((0 : Int) ∈ tot)) := by rw [← hN]; rfl
  have HNB := Lib.hid hnb
  have HS := Lib.hid h
  rw [hN] at HS hl ⊢
  clear h hN hnb
  by_cases h6 : N ≤ 6
  · have hgt : ¬ (6 : Int) < (N : Int) := by omega
    obtain ⟨B, hB⟩ : ∃ B, isB tot (N : Int) = B := ⟨_, rfl⟩
    have HB := Lib.hid hB
    have H1 := Lib.hid (ris_q _ tot (N : Int) B w HS.out (by have := HN.out; omega) hB)
    obtain ⟨Z, hZ⟩ : ∃ Z, decide ((0 : Int) ∈ tot) = Z := ⟨_, rfl⟩
    have HZ := Lib.hid hZ
    have h2 := has_l (.slice a N c) tot 0 w HS.out (by have := HN.out; omega)
    rw [hZ] at h2
    have H2 := Lib.hid h2
    clear h2
    have H3 := Lib.hid (copy_any (.slice a N c) tot w HS.out (by rw [HN.out]; omega))
    have H4 : Hid (∀ w', Touch [] w w' → Calls Tryz.prog 43 #[.slice a N c] w' (Own tot w')) := Lib.hid (fun w' ht => copy_any (.slice a N c) tot w' (HS.out.touch ht (fun _ _ => by simp)) (by rw [HN.out]; omega))
    have HLE : Hid (decide (N ≤ 6) = true) := Lib.hid (dT h6)
    clear hB hZ
    go_enter Tryz.func12, Tryz.ntmps12
    go_wp2_with fail
    refine H1.out.mono ?_
    rintro e w1 ⟨rfl, rfl⟩
    cases B with
    | false =>
      have HF : Hid (RNewP w tot clm (.returned (.tuple #[.pointer none, .int .i64 1])) w) := Lib.hid ⟨Touch.refl _ _, .inl ⟨by rw [HNB.out, HB.out]; simp, rfl⟩⟩
      go_wp2_with fail
      go_ret2
      exact HF.out
    | true =>
      go_wp2_with fail
      refine H2.out.mono ?_
      rintro e w1 ⟨rfl, rfl⟩
      cases Z with
      | true =>
        have HF : Hid (RNewP w tot clm (.returned (.tuple #[.pointer none, .int .i64 1])) w) := Lib.hid ⟨Touch.refl _ _, .inl ⟨by rw [HNB.out, HZ.out]; simp, rfl⟩⟩
        go_wp2_with fail
        go_ret2
        exact HF.out
      | false =>
        have HT : Hid (newB tot = true) := Lib.hid (by rw [HNB.out, HZ.out, HB.out, HLE.out]; rfl)
        go_wp2_with fail
        refine H3.out.mono ?_
        rintro e w1 ⟨v1, rfl, hq1, t1⟩
        have HQ1 := Lib.hid (And.intro hq1 t1)
        obtain ⟨a1, n1, c1, rfl⟩ : ∃ a n c, v1 = Value.slice a n c := (by obtain ⟨a, c, e, _⟩ := hq1.shape; exact ⟨a, _, c, e⟩)
        clear hq1 t1
        go_wp2_with fail
        refine (H4.out w1 HQ1.out.2).mono ?_
        rintro e w2 ⟨v2, rfl, hq2, t2⟩
        obtain ⟨a2, n2, c2, rfl⟩ : ∃ a n c, v2 = Value.slice a n c := (by obtain ⟨a, c, e, _⟩ := hq2.shape; exact ⟨a, _, c, e⟩)
        have HM := Lib.hid (rnew_mem (clm := clm) HQ1.out.2 HQ1.out.1 t2 hq2)
        have HF : Hid (RNewP w tot clm (.returned (.tuple #[.pointer (some ⟨w2.heap.size, 0, none⟩), .int .i64 0])) (w2.alloc (.cells #[.slice a1 n1 c1, .slice a2 n2 c2, .bool clm, .slice none 0 0, .slice none 0 0, .slice none 0 0, .slice none 0 0] 48))) := Lib.hid ⟨(HQ1.out.2.trans t2).alloc _, .inr ⟨HT.out, _, _, _, rfl, HM.out.1, HM.out.2⟩⟩
        clear hq2 t2 HM
        go_wp2_with fail
        go_ret2
        exact HF.out
  · have hgt : (6 : Int) < (N : Int) := by omega
    have HF : Hid (RNewP w tot clm (.returned (.tuple #[.pointer none, .int .i64 1])) w) := Lib.hid ⟨Touch.refl _ _, .inl ⟨by rw [HNB.out, dF h6]; simp, rfl⟩⟩
    go_enter Tryz.func12, Tryz.ntmps12
    go_wp2_with fail
    go_ret2
    exact HF.out
end Go.Proofs.YticglfmmjgnicaaGreat

set_option linter.unusedVariables false
namespace Go.Proofs.YticglfmmjgnicaaGreat
open Go Go.RowKit

/-- A process comes in: the reference, by the model. -/
theorem radmit_m (w : World) (F : List Nat) (b : Nat) (m : Am) (r : RaV) (q : Int) (v : Value) (u : List Int) (h : Ra w F b m.rc r) (ok : m.Ok) (hqi : InI q) (hu : Sl w v u) (hul : u.length ≤ 1000) (hv : u ≠ [] → ∀ k, v.ownBlock = some k → k ∉ F) :
    Calls Tryz.prog 44 #[.pointer (some ⟨b, 0, none⟩), .int .i64 q, v] w fun e w' => e = .returned (.int .i64 (m.cAdmit q u).2) ∧ Up w F b (m.cAdmit q u).1.rc w' := by
  refine (radmit_any w F b m.rc r q v u h hqi hu hul hv ok.nt ok.few (by simp [Am.rc, Am.hs]) (by simp [Am.rc, Am.cs])).mono ?_
  intro e w' hp
  unfold AdmP at hp
  have e0 : m.rc.tot = m.tot := rfl
  have e1 : m.rc.ps = m.ps := rfl
  have e2 : m.rc.clm = m.clm := rfl
  have e3 : m.rc.hs = m.ps.map m.held := rfl
  have e4 : m.rc.cs = m.ps.map m.claim := rfl
  rw [e0, e1, e2, e3, e4] at hp
  unfold Am.cAdmit
  by_cases c1 : q < 1 ∨ isB u m.tot.length = false
  · rw [if_pos c1] at hp ⊢; exact hp
  · rw [if_neg c1] at hp ⊢
    by_cases c2 : q ∈ m.ps
    · rw [if_pos c2] at hp ⊢; exact hp
    · rw [if_neg c2] at hp ⊢
      by_cases c3 : 32 ≤ m.ps.length
      · rw [if_pos c3] at hp ⊢; exact hp
      · rw [if_neg c3] at hp ⊢
        by_cases c4 : m.clm = true ∧ fitsB u m.tot = false
        · rw [if_pos c4] at hp ⊢; exact hp
        · rw [if_neg c4] at hp ⊢
          obtain ⟨k, hk, hlo, hhi, he, hup⟩ := hp
          refine ⟨he, ?_⟩
          have hs := insP_split hk hlo hhi
          have hrc : (m.enrol q u).rc = ⟨m.tot, m.avl, m.clm, m.ps.take k ++ [q] ++ m.ps.drop k, (m.ps.map m.held).take k ++ [List.replicate m.tot.length 0] ++ (m.ps.map m.held).drop k, (m.ps.map m.claim).take k ++ [u] ++ (m.ps.map m.claim).drop k, m.pend⟩ := by
            show Rec.mk m.tot (m.enrol q u).avl m.clm (insP q m.ps) ((insP q m.ps).map (updF m.held q (List.replicate m.tot.length 0))) ((insP q m.ps).map (updF m.claim q u)) m.pend = _
            rw [Am.admit_avl u c2, hs, map_ins m.held (updF m.held q (List.replicate m.tot.length 0)) c2 (fun p hp => updF_ne _ _ hp), map_ins m.claim (updF m.claim q u) c2 (fun p hp => updF_ne _ _ hp), updF_at, updF_at]
          show Up w F b (m.enrol q u).rc w'
          rw [hrc]
          exact hup
/-- Both. -/
structure TwR (w : World) (FA FB : List Nat) (a b : Nat) (mA mB : Am) (r : RaV) : Prop where
  A : PaS w FA a mA
  B : Ra w FB b mB.rc r
  d : ∀ k, k ∈ FA → k ∉ FB
section
variable {w w' : World} {FA FB FA' FB' : List Nat} {a b : Nat} {mA mB mA' mB' : Am} {r r' : RaV}
theorem TwR.stepA (h : TwR w FA FB a b mA mB r) (hf : Fr FA w FA' w') (hp : PaS w' FA' a mA') : TwR w' FA' FB a b mA' mB r :=
  ⟨hp, h.B.touch hf.t (fun k hk => h.d k hk), fun k hk hm => by
    rcases hf.g k hk with e | e
    · exact h.d k e hm
    · have := h.B.lt k hm; omega⟩
theorem TwR.stepB (h : TwR w FA FB a b mA mB r) (hf : Fr FB w FB' w') (hp : Ra w' FB' b mB'.rc r') : TwR w' FA FB' a b mA mB' r' :=
  ⟨h.A.touch hf.t (fun k hk hm => h.d k hm hk), hp, fun k hk hm => by
    rcases hf.g k hm with e | e
    · exact h.d k hk e
    · have := h.A.lt k hk; omega⟩
theorem TwR.same (h : TwR w FA FB a b mA mB r) (ht : Touch [] w w') : TwR w' FA FB a b mA mB r := ⟨h.A.same ht, h.B.same ht, h.d⟩
end
/-- The program has been read: a list of its own is answered. -/
def OwT (w : World) (FA FB : List Nat) (a b : Nat) (mA mB : Am) (r : RaV) (xs : List Int) (e : Ending) (w' : World) : Prop :=
  ∃ v FA', e = .returned v ∧ TwR w' FA' FB a b mA mB r ∧ Fr FA w FA' w' ∧ Qu w' w.heap.size 3 v (xs.map (Value.int .i64)) ∧ ∀ k, v.ownBlock = some k → k ∉ FA'
section
variable {w w' : World} {FA FB : List Nat} {a b : Nat} {mA mB : Am} {r : RaV}
theorem RdOwn.owT {p : PaP} {xs : List Int} {e : Ending} (h : TwR w FA FB a b mA mB r) (hpd : p.pd = mA.pend) (hr : RdOwn w FA a mA p xs e w') : OwT w FA FB a b mA mB r xs e w' := by
  obtain ⟨v, F', he, hrd, hq, ho⟩ := hr
  obtain ⟨h1, h2⟩ := hrd.paS h.A.1 hpd
  exact ⟨v, F', he, h.stepA h1 h2, h1, hq, ho⟩
theorem avail_w (h : TwR w FA FB a b mA mB r) : Calls Tryz.prog 17 #[.pointer (some ⟨a, 0, none⟩)] w (OwT w FA FB a b mA mB r mA.avl) := by
  obtain ⟨ok, p, hp, e⟩ := h.A
  exact (avail_any w FA a mA p hp ok).mono fun _ _ hr => hr.owT h e
theorem pids_w (h : TwR w FA FB a b mA mB r) : Calls Tryz.prog 18 #[.pointer (some ⟨a, 0, none⟩)] w (OwT w FA FB a b mA mB r mA.ps) := by
  obtain ⟨ok, p, hp, e⟩ := h.A
  exact (pids_any w FA a mA p hp ok).mono fun _ _ hr => hr.owT h e
theorem pend_w (h : TwR w FA FB a b mA mB r) : Calls Tryz.prog 26 #[.pointer (some ⟨a, 0, none⟩)] w (PendP mA.pend w) := by
  obtain ⟨ok, p, hp, e⟩ := h.A
  have := pending_any w FA a mA p hp.toPb (by rw [e]; have := pend_few ok; omega) (fun i hi => by
    rw [e] at hi ⊢
    have := (ok.pi (mA.pend.getD i (0, [])) (by rw [show mA.pend.getD i (0, []) = mA.pend[i] from by simp [hi]]; exact List.getElem_mem _)).2
    have h2 := (isB_iff.1 this).1
    have := ok.nt
    omega)
  rw [e] at this
  exact this
theorem held_w (h : TwR w FA FB a b mA mB r) {q : Int} (hq : q ∈ mA.ps) : Calls Tryz.prog 19 #[.pointer (some ⟨a, 0, none⟩), .int .i64 q] w (Own (mA.held q) w) := by
  obtain ⟨ok, p, hp, e⟩ := h.A
  exact held_in w FA a mA p q hp.toPb ok.nt hq (ok.hl q hq) (by have := ok.pos q hq; unfold InI; omega)
theorem claim_w (h : TwR w FA FB a b mA mB r) {q : Int} (hq : q ∈ mA.ps) : Calls Tryz.prog 20 #[.pointer (some ⟨a, 0, none⟩), .int .i64 q] w (Own (mA.claim q) w) := by
  obtain ⟨ok, p, hp, e⟩ := h.A
  exact claim_in w FA a mA p q hp.toPb hq (by have := (isB_iff.1 (ok.cl q hq)).1; have := ok.nt; omega)
end
theorem ints_t (v v' : Value) (xs ys : List Int) (B : Bool) (w : World) (h : Sl w v xs) (h' : Sl w v' ys) (h1 : xs.length ≤ 1000000) (h2 : ys.length ≤ 1000000) (hB : EqI xs ys = B) :
    Calls Tryz.prog 21 #[v, v'] w fun e w' => e = .returned (.bool B) ∧ Touch [] w w' := by
  refine (ints_any v v' xs ys w h h' h1 h2).mono ?_
  rintro e w' ⟨he, n, hw⟩
  subst hw
  exact ⟨by rw [he, hB], (Touch.refl [] w).drewN n⟩
theorem ints_e (v v' : Value) (xs : List Int) (w : World) (h : Sl w v xs) (h' : Sl w v' xs) (h1 : xs.length ≤ 1000000) :
    Calls Tryz.prog 21 #[v, v'] w fun e w' => e = .returned (.bool true) ∧ Touch [] w w' := ints_t v v' xs xs true w h h' h1 h1 (eqI_refl xs)
end Go.Proofs.YticglfmmjgnicaaGreat

set_option linter.unusedVariables false
namespace Go.Proofs.YticglfmmjgnicaaGreat
open Go Go.RowKit

/-- The step on the model. -/
def Am.step (m : Am) (k q : Int) (u : List Int) : Am :=
  if k = 0 then (m.cAdmit q u).1 else if k = 1 then (m.cAsk q u).1 else if k = 2 then (m.cGive q u).1 else (m.cLeave q).1
def PlyP (w : World) (FA FB : List Nat) (a b : Nat) (m' : Am) (e : Ending) (w' : World) : Prop := e = .returned (.bool true) ∧ Touch (FA ++ FB) w w' ∧ ∃ FA' FB' r', TwR w' FA' FB' a b m' m' r' ∧ (∀ k, k ∈ FA' → k ∈ FA ∨ w.heap.size ≤ k) ∧ ∀ k, k ∈ FB' → k ∈ FB ∨ w.heap.size ≤ k
/-- First the one, then the other. -/
theorem PlyP.both {w w1 w2 w3 : World} {FA FB FA' FB' : List Nat} {a b : Nat} {m m' : Am} {r r' : RaV} (h : TwR w FA FB a b m m r) (hf1 : Fr FA w FA' w1) (hp : PaS w1 FA' a m') (hf2 : Fr FB w1 FB' w2) (hr : Ra w2 FB' b m'.rc r') (ht : Touch [] w2 w3) : PlyP w FA FB a b m' (.returned (.bool true)) w3 := by
  have h1 := h.stepA hf1 hp
  have h2 := h1.stepB hf2 hr
  have hs := hf1.t.size
  refine ⟨rfl, ?_, FA', FB', r', h2.same ht, hf1.g, fun k hk => ?_⟩
  · exact ((hf1.t.mono (fun k hk => List.mem_append.2 (.inl hk))).trans (hf2.t.mono (fun k hk => List.mem_append.2 (.inr hk)))).trans (ht.mono (by simp))
  · rcases hf2.g k hk with e | e
    · exact .inl e
    · exact .inr (by omega)
theorem PlyP.wider {w w0 w' : World} {FA FB : List Nat} {a b : Nat} {m' : Am} {e : Ending} (ht : Touch [] w0 w) (hA : ∀ k, k ∈ FA → k < w0.heap.size) (hB : ∀ k, k ∈ FB → k < w0.heap.size) (h : PlyP w FA FB a b m' e w') : PlyP w0 FA FB a b m' e w' := by
  obtain ⟨h1, h2, FA', FB', r', h3, h4, h5⟩ := h
  have hs := ht.size
  exact ⟨h1, (ht.mono (by simp)).trans h2, FA', FB', r', h3, fun k hk => (h4 k hk).imp id (fun e => by omega), fun k hk => (h5 k hk).imp id (fun e => by omega)⟩
theorem scanF_few : ∀ (l : List (Int × List Int)) (m : Am) (s : List (Int × List Int)) (g : List Int), (Am.scanF l m s g).2.2.length ≤ l.length + g.length := fun l m s g => by
  have h := Am.scanF_len l m s g
  have : ∀ (l : List (Int × List Int)) (m : Am) (s : List (Int × List Int)) (g : List Int), s.length ≤ (Am.scanF l m s g).2.1.length := fun l => by
    induction l with
    | nil => intro m s g; exact Nat.le_refl _
    | cons x l ih =>
      intro m s g
      unfold Am.scanF
      by_cases hg : m.grant x (decide (s.length = 0)) = true
      · rw [if_pos hg]; exact ih _ _ _
      · rw [if_neg hg]; have := ih m (s ++ [x]) g; simp at this; omega
  have := this l m s g
  omega
theorem scan_few {m : Am} (ok : m.Ok) : m.scan.2.length ≤ 32 := by
  have h := scanF_few m.pend m [] []
  have := pend_few ok
  have e : m.scan.2 = (Am.scanF m.pend m [] []).2.2 := rfl
  rw [e]
  simp at h
  omega
theorem ask_few {m : Am} (ok : m.Ok) (q : Int) (u : List Int) : (m.cAsk q u).2.1.length ≤ 1000 := by
  unfold Am.cAsk
  split; simp
  split; simp
  split; simp
  split; simp
  rename_i h1 h2 h3 h4
  have := scan_few (ok.wait (p := q) (u := u) (by simpa using h1) (by simpa using h2) h3 (fun hc => by
    cases hf : fitsB (addW (m.held q) u) (m.claim q) with
    | true => rfl
    | false => exact absurd ⟨hc, hf⟩ h4))
  simp only
  omega
theorem give_few {m : Am} (ok : m.Ok) (q : Int) (u : List Int) : (m.cGive q u).2.1.length ≤ 1000 := by
  unfold Am.cGive
  split; simp
  split; simp
  split; simp
  rename_i h1 h2 h3
  have := scan_few (ok.back (p := q) (u := u) (by simpa using h1) (by simpa using h2) (by simpa using h3))
  simp only
  omega
theorem leave_few {m : Am} (ok : m.Ok) (q : Int) : (m.cLeave q).2.1.length ≤ 1000 := by
  unfold Am.cLeave
  split; simp
  rename_i h1
  have := scan_few (ok.quit (p := q) (by simpa using h1))
  simp only
  omega
set_option maxRecDepth 100000 in
set_option maxHeartbeats 40000000 in
theorem plays_any (w : World) (FA FB : List Nat) (a b : Nat) (m : Am) (r : RaV) (kd q : Int) (ua : Option Addr) (un uc : Nat) (u : List Int) (h : TwR w FA FB a b m m r) (hqi : InI q) (hu : Sl w (.slice ua un uc) u) (hul : u.length ≤ 1000) (hv : u ≠ [] → ∀ k, (Value.slice ua un uc).ownBlock = some k → k ∉ FA ∧ k ∉ FB) :
    Calls Tryz.prog 13 #[.pointer (some ⟨a, 0, none⟩), .pointer (some ⟨b, 0, none⟩), .agg #[.int .i64 kd, .int .i64 q, .slice ua un uc]] w (PlyP w FA FB a b (m.step kd q u)) := by
  have tb : Touch [] w (w.alloc (.cells #[.int .i64 kd, .int .i64 q, .slice ua un uc] 35)) := (Touch.refl [] w).alloc _
  have bx : Blk (w.alloc (.cells #[.int .i64 kd, .int .i64 q, .slice ua un uc] 35)) w.heap.size #[.int .i64 kd, .int .i64 q, .slice ua un uc] 35 := Blk.new rfl
  have HBX := Lib.hid bx
  have HTB := Lib.hid tb
  have HTW := Lib.hid (h.same tb)
  have HU := Lib.hid (hu.touch tb (fun _ _ => by simp))
  have HV := Lib.hid hv
  have HLT : Hid ((∀ k, k ∈ FA → k < w.heap.size) ∧ ∀ k, k ∈ FB → k < w.heap.size) := Lib.hid ⟨h.A.lt, h.B.lt⟩
  obtain ⟨W, hW⟩ : ∃ W, w.alloc (.cells #[.int .i64 kd, .int .i64 q, .slice ua un uc] 35) = W := ⟨_, rfl⟩
  have HW := Lib.hid hW
  rw [hW] at HTB HTW HU HBX
  obtain ⟨bq, hbq⟩ : ∃ k, w.heap.size = k := ⟨_, rfl⟩
  have HBQ := Lib.hid hbq
  rw [hbq] at HBX
  have HOK := Lib.hid h.A.1
  -- what is done first leaves the step, the units and the other's
  have HA : Hid (∀ FA' w' m', Fr FA W FA' w' → PaS w' FA' a m' → TwR w' FA' FB a b m' m r ∧ Blk w' bq #[.int .i64 kd, .int .i64 q, .slice ua un uc] 35 ∧ Sl w' (.slice ua un uc) u) := Lib.hid (fun FA' w' m' hf hp => by
    refine ⟨HTW.out.stepA hf hp, HBX.out.touch hf.t (fun hm => by have := HLT.out.1 _ hm; have := HBQ.out; omega), HU.out.keep hf.t (fun hne k hk => (HV.out hne k hk).1)⟩)
  have b0 : W.cell? ⟨bq, 0, none⟩ = some (.int .i64 kd) := HBX.out.cell (i := 0) rfl
  have b1 : W.cell? ⟨bq, 1, none⟩ = some (.int .i64 q) := HBX.out.cell (i := 1) rfl
  have b2 : W.cell? ⟨bq, 2, none⟩ = some (.slice ua un uc) := HBX.out.cell (i := 2) rfl
  clear h hu tb bx hv
  by_cases k0 : kd = 0
  · have HS : Hid (m.step kd q u = (m.cAdmit q u).1) := Lib.hid (by unfold Am.step; rw [if_pos k0])
    subst k0
    go_enter Tryz.func13, Tryz.ntmps13
    go_upto_region 3 with fail
    have HTD := Lib.hid ((Touch.refl [] W).drew)
    have HC1 := Lib.hid (admit_any W.drew FA a m q (.slice ua un uc) u (HTW.out.same HTD.out).A hqi (HU.out.touch HTD.out (fun _ _ => by simp)))
    clear b0 b1 b2
    have HT := Lib.hid (HBX.out.touch HTD.out (by simp))
    have HX : Hid (∀ w', Blk w' bq #[.int .i64 0, .int .i64 q, .slice ua un uc] 35 → w'.cell? ⟨bq, 1, none⟩ = some (.int .i64 q) ∧ w'.cell? ⟨bq, 2, none⟩ = some (.slice ua un uc)) := Lib.hid (fun w' hb => ⟨hb.cell (i := 1) rfl, hb.cell (i := 2) rfl⟩)
    have HA : Hid (∀ FA' w' m', Fr FA W.drew FA' w' → PaS w' FA' a m' → TwR w' FA' FB a b m' m r ∧ Blk w' bq #[.int .i64 0, .int .i64 q, .slice ua un uc] 35 ∧ Sl w' (.slice ua un uc) u) := Lib.hid (fun FA' w' m' hf hp => HA.out FA' w' m' (Fr.trans (Fr.same HTD.out HTW.out.A.lt) hf) hp)
    have HTW := Lib.hid (HTW.out.same HTD.out)
    obtain ⟨X, hX⟩ : ∃ X, (m.cAdmit q u).2 = X := ⟨_, rfl⟩
    have HXX := Lib.hid hX
    clear hW hX
    refine wp_region_till (fun _ => True) (fun w' => Blk w' bq #[.int .i64 0, .int .i64 q, .slice ua un uc] 35) [] (by kernel_rfl) ?_
    obtain ⟨wk, hwk⟩ : ∃ w', World.drew W = w' := ⟨_, rfl⟩
    rw [hwk] at HTD HC1 HTW HA HT ⊢
    clear hwk
    obtain ⟨nk, hsz⟩ : ∃ n, wk.heap.size = n := ⟨_, rfl⟩
    refine wpTill.takeT (i := 0) (v := ?v1) (some 23) rfl rfl (by kernel_rfl) (fun _ _ _ h => h) (Or.inl ⟨by rfl, ?hy1⟩) ⟨trivial, HT.out⟩ ?rest1
    case hy1 => (intro w hSw; obtain ⟨q1, q2⟩ := HX.out w hSw; go_simp; try with_reducible rfl)
    simp only [Act.put, List.setIfInBounds_toArray, List.set_cons_zero, List.set_cons_succ]
    refine wpTill.takeT (i := 1) (v := ?v2) (some 24) rfl rfl (by kernel_rfl) (fun _ _ _ h => h) (Or.inl ⟨by rfl, ?hy2⟩) ⟨trivial, HT.out⟩ ?rest2
    case hy2 => (intro w hSw; obtain ⟨q1, q2⟩ := HX.out w hSw; go_simp; try with_reducible rfl)
    simp only [Act.put, List.setIfInBounds_toArray, List.set_cons_zero, List.set_cons_succ]
    refine wpTill.takeT (i := 2) (v := ?v3) (some 25) rfl rfl (by kernel_rfl) (fun _ _ _ h => h) (Or.inl ⟨by rfl, ?hy3⟩) ⟨trivial, HT.out⟩ ?rest3
    case hy3 => (intro w hSw; obtain ⟨q1, q2⟩ := HX.out w hSw; go_simp; try with_reducible rfl)
    simp only [Act.put, List.setIfInBounds_toArray, List.set_cons_zero, List.set_cons_succ]
    refine wpTill.takeT (i := 3) (v := ?v4) (some 26) rfl rfl (by kernel_rfl) (fun _ _ _ h => h) (Or.inl ⟨by rfl, ?hy4⟩) ⟨trivial, HT.out⟩ ?rest4
    case hy4 => (intro w hSw; obtain ⟨q1, q2⟩ := HX.out w hSw; go_simp; try with_reducible rfl)
    simp only [Act.put, List.setIfInBounds_toArray, List.set_cons_zero, List.set_cons_succ]
    refine wpTill.takeT (i := 4) (v := ?v5) (some 27) rfl rfl (by kernel_rfl) (fun _ _ _ h => h) (Or.inl ⟨by rfl, ?hy5⟩) ⟨trivial, HT.out⟩ ?rest5
    case hy5 => (intro w hSw; obtain ⟨q1, q2⟩ := HX.out w hSw; go_simp; try with_reducible rfl)
    simp only [Act.put, List.setIfInBounds_toArray, List.set_cons_zero, List.set_cons_succ]
    refine wpTill.takeT (i := 6) (v := ?v6) (some 29) rfl rfl (by kernel_rfl) (fun _ _ _ h => h) (Or.inl ⟨by rfl, ?hy6⟩) ⟨trivial, HT.out⟩ ?rest6
    case hy6 => (intro w hSw; obtain ⟨q1, q2⟩ := HX.out w hSw; go_simp; try with_reducible rfl)
    simp only [Act.put, List.setIfInBounds_toArray, List.set_cons_zero, List.set_cons_succ]
    refine wpTill.takeT (i := 7) (v := ?v7) (some 30) rfl rfl (by kernel_rfl) (fun _ _ _ h => h) (Or.inl ⟨by rfl, ?hy7⟩) ⟨trivial, HT.out⟩ ?rest7
    case hy7 => (intro w hSw; obtain ⟨q1, q2⟩ := HX.out w hSw; go_simp; try with_reducible rfl)
    simp only [Act.put, List.setIfInBounds_toArray, List.set_cons_zero, List.set_cons_succ]
    refine wpTill.takeT (i := 8) (v := ?v8) (some 31) rfl rfl (by kernel_rfl) (fun _ _ _ h => h) (Or.inl ⟨by rfl, ?hy8⟩) ⟨trivial, HT.out⟩ ?rest8
    case hy8 => (intro w hSw; obtain ⟨q1, q2⟩ := HX.out w hSw; go_simp; try with_reducible rfl)
    simp only [Act.put, List.setIfInBounds_toArray, List.set_cons_zero, List.set_cons_succ]
    refine wpTill.takeT (i := 9) (v := ?v9) (some 32) rfl rfl (by kernel_rfl) (fun _ _ _ h => h) (Or.inl ⟨by rfl, ?hy9⟩) ⟨trivial, HT.out⟩ ?rest9
    case hy9 => (intro w hSw; obtain ⟨q1, q2⟩ := HX.out w hSw; go_simp; try with_reducible rfl)
    simp only [Act.put, List.setIfInBounds_toArray, List.set_cons_zero, List.set_cons_succ]
    refine wpTill.takeT (i := 10) (v := ?v10) (some 33) rfl rfl (by kernel_rfl) (fun _ _ _ h => h) (Or.inl ⟨by rfl, ?hy10⟩) ⟨trivial, HT.out⟩ ?rest10
    case hy10 => (intro w hSw; obtain ⟨q1, q2⟩ := HX.out w hSw; go_simp; try with_reducible rfl)
    simp only [Act.put, List.setIfInBounds_toArray, List.set_cons_zero, List.set_cons_succ]
    refine wpTill.ready (rs := [5]) (by kernel_rfl) (by simp) ?_
    refine AllTill.cons (i := 5) (rs := []) (by rfl) (fun K hK => ?_) ?_
    · go_simp
      go_at_call 34
      refine (HC1.out).mono ?_
      rintro e wk ⟨rfl, FA1, hf, hp⟩
      clear hsz
      have HA2 := Lib.hid (HA.out FA1 wk _ hf hp)
      have HP2 := Lib.hid (And.intro hf hp)
      have HT := Lib.hid HA2.out.2.1
      clear hf hp
      obtain ⟨nk, hsz⟩ : ∃ n, wk.heap.size = n := ⟨_, rfl⟩
      simp only [Act.put, List.setIfInBounds_toArray, List.set_cons_zero, List.set_cons_succ]
      refine hK.out _ _ trivial (fun _ => HT.out) ?_
      clear hK K
      refine wpTill.ready (rs := [11]) (by kernel_rfl) (by simp) ?_
      refine AllTill.cons (i := 11) (rs := []) (by rfl) (fun K hK => ?_) ?_
      · go_simp
        go_at_call 44
        refine (radmit_m _ FB b m r q (.slice ua un uc) u HA2.out.1.B HOK.out hqi HA2.out.2.2 hul (fun hne k hk => (HV.out hne k hk).2)).mono ?_
        rintro e wk ⟨rfl, FB1, r1, hf1, hr1⟩
        clear hsz
        have HF3 := Lib.hid (And.intro hf1 hr1)
        have HT := Lib.hid (HT.out.touch hf1.t (fun hm => by have := HLT.out.2 _ hm; have := HBQ.out; omega))
        clear hf1 hr1
        obtain ⟨nk, hsz⟩ : ∃ n, wk.heap.size = n := ⟨_, rfl⟩
        simp only [Act.put, List.setIfInBounds_toArray, List.set_cons_zero, List.set_cons_succ]
        refine hK.out _ _ trivial (fun _ => HT.out) ?_
        clear hK K
        refine wpTill.takeT (i := 12) (v := ?v11) (some 35) rfl rfl (by kernel_rfl) (fun _ _ _ h => h) (Or.inl ⟨by rfl, ?hy11⟩) ⟨trivial, HT.out⟩ ?rest11
        case hy11 => (intro w hSw; obtain ⟨q1, q2⟩ := HX.out w hSw; go_simp; try with_reducible rfl)
        simp only [Act.put, List.setIfInBounds_toArray, List.set_cons_zero, List.set_cons_succ]
        refine wpTill.takeT (i := 13) (v := ?v12) (some 6) rfl rfl (by kernel_rfl) (fun _ _ _ h => h) (Or.inl ⟨by rfl, ?hy12⟩) ⟨trivial, HT.out⟩ ?rest12
        case hy12 => (intro w hSw; obtain ⟨q1, q2⟩ := HX.out w hSw; go_simp; try with_reducible rfl)
        simp only [Act.put, List.setIfInBounds_toArray, List.set_cons_zero, List.set_cons_succ]
        refine wpTill.done (by kernel_rfl) ?_ _
        have HF : Hid (PlyP w FA FB a b (m.step 0 q u) (.returned (.bool true)) wk) := Lib.hid (by
          rw [HS.out]
          exact PlyP.wider (HTB.out.trans HTD.out) HLT.out.1 HLT.out.2 (PlyP.both HTW.out HP2.out.1 HP2.out.2 HF3.out.1 HF3.out.2 (Touch.refl [] wk)))
        clear hsz
        go_wp2_with fail
        go_ret
        exact HF.out
      exact AllTill.nil
    exact AllTill.nil
  · have k0' : (kd == 0) = false := by simpa using k0
    by_cases k1 : kd = 1
    · have HS : Hid (m.step kd q u = (m.cAsk q u).1) := Lib.hid (by unfold Am.step; rw [if_neg k0, if_pos k1])
      have HC1 := Lib.hid (ask_any W FA a m q (.slice ua un uc) u HTW.out.A HU.out)
      subst k1
      go_enter Tryz.func13, Tryz.ntmps13
      go_wp2_with fail
      refine HC1.out.mono ?_
      rintro e w2 ⟨v2, FA', rfl, hf, hp, hq2, ho2⟩
      have HA2 := Lib.hid (HA.out FA' w2 _ hf hp)
      have HP2 := Lib.hid (And.intro hf hp)
      obtain ⟨xs, hxs⟩ : ∃ xs, (m.cAsk q u).2.1 = xs := ⟨_, rfl⟩
      obtain ⟨X, hX⟩ : ∃ X, (m.cAsk q u).2.2 = X := ⟨_, rfl⟩
      have HC2 := Lib.hid (rask_any w2 FB b m r q (.slice ua un uc) u HA2.out.1.B HOK.out HA2.out.2.2 hul (fun hne k hk => (HV.out hne k hk).2))
      rw [hxs, hX] at HC2
      rw [hxs] at hq2
      rw [hX]
      have HX := Lib.hid hX
      have hxl : xs.length ≤ 1000 := by rw [← hxs]; exact ask_few HOK.out q u
      obtain ⟨xa, xn, xc, rfl⟩ : ∃ a n c, v2 = Value.slice a n c := (by obtain ⟨a, c, e, _⟩ := hq2.shape; exact ⟨a, _, c, e⟩)
      have HQ2 := Lib.hid (And.intro hq2 ho2)
      have hb2 := HA2.out.2.1
      have b1 : w2.cell? ⟨bq, 1, none⟩ = some (.int .i64 q) := hb2.cell (i := 1) rfl
      have b2 : w2.cell? ⟨bq, 2, none⟩ = some (.slice ua un uc) := hb2.cell (i := 2) rfl
      clear hf hp hq2 ho2 hb2 hxs hX HC1
      go_wp2_with fail
      refine HC2.out.mono ?_
      rintro e w3 ⟨v3, rfl, FB', hf3, ⟨r3, hr3⟩, hq3, ho3⟩
      obtain ⟨ya, yn, yc, rfl⟩ : ∃ a n c, v3 = Value.slice a n c := (by obtain ⟨a, c, e, _⟩ := hq3.shape; exact ⟨a, _, c, e⟩)
      have hsl2 := HQ2.out.1.sl.touch hf3.t (fun k hk hm => by have h1 := (HQ2.out.1.own k hk).1; have h2 := HLT.out.2 k hm; have h3 := HTB.out.size; omega)
      have HI := Lib.hid (ints_e _ _ xs w3 hsl2 hq3.sl (by omega))
      have HF3 := Lib.hid (And.intro hf3 hr3)
      clear b1 b2 b0 hf3 hr3 hq3 ho3 hsl2 HC2
      go_wp2_with fail
      refine HI.out.mono ?_
      rintro e w4 ⟨rfl, t4⟩
      have HF : Hid (PlyP w FA FB a b (m.step 1 q u) (.returned (.bool true)) w4) := Lib.hid (by
        rw [HS.out]
        exact PlyP.wider HTB.out HLT.out.1 HLT.out.2 (PlyP.both HTW.out HP2.out.1 HP2.out.2 HF3.out.1 HF3.out.2 t4))
      clear t4
      go_wp2_with fail
      go_ret
      exact HF.out
    · have k1' : (kd == 1) = false := by simpa using k1
      by_cases k2 : kd = 2
      · have HS : Hid (m.step kd q u = (m.cGive q u).1) := Lib.hid (by unfold Am.step; rw [if_neg k0, if_neg k1, if_pos k2])
        have HC1 := Lib.hid (give_any W FA a m q (.slice ua un uc) u HTW.out.A HU.out (fun hne k hk => (HV.out hne k hk).1))
        subst k2
        go_enter Tryz.func13, Tryz.ntmps13
        go_wp2_with fail
        refine HC1.out.mono ?_
        rintro e w2 ⟨v2, FA', rfl, hf, hp, hq2, ho2⟩
        have HA2 := Lib.hid (HA.out FA' w2 _ hf hp)
        have HP2 := Lib.hid (And.intro hf hp)
        obtain ⟨xs, hxs⟩ : ∃ xs, (m.cGive q u).2.1 = xs := ⟨_, rfl⟩
        obtain ⟨X, hX⟩ : ∃ X, (m.cGive q u).2.2 = X := ⟨_, rfl⟩
        have HC2 := Lib.hid (rgive_any w2 FB b m r q (.slice ua un uc) u HA2.out.1.B HOK.out HA2.out.2.2 hul (fun hne k hk => (HV.out hne k hk).2))
        rw [hxs, hX] at HC2
        rw [hxs] at hq2
        rw [hX]
        have HX := Lib.hid hX
        have hxl : xs.length ≤ 1000 := by rw [← hxs]; exact give_few HOK.out q u
        obtain ⟨xa, xn, xc, rfl⟩ : ∃ a n c, v2 = Value.slice a n c := (by obtain ⟨a, c, e, _⟩ := hq2.shape; exact ⟨a, _, c, e⟩)
        have HQ2 := Lib.hid (And.intro hq2 ho2)
        have hb2 := HA2.out.2.1
        have b1 : w2.cell? ⟨bq, 1, none⟩ = some (.int .i64 q) := hb2.cell (i := 1) rfl
        have b2 : w2.cell? ⟨bq, 2, none⟩ = some (.slice ua un uc) := hb2.cell (i := 2) rfl
        clear hf hp hq2 ho2 hb2 hxs hX HC1
        go_wp2_with fail
        refine HC2.out.mono ?_
        rintro e w3 ⟨v3, rfl, FB', hf3, ⟨r3, hr3⟩, hq3, ho3⟩
        obtain ⟨ya, yn, yc, rfl⟩ : ∃ a n c, v3 = Value.slice a n c := (by obtain ⟨a, c, e, _⟩ := hq3.shape; exact ⟨a, _, c, e⟩)
        have hsl2 := HQ2.out.1.sl.touch hf3.t (fun k hk hm => by have h1 := (HQ2.out.1.own k hk).1; have h2 := HLT.out.2 k hm; have h3 := HTB.out.size; omega)
        have HI := Lib.hid (ints_e _ _ xs w3 hsl2 hq3.sl (by omega))
        have HF3 := Lib.hid (And.intro hf3 hr3)
        clear b1 b2 b0 hf3 hr3 hq3 ho3 hsl2 HC2
        go_wp2_with fail
        refine HI.out.mono ?_
        rintro e w4 ⟨rfl, t4⟩
        have HF : Hid (PlyP w FA FB a b (m.step 2 q u) (.returned (.bool true)) w4) := Lib.hid (by
          rw [HS.out]
          exact PlyP.wider HTB.out HLT.out.1 HLT.out.2 (PlyP.both HTW.out HP2.out.1 HP2.out.2 HF3.out.1 HF3.out.2 t4))
        clear t4
        go_wp2_with fail
        go_ret
        exact HF.out
      · have k2' : (kd == 2) = false := by simpa using k2
        have HS : Hid (m.step kd q u = (m.cLeave q).1) := Lib.hid (by unfold Am.step; rw [if_neg k0, if_neg k1, if_neg k2])
        have HC1 := Lib.hid (leave_any W FA a m q HTW.out.A)
        go_enter Tryz.func13, Tryz.ntmps13
        go_wp2_with fail
        refine HC1.out.mono ?_
        rintro e w2 ⟨v2, FA', rfl, hf, hp, hq2, ho2⟩
        have HA2 := Lib.hid (HA.out FA' w2 _ hf hp)
        have HP2 := Lib.hid (And.intro hf hp)
        obtain ⟨xs, hxs⟩ : ∃ xs, (m.cLeave q).2.1 = xs := ⟨_, rfl⟩
        obtain ⟨X, hX⟩ : ∃ X, (m.cLeave q).2.2 = X := ⟨_, rfl⟩
        have HC2 := Lib.hid (rleave_any w2 FB b m r q HA2.out.1.B HOK.out)
        rw [hxs, hX] at HC2
        rw [hxs] at hq2
        rw [hX]
        have HX := Lib.hid hX
        have hxl : xs.length ≤ 1000 := by rw [← hxs]; exact leave_few HOK.out q
        obtain ⟨xa, xn, xc, rfl⟩ : ∃ a n c, v2 = Value.slice a n c := (by obtain ⟨a, c, e, _⟩ := hq2.shape; exact ⟨a, _, c, e⟩)
        have HQ2 := Lib.hid (And.intro hq2 ho2)
        have hb2 := HA2.out.2.1
        have b1 : w2.cell? ⟨bq, 1, none⟩ = some (.int .i64 q) := hb2.cell (i := 1) rfl
        have b2 : w2.cell? ⟨bq, 2, none⟩ = some (.slice ua un uc) := hb2.cell (i := 2) rfl
        clear hf hp hq2 ho2 hb2 hxs hX HC1
        go_wp2_with fail
        refine HC2.out.mono ?_
        rintro e w3 ⟨v3, rfl, FB', hf3, ⟨r3, hr3⟩, hq3, ho3⟩
        obtain ⟨ya, yn, yc, rfl⟩ : ∃ a n c, v3 = Value.slice a n c := (by obtain ⟨a, c, e, _⟩ := hq3.shape; exact ⟨a, _, c, e⟩)
        have hsl2 := HQ2.out.1.sl.touch hf3.t (fun k hk hm => by have h1 := (HQ2.out.1.own k hk).1; have h2 := HLT.out.2 k hm; have h3 := HTB.out.size; omega)
        have HI := Lib.hid (ints_e _ _ xs w3 hsl2 hq3.sl (by omega))
        have HF3 := Lib.hid (And.intro hf3 hr3)
        clear b1 b2 b0 hf3 hr3 hq3 ho3 hsl2 HC2
        go_wp2_with fail
        refine HI.out.mono ?_
        rintro e w4 ⟨rfl, t4⟩
        have HF : Hid (PlyP w FA FB a b (m.step kd q u) (.returned (.bool true)) w4) := Lib.hid (by
          rw [HS.out]
          exact PlyP.wider HTB.out HLT.out.1 HLT.out.2 (PlyP.both HTW.out HP2.out.1 HP2.out.2 HF3.out.1 HF3.out.2 t4))
        clear t4
        go_wp2_with fail
        go_ret
        exact HF.out
end Go.Proofs.YticglfmmjgnicaaGreat

set_option linter.unusedVariables false
namespace Go.Proofs.YticglfmmjgnicaaGreat
open Go Go.RowKit

def mA0 : Am := Am.new [2] true
def mA1 : Am := (Am.cAdmit mA0 1 [2]).1
def mA2 : Am := (Am.cAdmit mA1 2 [2]).1
def mA3 : Am := (Am.cAdmit mA2 3 [3]).1
def mA4 : Am := (Am.cAsk mA3 1 [1]).1
def mA5 : Am := (Am.cAsk mA4 2 [1]).1
def mA6 : Am := (Am.cAsk mA5 1 [2]).1
def mA7 : Am := (Am.cGive mA6 1 [2]).1
def mA8 : Am := (Am.cLeave mA7 1).1
def mA9 : Am := (Am.cLeave mA8 1).1
theorem rA1 : mA0.cAdmit 1 [2] = (mA1, 0) := Prod.ext rfl (by decide +kernel)
theorem rA2 : mA1.cAdmit 2 [2] = (mA2, 0) := Prod.ext rfl (by decide +kernel)
theorem rA3 : mA2.cAdmit 3 [3] = (mA3, 35) := Prod.ext rfl (by decide +kernel)
theorem rA4 : mA3.cAsk 1 [1] = (mA4, [1], 0) := Prod.ext rfl (Prod.ext (by decide +kernel) (by decide +kernel))
theorem rA5 : mA4.cAsk 2 [1] = (mA5, [], 0) := Prod.ext rfl (Prod.ext (by decide +kernel) (by decide +kernel))
theorem rA6 : mA5.cAsk 1 [2] = (mA6, [], 35) := Prod.ext rfl (Prod.ext (by decide +kernel) (by decide +kernel))
theorem rA7 : mA6.cGive 1 [2] = (mA7, [], 36) := Prod.ext rfl (Prod.ext (by decide +kernel) (by decide +kernel))
theorem rA8 : mA7.cLeave 1 = (mA8, [2], true) := Prod.ext rfl (Prod.ext (by decide +kernel) (by decide +kernel))
theorem rA9 : mA8.cLeave 1 = (mA9, [], false) := Prod.ext rfl (Prod.ext (by decide +kernel) (by decide +kernel))
theorem one_sl (w : World) (x : Int) : Sl (w.alloc (.cells #[.int .i64 x] 3)) (.slice (some ⟨w.heap.size, 0, none⟩) 1 1) [x] := ⟨_, 1, rfl, .inr ⟨w.heap.size, 0, rfl, by simp, row1 _ _ _ _ rfl⟩⟩
structure AwS (w0 w : World) (F : List Nat) (a : Nat) (m : Am) : Prop where
  P : PaS w F a m
  g : ∀ k, k ∈ F → w0.heap.size ≤ k
  t : Touch [] w0 w
section
variable {w0 w w' : World} {F F' : List Nat} {a : Nat} {m m' : Am}
theorem AwS.same (h : AwS w0 w F a m) (ht : Touch [] w w') : AwS w0 w' F a m := ⟨h.P.same ht, h.g, h.t.trans ht⟩
theorem AwS.step (h : AwS w0 w F a m) (hf : Fr F w F' w') (hp : PaS w' F' a m') : AwS w0 w' F' a m' :=
  ⟨hp, fun k hk => by
    rcases hf.g k hk with e | e
    · exact h.g k e
    · have := h.t.size; omega, h.t.transF hf.t (fun k hk hl => absurd hl (by have := h.g k hk; omega))⟩
/-- A list that a call has answered, kept. -/
structure Kp (w : World) (F : List Nat) (v : Value) (xs : List Int) : Prop where
  s : Sl w v xs
  o : ∀ k, v.ownBlock = some k → k ∉ F ∧ k < w.heap.size
theorem Kp.same {v : Value} {xs : List Int} (h : Kp w F v xs) (ht : Touch [] w w') : Kp w' F v xs := ⟨h.s.touch ht (fun _ _ => by simp), fun k hk => ⟨(h.o k hk).1, Nat.lt_of_lt_of_le (h.o k hk).2 ht.size⟩⟩
theorem Kp.step {v : Value} {xs : List Int} (h : Kp w F v xs) (hf : Fr F w F' w') : Kp w' F' v xs := ⟨h.s.touch hf.t (fun k hk => (h.o k hk).1), fun k hk => ⟨fun hm => by
  rcases hf.g k hm with e | e
  · exact (h.o k hk).1 e
  · have := (h.o k hk).2; omega, Nat.lt_of_lt_of_le (h.o k hk).2 hf.t.size⟩⟩
theorem Kp.of {w0 : World} {v : Value} {xs : List Int} (h : Qu w w0.heap.size 3 v (xs.map (Value.int .i64))) (ho : ∀ k, v.ownBlock = some k → k ∉ F) : Kp w F v xs := ⟨h.sl, fun k hk => ⟨ho k hk, (h.own k hk).2⟩⟩
end
def AwP (w : World) (e : Ending) (w' : World) : Prop := e = .returned (.bool true) ∧ Touch [] w w'
set_option maxRecDepth 100000 in
set_option maxHeartbeats 40000000 in
theorem awake_any (w : World) : Calls Tryz.prog 10 #[] w (AwP w) := by
  have t0 : Touch [] w (w.alloc (.cells #[.int .i64 2] 3)) := (Touch.refl [] w).alloc _
  have HT0 := Lib.hid t0
  have HC := Lib.hid (new_any _ _ [2] true (one_sl w 2) (by simp))
  clear t0
  go_enter Tryz.func10, Tryz.ntmps10
  go_wp2_with fail
  refine HC.out.mono ?_
  rintro e w1 ⟨ht, hn⟩
  have h2 : newB [2] = true := by decide +kernel
  rcases hn with ⟨hn, _⟩ | ⟨_, a, F0, rfl, hp, hg⟩
  · rw [h2] at hn; cases hn
  have HS : Hid (AwS w w1 F0 a mA0) := Lib.hid ⟨hp, fun k hk => by have := hg k hk; have := HT0.out.size; omega, HT0.out.trans ht⟩
  have HC := Lib.hid (new_any _ _ [0] true (one_sl w1 0) (by simp))
  clear ht h2 hp hg HT0
  go_wp2_with fail
  refine HC.out.mono ?_
  rintro e w2 ⟨ht, hn⟩
  have h0 : newB [0] = false := by decide +kernel
  rcases hn with ⟨_, rfl⟩ | ⟨hn, _⟩
  case inr => rw [h0] at hn; cases hn
  have HS := Lib.hid (HS.out.same (((Touch.refl [] w1).alloc _).trans ht))
  clear ht h0 HC
  have hs := HS.out.same ((Touch.refl [] w2).alloc (.cells #[.int .i64 2] 3))
  have hc := admit_any _ F0 a mA0 1 _ [2] hs.P (by unfold InI; omega) (one_sl w2 2)
  rw [rA1] at hc
  have HS := Lib.hid hs
  have HC := Lib.hid hc
  clear hs hc
  go_wp2_with fail
  refine HC.out.mono ?_
  rintro e w3 ⟨rfl, F1, hf, hp⟩
  have HS := Lib.hid (HS.out.step hf hp)
  clear hf hp HC
  have hs := HS.out.same ((Touch.refl [] w3).alloc (.cells #[.int .i64 2] 3))
  have hc := admit_any _ F1 a mA1 2 _ [2] hs.P (by unfold InI; omega) (one_sl w3 2)
  rw [rA2] at hc
  have HS := Lib.hid hs
  have HC := Lib.hid hc
  clear hs hc
  go_wp2_with fail
  refine HC.out.mono ?_
  rintro e w4 ⟨rfl, F2, hf, hp⟩
  have HS := Lib.hid (HS.out.step hf hp)
  clear hf hp HC
  have hs := HS.out.same ((Touch.refl [] w4).alloc (.cells #[.int .i64 3] 3))
  have hc := admit_any _ F2 a mA2 3 _ [3] hs.P (by unfold InI; omega) (one_sl w4 3)
  rw [rA3] at hc
  have HS := Lib.hid hs
  have HC := Lib.hid hc
  clear hs hc
  go_wp2_with fail
  refine HC.out.mono ?_
  rintro e w5 ⟨rfl, F3, hf, hp⟩
  have HS := Lib.hid (HS.out.step hf hp)
  clear hf hp HC
  have hs := HS.out.same ((Touch.refl [] w5).alloc (.cells #[.int .i64 1] 3))
  have hc := ask_any _ F3 a mA3 1 _ [1] hs.P (one_sl w5 1)
  rw [rA4] at hc
  have HS := Lib.hid hs
  have HC := Lib.hid hc
  clear hs hc
  go_wp2_with fail
  refine HC.out.mono ?_
  rintro e w6 ⟨v3, F4, rfl, hf, hp, hq, ho⟩
  obtain ⟨xa3, xc3, rfl⟩ : ∃ a c, v3 = Value.slice a 1 c := by obtain ⟨a, c, e, _⟩ := hq.shape; exact ⟨a, c, e⟩
  have HK3 := Lib.hid (Kp.of hq ho)
  have HS := Lib.hid (HS.out.step hf hp)
  clear hf hp HC hq ho
  have hs := HS.out.same ((Touch.refl [] w6).alloc (.cells #[.int .i64 1] 3))
  have HK3 := Lib.hid (HK3.out.same ((Touch.refl [] w6).alloc (.cells #[.int .i64 1] 3)))
  have hc := ask_any _ F4 a mA4 2 _ [1] hs.P (one_sl w6 1)
  rw [rA5] at hc
  have HS := Lib.hid hs
  have HC := Lib.hid hc
  clear hs hc
  go_wp2_with fail
  refine HC.out.mono ?_
  rintro e w7 ⟨v4, F5, rfl, hf, hp, hq, ho⟩
  obtain ⟨xa4, xc4, rfl⟩ : ∃ a c, v4 = Value.slice a 0 c := by obtain ⟨a, c, e, _⟩ := hq.shape; exact ⟨a, c, e⟩
  have HK3 := Lib.hid (HK3.out.step hf)
  have HS := Lib.hid (HS.out.step hf hp)
  clear hf hp HC hq ho
  have hs := HS.out.same ((Touch.refl [] w7).alloc (.cells #[.int .i64 2] 3))
  have HK3 := Lib.hid (HK3.out.same ((Touch.refl [] w7).alloc (.cells #[.int .i64 2] 3)))
  have hc := ask_any _ F5 a mA5 1 _ [2] hs.P (one_sl w7 2)
  rw [rA6] at hc
  have HS := Lib.hid hs
  have HC := Lib.hid hc
  clear hs hc
  go_wp2_with fail
  refine HC.out.mono ?_
  rintro e w8 ⟨v5, F6, rfl, hf, hp, hq, ho⟩
  obtain ⟨xa5, xc5, rfl⟩ : ∃ a c, v5 = Value.slice a 0 c := by obtain ⟨a, c, e, _⟩ := hq.shape; exact ⟨a, c, e⟩
  have HK3 := Lib.hid (HK3.out.step hf)
  have HS := Lib.hid (HS.out.step hf hp)
  clear hf hp HC hq ho
  have hs := HS.out.same ((Touch.refl [] w8).alloc (.cells #[.int .i64 2] 3))
  have HK3 := Lib.hid (HK3.out.same ((Touch.refl [] w8).alloc (.cells #[.int .i64 2] 3)))
  have hc := give_any _ F6 a mA6 1 _ [2] hs.P (one_sl w8 2) (fun _ k hk hm => by simp [Value.ownBlock] at hk; have := HS.out.P.lt k hm; omega)
  rw [rA7] at hc
  have HS := Lib.hid hs
  have HC := Lib.hid hc
  clear hs hc
  go_wp2_with fail
  refine HC.out.mono ?_
  rintro e w9 ⟨v6, F7, rfl, hf, hp, hq, ho⟩
  obtain ⟨xa6, xc6, rfl⟩ : ∃ a c, v6 = Value.slice a 0 c := by obtain ⟨a, c, e, _⟩ := hq.shape; exact ⟨a, c, e⟩
  have HK3 := Lib.hid (HK3.out.step hf)
  have HS := Lib.hid (HS.out.step hf hp)
  clear hf hp HC hq ho
  have HK3 := Lib.hid (HK3.out.same ((Touch.refl [] w9).alloc (.cells #[.int .i64 1] 3)))
  have HS := Lib.hid (HS.out.same ((Touch.refl [] w9).alloc (.cells #[.int .i64 1] 3)))
  have HC := Lib.hid (ints_e _ _ [1] _ HK3.out.s (one_sl w9 1) (by simp))
  go_wp2_with fail
  refine HC.out.mono ?_
  rintro e w20 ⟨rfl, ht⟩
  have HS := Lib.hid (HS.out.same ht)
  obtain ⟨ok, p, hp, e⟩ := HS.out.P
  have hc := pending_any w20 F7 a mA7 p hp.toPb (by rw [e]; decide +kernel) (by rw [e]; decide +kernel)
  rw [e] at hc
  have HC := Lib.hid hc
  clear ht ok hp e hc HK3
  go_wp2_with fail
  refine HC.out.mono ?_
  rintro e w21 ⟨v21, qu, rfl, haks, ht⟩
  obtain ⟨ka, kc, rfl⟩ : ∃ a c, v21 = Value.slice a 1 c := by obtain ⟨a, c, e, _⟩ := haks.s.form; exact ⟨a, c, e⟩
  have HS := Lib.hid (HS.out.same ht)
  clear haks ht HC
  have hs := HS.out
  have hc := leave_any _ F7 a mA7 1 hs.P
  rw [rA8] at hc
  have HS := Lib.hid hs
  have HC := Lib.hid hc
  clear hs hc
  go_wp2_with fail
  refine HC.out.mono ?_
  rintro e w10 ⟨v7, F8, rfl, hf, hp, hq, ho⟩
  obtain ⟨xa7, xc7, rfl⟩ : ∃ a c, v7 = Value.slice a 1 c := by obtain ⟨a, c, e, _⟩ := hq.shape; exact ⟨a, c, e⟩
  have HK7 := Lib.hid (Kp.of hq ho)
  have HS := Lib.hid (HS.out.step hf hp)
  clear hf hp HC hq ho
  have hs := HS.out
  have hc := leave_any _ F8 a mA8 1 hs.P
  rw [rA9] at hc
  have HS := Lib.hid hs
  have HC := Lib.hid hc
  clear hs hc
  go_wp2_with fail
  refine HC.out.mono ?_
  rintro e w11 ⟨v8, F9, rfl, hf, hp, hq, ho⟩
  obtain ⟨xa8, xc8, rfl⟩ : ∃ a c, v8 = Value.slice a 0 c := by obtain ⟨a, c, e, _⟩ := hq.shape; exact ⟨a, c, e⟩
  have HK7 := Lib.hid (HK7.out.step hf)
  have HS := Lib.hid (HS.out.step hf hp)
  clear hf hp HC hq ho
  have HK7 := Lib.hid (HK7.out.same ((Touch.refl [] w11).alloc (.cells #[.int .i64 2] 3)))
  have HS := Lib.hid (HS.out.same ((Touch.refl [] w11).alloc (.cells #[.int .i64 2] 3)))
  have HC := Lib.hid (ints_e _ _ [2] _ HK7.out.s (one_sl w11 2) (by simp))
  go_wp2_with fail
  refine HC.out.mono ?_
  rintro e w30 ⟨rfl, ht⟩
  have HS := Lib.hid (HS.out.same ht)
  obtain ⟨ok, p, hp, e⟩ := HS.out.P
  have hc := held_in w30 F9 a mA9 p 2 hp.toPb (by decide +kernel) (by decide +kernel) (by decide +kernel) (by unfold InI; omega)
  rw [show mA9.held 2 = [1] from by decide +kernel] at hc
  have HC := Lib.hid hc
  clear ht ok hp e hc HK7
  go_wp2_with fail
  refine HC.out.mono ?_
  rintro e w31 ⟨v31, rfl, hq, ht⟩
  obtain ⟨ha, hc, rfl⟩ : ∃ a c, v31 = Value.slice a 1 c := by obtain ⟨a, c, e, _⟩ := hq.shape; exact ⟨a, c, e⟩
  have HS := Lib.hid (HS.out.same (ht.trans ((Touch.refl [] w31).alloc (.cells #[.int .i64 1] 3))))
  have HC := Lib.hid (ints_e _ _ [1] _ (hq.sl.touch ((Touch.refl [] w31).alloc (.cells #[.int .i64 1] 3)) (fun _ _ => by simp)) (one_sl w31 1) (by simp))
  clear hq ht
  go_wp2_with fail
  refine HC.out.mono ?_
  rintro e w32 ⟨rfl, ht⟩
  have HS := Lib.hid (HS.out.same ht)
  obtain ⟨ok, p, hp, e⟩ := HS.out.P
  have hc := avail_any w32 F9 a mA9 p hp ok
  rw [show mA9.avl = [1] from by decide +kernel] at hc
  have HC := Lib.hid hc
  have HPD := Lib.hid (And.intro ok e)
  clear ht ok hp e hc
  go_wp2_with fail
  refine HC.out.mono ?_
  rintro e w33 ⟨v33, F33, rfl, hrd, hq, ho⟩
  obtain ⟨hf, hp⟩ := hrd.paS HPD.out.1 HPD.out.2
  obtain ⟨ia, ic, rfl⟩ : ∃ a c, v33 = Value.slice a 1 c := by obtain ⟨a, c, e, _⟩ := hq.shape; exact ⟨a, c, e⟩
  have HS := Lib.hid ((HS.out.step hf hp).same ((Touch.refl [] w33).alloc (.cells #[.int .i64 1] 3)))
  have HC := Lib.hid (ints_e _ _ [1] _ (hq.sl.touch ((Touch.refl [] w33).alloc (.cells #[.int .i64 1] 3)) (fun _ _ => by simp)) (one_sl w33 1) (by simp))
  clear hrd hq ho hf hp HPD
  go_wp2_with fail
  refine HC.out.mono ?_
  rintro e w34 ⟨rfl, ht⟩
  have HS := Lib.hid (HS.out.same ht)
  obtain ⟨ok, p, hp, e⟩ := HS.out.P
  have hc := asafe_any w34 F33 a mA9 p hp ok
  rw [show mA9.safe = true from by decide +kernel] at hc
  have HC := Lib.hid hc
  have HPD := Lib.hid (And.intro ok e)
  clear ht ok hp e hc
  go_wp2_with fail
  refine HC.out.mono ?_
  rintro e w35 ⟨rfl, F35, hrd⟩
  obtain ⟨hf, hp⟩ := hrd.paS HPD.out.1 HPD.out.2
  have HS := Lib.hid (HS.out.step hf hp)
  obtain ⟨ok, p2, hp2, e⟩ := HS.out.P
  have hc := astuck_any w35 F35 a mA9 p2 hp2 ok e (by decide +kernel)
  rw [show mA9.stuck = [] from by decide +kernel] at hc
  have HC := Lib.hid hc
  have HPD := Lib.hid (And.intro ok e)
  clear hrd hf hp ok hp2 e hc
  go_wp2_with fail
  refine HC.out.mono ?_
  rintro e w36 ⟨v36, F36, rfl, hrd, hq, ho⟩
  obtain ⟨hf, hp⟩ := hrd.paS HPD.out.1 HPD.out.2
  obtain ⟨ja, jc, rfl⟩ : ∃ a c, v36 = Value.slice a 0 c := by obtain ⟨a, c, e, _⟩ := hq.shape; exact ⟨a, c, e⟩
  have HF : Hid (AwP w (.returned (.bool true)) w36) := Lib.hid ⟨rfl, (HS.out.step hf hp).t⟩
  clear hrd hq ho hf hp HC HPD HS
  go_wp2_with fail
  go_ret
  exact HF.out
end Go.Proofs.YticglfmmjgnicaaGreat

set_option linter.unusedVariables false
namespace Go.Proofs.YticglfmmjgnicaaGreat
open Go Go.RowKit

structure Ts (w0 w : World) (a b : Nat) (m : Am) : Prop where
  h : ∃ FA FB r, TwR w FA FB a b m m r ∧ (∀ k, k ∈ FA → w0.heap.size ≤ k) ∧ ∀ k, k ∈ FB → w0.heap.size ≤ k
  t : Touch [] w0 w
section
variable {w0 w w' w1 : World} {a b : Nat} {m : Am}
theorem Ts.same (h : Ts w0 w a b m) (ht : Touch [] w w') : Ts w0 w' a b m := by
  obtain ⟨FA, FB, r, h1, h2, h3⟩ := h.h
  exact ⟨⟨FA, FB, r, h1.same ht, h2, h3⟩, h.t.trans ht⟩
theorem Ts.ok (h : Ts w0 w a b m) : m.Ok := by
  obtain ⟨FA, FB, r, h1, h2, h3⟩ := h.h
  exact h1.A.1
def TsP (w0 : World) (a b : Nat) (m : Am) (e : Ending) (w' : World) : Prop := e = .returned (.bool true) ∧ Ts w0 w' a b m
theorem plays_s (kd q : Int) (ua : Option Addr) (un uc : Nat) (u : List Int) (h : Ts w0 w a b m) (ht : Touch [] w w1) (hqi : InI q) (hu : Sl w1 (.slice ua un uc) u) (hul : u.length ≤ 1000) (hv : u ≠ [] → ∀ k, (Value.slice ua un uc).ownBlock = some k → k < w0.heap.size ∨ w.heap.size ≤ k) :
    Calls Tryz.prog 13 #[.pointer (some ⟨a, 0, none⟩), .pointer (some ⟨b, 0, none⟩), .agg #[.int .i64 kd, .int .i64 q, .slice ua un uc]] w1 (TsP w0 a b (m.step kd q u)) := by
  obtain ⟨FA, FB, r, h1, h2, h3⟩ := h.h
  have hl1 := h1.A.lt
  have hl2 := h1.B.lt
  refine (plays_any w1 FA FB a b m r kd q ua un uc u (h1.same ht) hqi hu hul (fun hne k hk => ?_)).mono ?_
  · rcases hv hne k hk with e | e
    · exact ⟨fun hm => by have := h2 k hm; omega, fun hm => by have := h3 k hm; omega⟩
    · exact ⟨fun hm => by have := hl1 k hm; omega, fun hm => by have := hl2 k hm; omega⟩
  · rintro e w' ⟨he, t, FA', FB', r', q1, q2, q3⟩
    have s1 := h.t.size
    have s2 := ht.size
    refine ⟨he, ⟨FA', FB', r', q1, fun k hk => ?_, fun k hk => ?_⟩, (h.t.trans ht).transF t (fun k hk hl => ?_)⟩
    · rcases q2 k hk with e | e
      · exact h2 k e
      · omega
    · rcases q3 k hk with e | e
      · exact h3 k e
      · omega
    · rcases List.mem_append.1 hk with e | e
      · have := h2 k e; omega
      · have := h3 k e; omega
end
theorem new_two {w w1 w2 : World} {tot : List Int} {clm : Bool} {e1 e2 : Ending} (h1 : NewP w tot clm e1 w1) (h2 : RNewP w1 tot clm e2 w2) :
    (newB tot = false ∧ e1 = .returned (.tuple #[.pointer none, .int .i64 1]) ∧ e2 = .returned (.tuple #[.pointer none, .int .i64 1]) ∧ Touch [] w w2) ∨ (newB tot = true ∧ ∃ a b, e1 = .returned (.tuple #[.pointer (some ⟨a, 0, none⟩), .int .i64 0]) ∧ e2 = .returned (.tuple #[.pointer (some ⟨b, 0, none⟩), .int .i64 0]) ∧ Ts w w2 a b (Am.new tot clm)) := by
  obtain ⟨t1, h1⟩ := h1
  obtain ⟨t2, h2⟩ := h2
  rcases h1 with ⟨hb, he⟩ | ⟨hb, a, FA, he, hp, hg⟩
  · rcases h2 with ⟨_, he2⟩ | ⟨hb2, _⟩
    · exact .inl ⟨hb, he, he2, t1.trans t2⟩
    · rw [hb] at hb2; cases hb2
  · rcases h2 with ⟨hb2, _⟩ | ⟨_, b, FB, r, he2, hr, hg2⟩
    · rw [hb] at hb2; cases hb2
    · have s1 := t1.size
      exact .inr ⟨hb, a, b, he, he2, ⟨FA, FB, r, ⟨hp.same t2, hr, fun k hk hm => by have := hp.lt k hk; have := hg2 k hm; omega⟩, hg, fun k hk => by have := hg2 k hk; omega⟩, t1.trans t2⟩
/-- A list of calls. -/
abbrev Cal := Int × Int × List Int
def cal (l : List Cal) (i : Nat) : Cal := l.getD i (0, 0, [])
def Stl (w : World) (v : Value) (l : List Cal) : Prop := ∃ a cap, v = .slice a l.length cap ∧ (l = [] ∨ ∃ g off, a = some ⟨g, off, none⟩ ∧ g < w.heap.size ∧ ∃ ps : Nat → Value, ∀ i, i < l.length → Sl w (ps i) (cal l i).2.2 ∧ w.cell? ⟨g, off + i * 3, none⟩ = some (.int .i64 (cal l i).1) ∧ w.cell? ⟨g, off + i * 3 + 1, none⟩ = some (.int .i64 (cal l i).2.1) ∧ w.cell? ⟨g, off + i * 3 + 2, none⟩ = some (ps i))
theorem Stl.form {w : World} {v : Value} {l : List Cal} (h : Stl w v l) : ∃ a c, v = .slice a l.length c := by obtain ⟨a, c, h, _⟩ := h; exact ⟨a, c, h⟩
theorem Stl.at {w : World} {a : Option Addr} {n cap : Nat} {l : List Cal} (h : Stl w (.slice a n cap) l) {i : Nat} (hi : i < l.length) : ∃ g off, a = some ⟨g, off, none⟩ ∧ ∃ ua un uc, Sl w (.slice ua un uc) (cal l i).2.2 ∧
    ∀ w', Touch [] w w' → w'.cell? ⟨g, off + i * 3, none⟩ = some (.int .i64 (cal l i).1) ∧ w'.cell? ⟨g, off + i * 3 + 1, none⟩ = some (.int .i64 (cal l i).2.1) ∧ w'.cell? ⟨g, off + i * 3 + 2, none⟩ = some (.slice ua un uc) := by
  obtain ⟨a', cap', he, h⟩ := h
  cases he
  rcases h with h | ⟨g, off, rfl, hg, ps, hp⟩
  · subst h; simp at hi
  · obtain ⟨q0, q1, q2, q3⟩ := hp i hi
    obtain ⟨ua, uc, hu⟩ := q0.form
    refine ⟨g, off, rfl, ua, _, uc, by rw [← hu]; exact q0, fun w' ht => ?_⟩
    have hb := ht.block g hg (by simp)
    refine ⟨?_, ?_, ?_⟩
    · rw [World.cell?_of_block (w := w) (a := ⟨g, off + i * 3, none⟩) hb]; exact q1
    · rw [World.cell?_of_block (w := w) (a := ⟨g, off + i * 3 + 1, none⟩) hb]; exact q2
    · rw [World.cell?_of_block (w := w) (a := ⟨g, off + i * 3 + 2, none⟩) hb, ← hu]; exact q3
theorem eql_pA (r : Addr) (w : World) : (binOp .eql 26 (.pointer (some r)) (.pointer none)).run Tryz.prog w = .ok (.bool false) w := by kernel_rfl
end Go.Proofs.YticglfmmjgnicaaGreat

set_option linter.unusedVariables false
namespace Go.Proofs.YticglfmmjgnicaaGreat
open Go Go.RowKit

def atV (ls : List Int) (k : Nat) (most : Int) : Int := if ls.length ≤ k then most - 1 else if (ls.getD k 0).tmod most < 0 then (ls.getD k 0).tmod most + most else (ls.getD k 0).tmod most
theorem tmod_in {y most : Int} (h : 0 < most) : -most < y.tmod most ∧ y.tmod most < most := ⟨by have := Int.tmod_lt_of_pos (-y) h; rw [Int.neg_tmod] at this; omega, Int.tmod_lt_of_pos y h⟩
theorem atV_in {ls : List Int} {k : Nat} {most : Int} (h : 0 < most) : 0 ≤ atV ls k most ∧ atV ls k most < most := by
  unfold atV
  have := tmod_in (y := ls.getD k 0) h
  split
  · omega
  · split <;> omega
set_option maxRecDepth 100000 in
theorem at_any (v : Value) (ls : List Int) (k : Nat) (most x : Int) (w : World) (h : Sl w v ls) (hl : ls.length ≤ 1000) (hk : k ≤ 1000) (hm : 0 < most ∧ most ≤ 1000000) (hx : atV ls k most = x) :
    Calls Tryz.prog 49 #[v, .int .i64 (k : Int), .int .i64 most] w fun e w' => e = .returned (.int .i64 x) ∧ Touch [] w w' := by
  obtain ⟨la, lc, rfl⟩ := h.form
  obtain ⟨L, hL⟩ : ∃ L, ls.length = L := ⟨_, rfl⟩
  have HS := Lib.hid h
  have HL := Lib.hid hL
  have HX := Lib.hid hx
  rw [hL] at HS hl ⊢
  clear h hL hx
  obtain ⟨hm0, hm1⟩ := hm
  have hwm : IntKind.i64.wrap (most - 1) = most - 1 := IntWalk.i64_in _ (by omega)
  by_cases hp : (L : Int) ≤ (k : Int)
  · have HF : Hid (most - 1 = x) := Lib.hid (by rw [← HX.out]; unfold atV; rw [if_pos (by rw [HL.out]; omega)])
    go_enter Tryz.func49, Tryz.ntmps49
    go_wp2_with fail
    go_ret
    exact ⟨by (rw [HF.out]) <;> rfl, Touch.refl _ _⟩
  · have hlt : (k : Int) < (L : Int) := by omega
    have hlt2 : k < L := by omega
    obtain ⟨g, off, hg, xc⟩ := HS.out.ix (q := k) (by rw [HL.out]; exact hlt2)
    cases hg
    have x1 := xc w (Touch.refl _ _)
    obtain ⟨y, hy⟩ : ∃ y, ls.getD k 0 = y := ⟨_, rfl⟩
    rw [hy] at x1
    obtain ⟨r, hr⟩ : ∃ r, y.tmod most = r := ⟨_, rfl⟩
    have hr1 : -most < r ∧ r < most := by rw [← hr]; exact tmod_in hm0
    obtain ⟨hr1, hr2⟩ := hr1
    have hz : (most == 0) = false := beqF (by omega)
    have hz2 : ¬ most = 0 := by omega
    have hz3 : ¬ most = -1 := by omega
    have HA : Hid ((if r < 0 then r + most else r) = x) := Lib.hid (by rw [← HX.out]; unfold atV; rw [hy, hr, if_neg (show ¬ ls.length ≤ k by rw [HL.out]; omega)])
    have hwr : IntKind.i64.wrap (r + most) = r + most := IntWalk.i64_in _ (by omega)
    clear xc hy HX
    by_cases hn : r < 0
    · have HF : Hid (r + most = x) := Lib.hid (by rw [← HA.out, if_pos hn])
      go_enter Tryz.func49, Tryz.ntmps49
      go_wp2_with fail
      go_ret
      exact ⟨by (rw [HF.out]) <;> rfl, Touch.refl _ _⟩
    · have HF : Hid (r = x) := Lib.hid (by rw [← HA.out, if_neg hn])
      go_enter Tryz.func49, Tryz.ntmps49
      go_wp2_with fail
      go_ret
      exact ⟨by (rw [HF.out]) <;> rfl, Touch.refl _ _⟩
theorem two_sl (w : World) (x y : Int) {n : Nat} (hn : n = w.heap.size) : Sl (w.alloc (.cells #[.int .i64 x, .int .i64 y] 3)) (.slice (some ⟨n, 0, none⟩) 2 2) [x, y] := by
  subst hn
  have hb : Blk (w.alloc (.cells #[.int .i64 x, .int .i64 y] 3)) w.heap.size #[.int .i64 x, .int .i64 y] 3 := Blk.new rfl
  refine ⟨_, 2, rfl, .inr ⟨w.heap.size, 0, rfl, hb.lt, fun j hj => ?_⟩⟩
  have hj : j < 2 := hj
  have : j = 0 ∨ j = 1 := by omega
  rcases this with rfl | rfl
  · exact hb.cell (i := 0) rfl
  · exact hb.cell (i := 1) rfl
/-- What a number makes: a call, its units new. -/
def TuP (w : World) (e : Ending) (w' : World) : Prop := ∃ kd q x y g, e = .returned (.agg #[.int .i64 kd, .int .i64 q, .slice (some ⟨g, 0, none⟩) 2 2]) ∧ w.heap.size ≤ g ∧ Touch [] w w' ∧ Sl w' (.slice (some ⟨g, 0, none⟩) 2 2) [x, y] ∧ (1 ≤ kd ∧ kd ≤ 3) ∧ (1 ≤ q ∧ q ≤ 8)
set_option maxRecDepth 100000 in
set_option maxHeartbeats 4000000 in
theorem turn_any (w : World) (x : Int) (n : Nat) (hx : InI x) (hn : 1 ≤ n ∧ n ≤ 8) : Calls Tryz.prog 16 #[.int .i64 x, .int .i64 (n : Int)] w (TuP w) := by
  obtain ⟨hn1, hn8⟩ := hn
  unfold InI at hx
  obtain ⟨X, hX⟩ : ∃ X, (if x < 0 then -(x + 1) else x) = X := ⟨_, rfl⟩
  have hX0 : 0 ≤ X ∧ X ≤ 9223372036854775807 := by rw [← hX]; split <;> omega
  obtain ⟨hX0, hX9⟩ := hX0
  have hz : (((n : Nat) : Int) == 0) = false := beqF (by omega)
  have hz2 : ¬ ((n : Nat) : Int) = 0 := by omega
  have hz3 : ¬ ((n : Nat) : Int) = -1 := by omega
  obtain ⟨r2, hr2⟩ : ∃ r, X.tmod 2 = r := ⟨_, rfl⟩
  obtain ⟨d2, hd2⟩ : ∃ r, X.tdiv 2 = r := ⟨_, rfl⟩
  obtain ⟨q, hq⟩ : ∃ r, d2.tmod (n : Int) = r := ⟨_, rfl⟩
  obtain ⟨d64, hd64⟩ : ∃ r, X.tdiv 64 = r := ⟨_, rfl⟩
  obtain ⟨u0, hu0⟩ : ∃ r, d64.tmod 3 = r := ⟨_, rfl⟩
  obtain ⟨d256, hd256⟩ : ∃ r, X.tdiv 256 = r := ⟨_, rfl⟩
  obtain ⟨u1, hu1⟩ : ∃ r, d256.tmod 2 = r := ⟨_, rfl⟩
  obtain ⟨d1k, hd1k⟩ : ∃ r, X.tdiv 1024 = r := ⟨_, rfl⟩
  obtain ⟨r16, hr16⟩ : ∃ r, d1k.tmod 16 = r := ⟨_, rfl⟩
  have b2 : 0 ≤ r2 ∧ r2 < 2 := by rw [← hr2]; exact ⟨Int.tmod_nonneg _ hX0, Int.tmod_lt_of_pos _ (by omega)⟩
  have hd0 : 0 ≤ d2 := by rw [← hd2]; exact Int.tdiv_nonneg hX0 (by omega)
  have bq : 0 ≤ q ∧ q < 8 := by rw [← hq]; exact ⟨Int.tmod_nonneg _ hd0, by have := Int.tmod_lt_of_pos d2 (show (0 : Int) < (n : Int) by omega); omega⟩
  have v2 : IntKind.i64.wrap (1 + r2) = 1 + r2 := IntWalk.i64_in _ (by omega)
  have vq : IntKind.i64.wrap (1 + q) = 1 + q := IntWalk.i64_in _ (by omega)
  have w2 : IntKind.i64.wrap d2 = d2 := IntWalk.i64_in _ (by rw [← hd2, Int.tdiv_eq_ediv_of_nonneg hX0]; omega)
  have w64 : IntKind.i64.wrap d64 = d64 := IntWalk.i64_in _ (by rw [← hd64, Int.tdiv_eq_ediv_of_nonneg hX0]; omega)
  have w256 : IntKind.i64.wrap d256 = d256 := IntWalk.i64_in _ (by rw [← hd256, Int.tdiv_eq_ediv_of_nonneg hX0]; omega)
  have w1k : IntKind.i64.wrap d1k = d1k := IntWalk.i64_in _ (by rw [← hd1k, Int.tdiv_eq_ediv_of_nonneg hX0]; omega)
  have HB := Lib.hid (And.intro b2 bq)
  clear b2 bq hd0
  obtain ⟨kd, hkd⟩ : ∃ kd, (if r16 = 15 then 3 else 1 + r2) = kd := ⟨_, rfl⟩
  have hk3 : 1 ≤ kd ∧ kd ≤ 3 := by rw [← hkd]; have := HB.out; split <;> omega
  have HEND : Hid (∀ K : Int, K = kd → bodyPost Tryz.prog Tryz.f16 (TuP w) Exit.ret = bodyPost Tryz.prog Tryz.f16 (TuP w) Exit.ret) := Lib.hid (fun _ _ => rfl)
  have HK := Lib.hid (And.intro hkd hk3)
  clear hk3 HEND
  by_cases hn : x < 0
  · have hX2 : -(x + 1) = X := by rw [← hX, if_pos hn]
    have va : IntKind.i64.wrap (x + 1) = x + 1 := IntWalk.i64_in _ (by omega)
    have vb : IntKind.i64.wrap X = X := IntWalk.i64_in _ (by omega)
    clear hX hX0 hX9
    by_cases h15 : r16 = 15
    · obtain rfl : 3 = kd := by rw [← hkd, if_pos h15]
      subst h15
      clear hkd
      go_enter Tryz.func16, Tryz.ntmps16
      go_wp2_with fail
      have hsl := two_sl (w.alloc (.cells #[.int .i64 3, .int .i64 (1 + q), .slice (some ⟨w.heap.size + 1, 0, none⟩) 2 2] 35)) u0 u1 (n := w.heap.size + 1) (by simp)
      have t1 : Touch [] w (w.alloc (.cells #[.int .i64 3, .int .i64 (1 + q), .slice (some ⟨w.heap.size + 1, 0, none⟩) 2 2] 35)) := (Touch.refl [] w).alloc _
      have hb1 : Blk (w.alloc (.cells #[.int .i64 3, .int .i64 (1 + q), .slice (some ⟨w.heap.size + 1, 0, none⟩) 2 2] 35)) w.heap.size #[.int .i64 3, .int .i64 (1 + q), .slice (some ⟨w.heap.size + 1, 0, none⟩) 2 2] 35 := Blk.new rfl
      obtain ⟨W1, hW1⟩ : ∃ W, w.alloc (.cells #[.int .i64 3, .int .i64 (1 + q), .slice (some ⟨w.heap.size + 1, 0, none⟩) 2 2] 35) = W := ⟨_, rfl⟩
      rw [hW1] at hsl t1 hb1 ⊢
      have t3 : Touch [] W1 ((W1.alloc (.cells #[.int .i64 u0, .int .i64 u1] 3)).alloc (.cells #[.int .i64 3, .int .i64 (1 + q), .slice (some ⟨w.heap.size + 1, 0, none⟩) 2 2] 35)) := ((Touch.refl [] W1).alloc _).alloc _
      have hsl3 := hsl.alloc (.cells #[.int .i64 3, .int .i64 (1 + q), .slice (some ⟨w.heap.size + 1, 0, none⟩) 2 2] 35)
      have hb3 := hb1.touch t3 (by simp)
      obtain ⟨W3, hW3⟩ : ∃ W, (W1.alloc (.cells #[.int .i64 u0, .int .i64 u1] 3)).alloc (.cells #[.int .i64 3, .int .i64 (1 + q), .slice (some ⟨w.heap.size + 1, 0, none⟩) 2 2] 35) = W := ⟨_, rfl⟩
      rw [hW3] at t3 hsl3 hb3 ⊢
      have q0 := hb3.cell (i := 0) rfl
      have q1 := hb3.cell (i := 1) rfl
      have q2 := hb3.cell (i := 2) rfl
      refine bodyPost_ret (by simp [results, Tryz.results16, go_sem, q0, q1, q2]; try rfl) rfl ?_
      exact ⟨3, 1 + q, u0, u1, w.heap.size + 1, rfl, by omega, t1.trans t3, hsl3, HK.out.2, by have := HB.out; omega⟩
    · obtain rfl : 1 + r2 = kd := by rw [← hkd, if_neg h15]
      have hb15 : (r16 == 15) = false := beqF h15
      clear hkd
      go_enter Tryz.func16, Tryz.ntmps16
      go_wp2_with fail
      have hsl := two_sl (w.alloc (.cells #[.int .i64 (1 + r2), .int .i64 (1 + q), .slice (some ⟨w.heap.size + 1, 0, none⟩) 2 2] 35)) u0 u1 (n := w.heap.size + 1) (by simp)
      have t1 : Touch [] w (w.alloc (.cells #[.int .i64 (1 + r2), .int .i64 (1 + q), .slice (some ⟨w.heap.size + 1, 0, none⟩) 2 2] 35)) := (Touch.refl [] w).alloc _
      have hb1 : Blk (w.alloc (.cells #[.int .i64 (1 + r2), .int .i64 (1 + q), .slice (some ⟨w.heap.size + 1, 0, none⟩) 2 2] 35)) w.heap.size #[.int .i64 (1 + r2), .int .i64 (1 + q), .slice (some ⟨w.heap.size + 1, 0, none⟩) 2 2] 35 := Blk.new rfl
      obtain ⟨W1, hW1⟩ : ∃ W, w.alloc (.cells #[.int .i64 (1 + r2), .int .i64 (1 + q), .slice (some ⟨w.heap.size + 1, 0, none⟩) 2 2] 35) = W := ⟨_, rfl⟩
      rw [hW1] at hsl t1 hb1 ⊢
      have t3 : Touch [] W1 ((W1.alloc (.cells #[.int .i64 u0, .int .i64 u1] 3)).alloc (.cells #[.int .i64 (1 + r2), .int .i64 (1 + q), .slice (some ⟨w.heap.size + 1, 0, none⟩) 2 2] 35)) := ((Touch.refl [] W1).alloc _).alloc _
      have hsl3 := hsl.alloc (.cells #[.int .i64 (1 + r2), .int .i64 (1 + q), .slice (some ⟨w.heap.size + 1, 0, none⟩) 2 2] 35)
      have hb3 := hb1.touch t3 (by simp)
      obtain ⟨W3, hW3⟩ : ∃ W, (W1.alloc (.cells #[.int .i64 u0, .int .i64 u1] 3)).alloc (.cells #[.int .i64 (1 + r2), .int .i64 (1 + q), .slice (some ⟨w.heap.size + 1, 0, none⟩) 2 2] 35) = W := ⟨_, rfl⟩
      rw [hW3] at t3 hsl3 hb3 ⊢
      have q0 := hb3.cell (i := 0) rfl
      have q1 := hb3.cell (i := 1) rfl
      have q2 := hb3.cell (i := 2) rfl
      refine bodyPost_ret (by simp [results, Tryz.results16, go_sem, q0, q1, q2]; try rfl) rfl ?_
      exact ⟨(1 + r2), 1 + q, u0, u1, w.heap.size + 1, rfl, by omega, t1.trans t3, hsl3, HK.out.2, by have := HB.out; omega⟩
  · have hX2 : x = X := by rw [← hX, if_neg hn]
    subst hX2
    clear hX hX0 hX9
    by_cases h15 : r16 = 15
    · obtain rfl : 3 = kd := by rw [← hkd, if_pos h15]
      subst h15
      clear hkd
      go_enter Tryz.func16, Tryz.ntmps16
      go_wp2_with fail
      have hsl := two_sl (w.alloc (.cells #[.int .i64 3, .int .i64 (1 + q), .slice (some ⟨w.heap.size + 1, 0, none⟩) 2 2] 35)) u0 u1 (n := w.heap.size + 1) (by simp)
      have t1 : Touch [] w (w.alloc (.cells #[.int .i64 3, .int .i64 (1 + q), .slice (some ⟨w.heap.size + 1, 0, none⟩) 2 2] 35)) := (Touch.refl [] w).alloc _
      have hb1 : Blk (w.alloc (.cells #[.int .i64 3, .int .i64 (1 + q), .slice (some ⟨w.heap.size + 1, 0, none⟩) 2 2] 35)) w.heap.size #[.int .i64 3, .int .i64 (1 + q), .slice (some ⟨w.heap.size + 1, 0, none⟩) 2 2] 35 := Blk.new rfl
      obtain ⟨W1, hW1⟩ : ∃ W, w.alloc (.cells #[.int .i64 3, .int .i64 (1 + q), .slice (some ⟨w.heap.size + 1, 0, none⟩) 2 2] 35) = W := ⟨_, rfl⟩
      rw [hW1] at hsl t1 hb1 ⊢
      have t3 : Touch [] W1 ((W1.alloc (.cells #[.int .i64 u0, .int .i64 u1] 3)).alloc (.cells #[.int .i64 3, .int .i64 (1 + q), .slice (some ⟨w.heap.size + 1, 0, none⟩) 2 2] 35)) := ((Touch.refl [] W1).alloc _).alloc _
      have hsl3 := hsl.alloc (.cells #[.int .i64 3, .int .i64 (1 + q), .slice (some ⟨w.heap.size + 1, 0, none⟩) 2 2] 35)
      have hb3 := hb1.touch t3 (by simp)
      obtain ⟨W3, hW3⟩ : ∃ W, (W1.alloc (.cells #[.int .i64 u0, .int .i64 u1] 3)).alloc (.cells #[.int .i64 3, .int .i64 (1 + q), .slice (some ⟨w.heap.size + 1, 0, none⟩) 2 2] 35) = W := ⟨_, rfl⟩
      rw [hW3] at t3 hsl3 hb3 ⊢
      have q0 := hb3.cell (i := 0) rfl
      have q1 := hb3.cell (i := 1) rfl
      have q2 := hb3.cell (i := 2) rfl
      refine bodyPost_ret (by simp [results, Tryz.results16, go_sem, q0, q1, q2]; try rfl) rfl ?_
      exact ⟨3, 1 + q, u0, u1, w.heap.size + 1, rfl, by omega, t1.trans t3, hsl3, HK.out.2, by have := HB.out; omega⟩
    · obtain rfl : 1 + r2 = kd := by rw [← hkd, if_neg h15]
      have hb15 : (r16 == 15) = false := beqF h15
      clear hkd
      go_enter Tryz.func16, Tryz.ntmps16
      go_wp2_with fail
      have hsl := two_sl (w.alloc (.cells #[.int .i64 (1 + r2), .int .i64 (1 + q), .slice (some ⟨w.heap.size + 1, 0, none⟩) 2 2] 35)) u0 u1 (n := w.heap.size + 1) (by simp)
      have t1 : Touch [] w (w.alloc (.cells #[.int .i64 (1 + r2), .int .i64 (1 + q), .slice (some ⟨w.heap.size + 1, 0, none⟩) 2 2] 35)) := (Touch.refl [] w).alloc _
      have hb1 : Blk (w.alloc (.cells #[.int .i64 (1 + r2), .int .i64 (1 + q), .slice (some ⟨w.heap.size + 1, 0, none⟩) 2 2] 35)) w.heap.size #[.int .i64 (1 + r2), .int .i64 (1 + q), .slice (some ⟨w.heap.size + 1, 0, none⟩) 2 2] 35 := Blk.new rfl
      obtain ⟨W1, hW1⟩ : ∃ W, w.alloc (.cells #[.int .i64 (1 + r2), .int .i64 (1 + q), .slice (some ⟨w.heap.size + 1, 0, none⟩) 2 2] 35) = W := ⟨_, rfl⟩
      rw [hW1] at hsl t1 hb1 ⊢
      have t3 : Touch [] W1 ((W1.alloc (.cells #[.int .i64 u0, .int .i64 u1] 3)).alloc (.cells #[.int .i64 (1 + r2), .int .i64 (1 + q), .slice (some ⟨w.heap.size + 1, 0, none⟩) 2 2] 35)) := ((Touch.refl [] W1).alloc _).alloc _
      have hsl3 := hsl.alloc (.cells #[.int .i64 (1 + r2), .int .i64 (1 + q), .slice (some ⟨w.heap.size + 1, 0, none⟩) 2 2] 35)
      have hb3 := hb1.touch t3 (by simp)
      obtain ⟨W3, hW3⟩ : ∃ W, (W1.alloc (.cells #[.int .i64 u0, .int .i64 u1] 3)).alloc (.cells #[.int .i64 (1 + r2), .int .i64 (1 + q), .slice (some ⟨w.heap.size + 1, 0, none⟩) 2 2] 35) = W := ⟨_, rfl⟩
      rw [hW3] at t3 hsl3 hb3 ⊢
      have q0 := hb3.cell (i := 0) rfl
      have q1 := hb3.cell (i := 1) rfl
      have q2 := hb3.cell (i := 2) rfl
      refine bodyPost_ret (by simp [results, Tryz.results16, go_sem, q0, q1, q2]; try rfl) rfl ?_
      exact ⟨(1 + r2), 1 + q, u0, u1, w.heap.size + 1, rfl, by omega, t1.trans t3, hsl3, HK.out.2, by have := HB.out; omega⟩
structure Tm (w0 w : World) (a b : Nat) (mA mB : Am) : Prop where
  h : ∃ FA FB r, TwR w FA FB a b mA mB r ∧ (∀ k, k ∈ FA → w0.heap.size ≤ k) ∧ ∀ k, k ∈ FB → w0.heap.size ≤ k
  t : Touch [] w0 w
theorem Ts.wider {w0 w1 w : World} {a b : Nat} {m : Am} (h : Ts w1 w a b m) (ht : Touch [] w0 w1) : Ts w0 w a b m := by
  obtain ⟨FA, FB, r, h1, h2, h3⟩ := h.h
  have hs := ht.size
  exact ⟨⟨FA, FB, r, h1, fun k hk => by have := h2 k hk; omega, fun k hk => by have := h3 k hk; omega⟩, ht.trans h.t⟩
/-- A process comes in on both sides: behind the first call the second one. -/
def Ad1 (w0 : World) (a b : Nat) (m : Am) (q : Int) (u : List Int) (v : Value) (e : Ending) (w' : World) : Prop :=
  e = .returned (.int .i64 (m.cAdmit q u).2) ∧ Calls Tryz.prog 44 #[.pointer (some ⟨b, 0, none⟩), .int .i64 q, v] w' fun e w'' => e = .returned (.int .i64 (m.cAdmit q u).2) ∧ Ts w0 w'' a b (m.cAdmit q u).1
theorem admits {w0 w w1 : World} {a b : Nat} {m : Am} (q : Int) (v : Value) (u : List Int) (h : Ts w0 w a b m) (ht : Touch [] w w1) (hqi : InI q) (hu : Sl w1 v u) (hul : u.length ≤ 1000) (hv : ∀ k, v.ownBlock = some k → k < w0.heap.size ∨ w.heap.size ≤ k) :
    Calls Tryz.prog 34 #[.pointer (some ⟨a, 0, none⟩), .int .i64 q, v] w1 (Ad1 w0 a b m q u v) := by
  obtain ⟨FA, FB, r, h1, h2, h3⟩ := h.h
  have hl1 := h1.A.lt
  have hl2 := h1.B.lt
  have s1 := h.t.size
  have s2 := ht.size
  have h1' := h1.same ht
  have ok := h1.A.1
  refine (admit_any w1 FA a m q v u h1'.A hqi hu).mono ?_
  rintro e w2 ⟨he, FA', hf, hp⟩
  have h2' := h1'.stepA hf hp
  have s3 := hf.t.size
  have hvA : ∀ k, v.ownBlock = some k → k ∉ FA := fun k hk hm => by
    rcases hv k hk with e | e
    · have := h2 k hm; omega
    · have := hl1 k hm; omega
  have hvB : ∀ k, v.ownBlock = some k → k ∉ FB := fun k hk hm => by
    rcases hv k hk with e | e
    · have := h3 k hm; omega
    · have := hl2 k hm; omega
  refine ⟨he, (radmit_m w2 FB b m r q v u h2'.B ok hqi (hu.touch hf.t hvA) hul (fun _ => hvB)).mono ?_⟩
  rintro e2 w3 ⟨he2, FB', r', hf2, hr2⟩
  refine ⟨he2, ⟨FA', FB', r', h2'.stepB hf2 hr2, fun k hk => ?_, fun k hk => ?_⟩, ((h.t.trans ht).transF hf.t (fun k hk hl => by have := h2 k hk; omega)).transF hf2.t (fun k hk hl => by have := h3 k hk; omega)⟩
  · rcases hf.g k hk with e | e
    · exact h2 k e
    · omega
  · rcases hf2.g k hk with e | e
    · exact h3 k e
    · omega
def adms (l : List (Int × List Int)) (m : Am) : Am := l.foldl (fun m x => (m.cAdmit x.1 x.2).1) m
theorem adms_snoc (l : List (Int × List Int)) (x : Int × List Int) (m : Am) : adms (l ++ [x]) m = ((adms l m).cAdmit x.1 x.2).1 := by unfold adms; rw [List.foldl_append]; rfl
def MdP (w : World) (clm : Bool) (e : Ending) (w' : World) : Prop := ∃ a b T0 T1 l, e = .returned (.tuple #[.pointer (some ⟨a, 0, none⟩), .pointer (some ⟨b, 0, none⟩)]) ∧ newB [T0, T1] = true ∧ Ts w w' a b (adms l (Am.new [T0, T1] clm)) ∧ ∀ x, x ∈ l → x.1 ≤ 100
set_option maxRecDepth 100000 in
set_option maxHeartbeats 8000000 in
theorem made_any (w : World) (clm : Bool) (n : Nat) (vl : Value) (ls : List Int) (h : Sl w vl ls) (hl : ls.length ≤ 1000) (hn : n ≤ 8) : Calls Tryz.prog 15 #[.bool clm, .int .i64 (n : Int), vl] w (MdP w clm) := by
  obtain ⟨la, lc, rfl⟩ := h.form
  obtain ⟨L, hL⟩ : ∃ L, ls.length = L := ⟨_, rfl⟩
  have HL := Lib.hid hL
  have HS := Lib.hid h
  rw [hL] at HS hl ⊢
  obtain ⟨p, hp⟩ : ∃ x, atV ls 0 4 = x := ⟨_, rfl⟩
  obtain ⟨q, hq⟩ : ∃ x, atV ls 1 3 = x := ⟨_, rfl⟩
  have hp4 : 0 ≤ p ∧ p < 4 := by rw [← hp]; exact atV_in (by omega)
  have hq3 : 0 ≤ q ∧ q < 3 := by rw [← hq]; exact atV_in (by omega)
  have HC1 : Hid (Calls Tryz.prog 49 #[.slice la L lc, .int .i64 0, .int .i64 4] w fun e w'' => e = .returned (.int .i64 p) ∧ Touch [] w w'') := Lib.hid (at_any (.slice la L lc) ls 0 4 p w HS.out (by rw [HL.out]; exact hl) (by omega) (by omega) hp)
  have HC2 : Hid (∀ w', Touch [] w w' → Calls Tryz.prog 49 #[.slice la L lc, .int .i64 1, .int .i64 3] w' fun e w'' => e = .returned (.int .i64 q) ∧ Touch [] w' w'') := Lib.hid (fun w' ht => at_any (.slice la L lc) ls 1 3 q w' (HS.out.touch ht (fun _ _ => by simp)) (by rw [HL.out]; exact hl) (by omega) (by omega) hq)
  have HAT : Hid (∀ w' (k : Nat) (most x : Int), Touch [] w w' → k ≤ 1000 → 0 < most ∧ most ≤ 1000000 → atV ls k most = x → Calls Tryz.prog 49 #[.slice la L lc, .int .i64 (k : Int), .int .i64 most] w' fun e w'' => e = .returned (.int .i64 x) ∧ Touch [] w' w'') := Lib.hid (fun w' k most x ht h1 h2 h3 => at_any (.slice la L lc) ls k most x w' (HS.out.touch ht (fun _ _ => by simp)) (by rw [HL.out]; exact hl) h1 h2 h3)
  obtain ⟨T0, hT0⟩ : ∃ x, 1 + p = x := ⟨_, rfl⟩
  obtain ⟨T1, hT1⟩ : ∃ x, 1 + q = x := ⟨_, rfl⟩
  have hw0 : IntKind.i64.wrap T0 = T0 := IntWalk.i64_in _ (by omega)
  have hw1 : IntKind.i64.wrap T1 = T1 := IntWalk.i64_in _ (by omega)
  have ht0 : 1 ≤ T0 ∧ T0 ≤ 4 := by omega
  have ht1 : 1 ≤ T1 ∧ T1 ≤ 3 := by omega
  have HT01 := Lib.hid (And.intro ht0 ht1)
  have HNB : Hid (newB [T0, T1] = true) := Lib.hid (newB_iff.2 ⟨by simp, fun k hk => by
    have hk : k < 2 := hk
    have : k = 0 ∨ k = 1 := by omega
    rcases this with rfl | rfl
    · show 1 ≤ T0 ∧ T0 ≤ 1000; omega
    · show 1 ≤ T1 ∧ T1 ≤ 1000; omega⟩)
  clear h hL hp hq hp4 hq3 ht0 ht1
  go_enter Tryz.func15, Tryz.ntmps15
  go_wp2_with fail
  refine HC1.out.mono ?_
  rintro e w1 ⟨rfl, t1⟩
  have HT1 := Lib.hid t1
  clear t1
  go_wp2_with fail
  refine (HC2.out _ HT1.out).mono ?_
  rintro e w2 ⟨rfl, t2⟩
  have t3 := (HT1.out.trans t2).alloc (.cells #[.int .i64 T0, .int .i64 T1] 3)
  obtain ⟨g, hg⟩ : ∃ g, w2.heap.size = g := ⟨_, rfl⟩
  have hsl := two_sl w2 T0 T1 hg.symm
  obtain ⟨W, hW⟩ : ∃ W, w2.alloc (.cells #[.int .i64 T0, .int .i64 T1] 3) = W := ⟨_, rfl⟩
  rw [hW] at t3 hsl
  have HTW := Lib.hid t3
  have HSL := Lib.hid hsl
  have HC := Lib.hid (new_any W _ [T0, T1] clm hsl (by simp))
  clear t2 t3 hsl HC1 HC2
  go_wp2_with fail
  clear hW
  refine HC.out.mono ?_
  rintro e w3 hn1
  have HN1 := Lib.hid hn1
  have HC2 := Lib.hid (rnew_any w3 (.slice (some ⟨g, 0, none⟩) 2 2) [T0, T1] clm (HSL.out.touch hn1.1 (fun _ _ => by simp)) (by simp))
  obtain ⟨a, rfl⟩ : ∃ a, e = .returned (.tuple #[.pointer (some ⟨a, 0, none⟩), .int .i64 0]) := by
    rcases hn1.2 with ⟨hb, _⟩ | ⟨_, a, F, he, _⟩
    · rw [HNB.out] at hb; cases hb
    · exact ⟨a, he⟩
  clear hn1 HC
  go_wp2_with fail
  refine HC2.out.mono ?_
  rintro e w4 hn2
  rcases new_two HN1.out hn2 with ⟨hb, _⟩ | ⟨_, a', b, hea, rfl, hts⟩
  · rw [HNB.out] at hb; cases hb
  · cases hea
    have HTS := Lib.hid hts
    clear hts hn2 HC2 HN1 hg
    have ea := eql_pA ⟨a, 0, none⟩
    go_wp2_with fail
    go_loopw [13] (fun iv wr => ∃ (i : Nat) (l : List (Int × List Int)), 1 ≤ i ∧ i ≤ n + 1 ∧ iv = .int .i64 (i : Int) ∧ Ts W wr a b (adms l (Am.new [T0, T1] clm)) ∧ ∀ x, x ∈ l → x.1 ≤ 100) (fun iv _ => n + 2 - (intOf iv).toNat)
    case atStart => exact ⟨1, [], by omega, by omega, rfl, HTS.out, fun x hx => by cases hx⟩
    case round =>
      clear HTS
      obtain ⟨i, l, hi1, hi, rfl, hts, hlq⟩ := hrel
      have HTS := Lib.hid hts
      have HLQ := Lib.hid hlq
      clear hts hlq
      by_cases hk : (i : Int) ≤ (n : Int)
      · have hi8 : i ≤ 8 := by omega
        have hkn : ¬ (n : Int) < (i : Int) := by omega
        obtain ⟨m, hm⟩ : ∃ m, adms l (Am.new [T0, T1] clm) = m := ⟨_, rfl⟩
        have HM := Lib.hid hm
        rw [hm] at HTS
        obtain ⟨c0, hc0⟩ : ∃ x, atV ls (2 * i) (T0 + 1) = x := ⟨_, rfl⟩
        obtain ⟨c1, hc1⟩ : ∃ x, atV ls (2 * i + 1) (T1 + 1) = x := ⟨_, rfl⟩
        have HA1 : Hid (∀ w', Touch [] wr w' → Calls Tryz.prog 49 #[.slice la L lc, .int .i64 (2 * (i : Int)), .int .i64 (T0 + 1)] w' fun e w'' => e = .returned (.int .i64 c0) ∧ Touch [] w' w'') := Lib.hid (fun w' ht => by
          have := HAT.out w' (2 * i) (T0 + 1) c0 (HTW.out.trans (HTS.out.t.trans ht)) (by omega) (by have := HT01.out; omega) hc0
          rwa [show ((2 * i : Nat) : Int) = 2 * (i : Int) from by omega] at this)
        have HA2 : Hid (∀ w', Touch [] wr w' → Calls Tryz.prog 49 #[.slice la L lc, .int .i64 (2 * (i : Int) + 1), .int .i64 (T1 + 1)] w' fun e w'' => e = .returned (.int .i64 c1) ∧ Touch [] w' w'') := Lib.hid (fun w' ht => by
          have := HAT.out w' (2 * i + 1) (T1 + 1) c1 (HTW.out.trans (HTS.out.t.trans ht)) (by omega) (by have := HT01.out; omega) hc1
          rwa [show ((2 * i + 1 : Nat) : Int) = 2 * (i : Int) + 1 from by omega] at this)
        have hwa : IntKind.i64.wrap (2 * (i : Int)) = 2 * (i : Int) := IntWalk.i64_in _ (by omega)
        have hwb : IntKind.i64.wrap (2 * (i : Int) + 1) = 2 * (i : Int) + 1 := IntWalk.i64_in _ (by omega)
        have hwc : IntKind.i64.wrap (T0 + 1) = T0 + 1 := IntWalk.i64_in _ (by have := HT01.out; omega)
        have hwd : IntKind.i64.wrap (T1 + 1) = T1 + 1 := IntWalk.i64_in _ (by have := HT01.out; omega)
        have HX : Hid (∀ w', Touch [] wr w' → w'.cell? ⟨g, 0, none⟩ = some (.int .i64 T0) ∧ w'.cell? ⟨g, 1, none⟩ = some (.int .i64 T1)) := Lib.hid (fun w' ht => by
          obtain ⟨g', o', hg', x0⟩ := HSL.out.ix (q := 0) (by simp)
          cases hg'
          obtain ⟨g', o', hg', x1⟩ := HSL.out.ix (q := 1) (by simp)
          cases hg'
          exact ⟨x0 w' (HTS.out.t.trans ht), x1 w' (HTS.out.t.trans ht)⟩)
        have HT := Lib.hid ((Touch.refl [] wr).drew)
        clear hc0 hc1 hm
        go_upto_region 7 with fail
        refine wp_region_till (fun _ => True) (fun w' => Touch [] wr w') [] (by kernel_rfl) ?_
        obtain ⟨wk, hwk⟩ : ∃ w', World.drew wr = w' := ⟨_, rfl⟩
        rw [hwk] at HT ⊢
        clear hwk
        obtain ⟨nk, hsz⟩ : ∃ n, wk.heap.size = n := ⟨_, rfl⟩
        refine wpTill.takeT (i := 0) (v := ?v1) (some 39) rfl rfl (by kernel_rfl) (fun _ _ _ h => h) (Or.inl ⟨by rfl, ?hy1⟩) ⟨trivial, HT.out⟩ ?rest1
        case hy1 => (intro w hSw; obtain ⟨q1, q2⟩ := HX.out w hSw; go_simp; try with_reducible rfl)
        simp only [Act.put, List.setIfInBounds_toArray, List.set_cons_zero, List.set_cons_succ]
        refine wpTill.takeT (i := 1) (v := ?v2) (some 40) rfl rfl (by kernel_rfl) (fun _ _ _ h => h) (Or.inl ⟨by rfl, ?hy2⟩) ⟨trivial, HT.out⟩ ?rest2
        case hy2 => (intro w hSw; obtain ⟨q1, q2⟩ := HX.out w hSw; go_simp; try with_reducible rfl)
        simp only [Act.put, List.setIfInBounds_toArray, List.set_cons_zero, List.set_cons_succ]
        refine wpTill.takeT (i := 2) (v := ?v3) (some 41) rfl rfl (by kernel_rfl) (fun _ _ _ h => h) (Or.inl ⟨by rfl, ?hy3⟩) ⟨trivial, HT.out⟩ ?rest3
        case hy3 => (intro w hSw; obtain ⟨q1, q2⟩ := HX.out w hSw; go_simp; try with_reducible rfl)
        simp only [Act.put, List.setIfInBounds_toArray, List.set_cons_zero, List.set_cons_succ]
        refine wpTill.takeT (i := 3) (v := ?v4) (some 42) rfl rfl (by kernel_rfl) (fun _ _ _ h => h) (Or.inl ⟨by rfl, ?hy4⟩) ⟨trivial, HT.out⟩ ?rest4
        case hy4 => (intro w hSw; obtain ⟨q1, q2⟩ := HX.out w hSw; go_simp; try with_reducible rfl)
        simp only [Act.put, List.setIfInBounds_toArray, List.set_cons_zero, List.set_cons_succ]
        refine wpTill.takeT (i := 4) (v := ?v5) (some 43) rfl rfl (by kernel_rfl) (fun _ _ _ h => h) (Or.inl ⟨by rfl, ?hy5⟩) ⟨trivial, HT.out⟩ ?rest5
        case hy5 => (intro w hSw; obtain ⟨q1, q2⟩ := HX.out w hSw; go_simp; try with_reducible rfl)
        simp only [Act.put, List.setIfInBounds_toArray, List.set_cons_zero, List.set_cons_succ]
        refine wpTill.takeT (i := 5) (v := ?v6) (some 44) rfl rfl (by kernel_rfl) (fun _ _ _ h => h) (Or.inl ⟨by rfl, ?hy6⟩) ⟨trivial, HT.out⟩ ?rest6
        case hy6 => (intro w hSw; obtain ⟨q1, q2⟩ := HX.out w hSw; go_simp; try with_reducible rfl)
        simp only [Act.put, List.setIfInBounds_toArray, List.set_cons_zero, List.set_cons_succ]
        refine wpTill.takeT (i := 6) (v := ?v7) (some 45) rfl rfl (by kernel_rfl) (fun _ _ _ h => h) (Or.inl ⟨by rfl, ?hy7⟩) ⟨trivial, HT.out⟩ ?rest7
        case hy7 => (intro w hSw; obtain ⟨q1, q2⟩ := HX.out w hSw; go_simp; try with_reducible rfl)
        simp only [Act.put, List.setIfInBounds_toArray, List.set_cons_zero, List.set_cons_succ]
        refine wpTill.takeT (i := 8) (v := ?v8) (some 47) rfl rfl (by kernel_rfl) (fun _ _ _ h => h) (Or.inl ⟨by rfl, ?hy8⟩) ⟨trivial, HT.out⟩ ?rest8
        case hy8 => (intro w hSw; obtain ⟨q1, q2⟩ := HX.out w hSw; go_simp; try with_reducible rfl)
        simp only [Act.put, List.setIfInBounds_toArray, List.set_cons_zero, List.set_cons_succ]
        refine wpTill.takeT (i := 9) (v := ?v9) (some 48) rfl rfl (by kernel_rfl) (fun _ _ _ h => h) (Or.inl ⟨by rfl, ?hy9⟩) ⟨trivial, HT.out⟩ ?rest9
        case hy9 => (intro w hSw; obtain ⟨q1, q2⟩ := HX.out w hSw; go_simp; try with_reducible rfl)
        simp only [Act.put, List.setIfInBounds_toArray, List.set_cons_zero, List.set_cons_succ]
        refine wpTill.takeT (i := 10) (v := ?v10) (some 49) rfl rfl (by kernel_rfl) (fun _ _ _ h => h) (Or.inl ⟨by rfl, ?hy10⟩) ⟨trivial, HT.out⟩ ?rest10
        case hy10 => (intro w hSw; obtain ⟨q1, q2⟩ := HX.out w hSw; go_simp; try with_reducible rfl)
        simp only [Act.put, List.setIfInBounds_toArray, List.set_cons_zero, List.set_cons_succ]
        refine wpTill.takeT (i := 11) (v := ?v11) (some 50) rfl rfl (by kernel_rfl) (fun _ _ _ h => h) (Or.inl ⟨by rfl, ?hy11⟩) ⟨trivial, HT.out⟩ ?rest11
        case hy11 => (intro w hSw; obtain ⟨q1, q2⟩ := HX.out w hSw; go_simp; try with_reducible rfl)
        simp only [Act.put, List.setIfInBounds_toArray, List.set_cons_zero, List.set_cons_succ]
        refine wpTill.takeT (i := 12) (v := ?v12) (some 51) rfl rfl (by kernel_rfl) (fun _ _ _ h => h) (Or.inl ⟨by rfl, ?hy12⟩) ⟨trivial, HT.out⟩ ?rest12
        case hy12 => (intro w hSw; obtain ⟨q1, q2⟩ := HX.out w hSw; go_simp; try with_reducible rfl)
        simp only [Act.put, List.setIfInBounds_toArray, List.set_cons_zero, List.set_cons_succ]
        refine wpTill.takeT (i := 13) (v := ?v13) (some 52) rfl rfl (by kernel_rfl) (fun _ _ _ h => h) (Or.inl ⟨by rfl, ?hy13⟩) ⟨trivial, HT.out⟩ ?rest13
        case hy13 => (intro w hSw; obtain ⟨q1, q2⟩ := HX.out w hSw; go_simp; try with_reducible rfl)
        simp only [Act.put, List.setIfInBounds_toArray, List.set_cons_zero, List.set_cons_succ]
        refine wpTill.takeT (i := 14) (v := ?v14) (some 53) rfl rfl (by kernel_rfl) (fun _ _ _ h => h) (Or.inl ⟨by rfl, ?hy14⟩) ⟨trivial, HT.out⟩ ?rest14
        case hy14 => (intro w hSw; obtain ⟨q1, q2⟩ := HX.out w hSw; go_simp; try with_reducible rfl)
        simp only [Act.put, List.setIfInBounds_toArray, List.set_cons_zero, List.set_cons_succ]
        refine wpTill.takeT (i := 15) (v := ?v15) (some 54) rfl rfl (by kernel_rfl) (fun _ _ _ h => h) (Or.inl ⟨by rfl, ?hy15⟩) ⟨trivial, HT.out⟩ ?rest15
        case hy15 => (intro w hSw; obtain ⟨q1, q2⟩ := HX.out w hSw; go_simp; try with_reducible rfl)
        simp only [Act.put, List.setIfInBounds_toArray, List.set_cons_zero, List.set_cons_succ]
        refine wpTill.ready (rs := [7]) (by kernel_rfl) (by simp) ?_
        refine AllTill.cons (i := 7) (rs := []) (by rfl) (fun K hK => ?_) ?_
        · go_simp
          go_at_call 49
          refine (HA1.out _ HT.out).mono ?_
          rintro e wk ⟨rfl, ht7⟩
          clear hsz
          have HT := Lib.hid (HT.out.trans ht7)
          clear ht7
          obtain ⟨nk, hsz⟩ : ∃ n, wk.heap.size = n := ⟨_, rfl⟩
          simp only [Act.put, List.setIfInBounds_toArray, List.set_cons_zero, List.set_cons_succ]
          refine hK.out _ _ trivial (fun _ => HT.out) ?_
          clear hK K
          refine wpTill.ready (rs := [16]) (by kernel_rfl) (by simp) ?_
          refine AllTill.cons (i := 16) (rs := []) (by rfl) (fun K hK => ?_) ?_
          · go_simp
            go_at_call 49
            refine (HA2.out _ HT.out).mono ?_
            rintro e wk ⟨rfl, ht7⟩
            clear hsz
            have HT := Lib.hid (HT.out.trans ht7)
            clear ht7
            obtain ⟨nk, hsz⟩ : ∃ n, wk.heap.size = n := ⟨_, rfl⟩
            simp only [Act.put, List.setIfInBounds_toArray, List.set_cons_zero, List.set_cons_succ]
            refine hK.out _ _ trivial (fun _ => HT.out) ?_
            clear hK K
            refine wpTill.ready (rs := [17]) (by kernel_rfl) (by simp) ?_
            refine AllTill.cons (i := 17) (rs := []) (by rfl) (fun K hK => ?_) ?_
            · go_simp
              have hs2 := two_sl wk c0 c1 hsz.symm
              have ht2 := HT.out.alloc (.cells #[.int .i64 c0, .int .i64 c1] 3)
              have hle : wr.heap.size ≤ nk := by have := HT.out.size; omega
              have HLE := Lib.hid hle
              clear hsz hle
              obtain ⟨n0, hn0⟩ : ∃ n0, nk = n0 := ⟨_, rfl⟩
              obtain ⟨wk, hwk⟩ : ∃ w', wk.alloc (.cells #[.int .i64 c0, .int .i64 c1] 3) = w' := ⟨_, rfl⟩
              rw [hwk] at hs2 ht2 ⊢
              rw [hn0] at hs2 HLE ⊢
              clear hwk hn0
              have HS2 := Lib.hid hs2
              have HT := Lib.hid ht2
              clear hs2 ht2
              obtain ⟨nk, hsz⟩ : ∃ n, wk.heap.size = n := ⟨_, rfl⟩
              refine hK.out _ _ trivial (fun _ => HT.out) ?_
              clear hK K
              refine wpTill.takeT (i := 18) (v := ?v16) (some 14) rfl rfl (by kernel_rfl) (fun _ _ _ h => h) (Or.inl ⟨by rfl, ?hy16⟩) ⟨trivial, HT.out⟩ ?rest16
              case hy16 => (intro w hSw; obtain ⟨q1, q2⟩ := HX.out w hSw; go_simp; try with_reducible rfl)
              simp only [Act.put, List.setIfInBounds_toArray, List.set_cons_zero, List.set_cons_succ]
              refine wpTill.done (by kernel_rfl) ?_ _
              have HAD := Lib.hid (admits (i : Int) (.slice (some ⟨n0, 0, none⟩) 2 2) [c0, c1] HTS.out HT.out (by unfold InI; omega) HS2.out (by simp) (fun k hk => by simp [Value.ownBlock] at hk; have := HLE.out; omega))
              clear hsz
              go_wp2_with fail
              refine HAD.out.mono ?_
              rintro e w7 ⟨rfl, hc⟩
              have HC := Lib.hid hc
              obtain ⟨X, hX⟩ : ∃ X, (m.cAdmit (i : Int) [c0, c1]).2 = X := ⟨_, rfl⟩
              rw [hX] at HC ⊢
              clear hc hX
              go_wp2_with fail
              refine HC.out.mono ?_
              rintro e w8 ⟨rfl, hts⟩
              have HF : Hid (Ts W w8 a b (adms (l ++ [((i : Int), [c0, c1])]) (Am.new [T0, T1] clm))) := Lib.hid (by rw [adms_snoc, HM.out]; exact hts)
              have HLQ9 : Hid (∀ x, x ∈ l ++ [((i : Int), [c0, c1])] → x.1 ≤ 100) := Lib.hid (fun x hx => by
                rcases List.mem_append.1 hx with e | e
                · exact HLQ.out x e
                · simp at e; rw [e]; show (i : Int) ≤ 100; omega)
              clear hts
              go_wp2_with fail
              go_roundw
              case rel => exact ⟨i + 1, _, by omega, by omega, by go_num, HF.out, HLQ9.out⟩
              case measure => simp [intOf]; omega
            exact AllTill.nil
          exact AllTill.nil
        exact AllTill.nil
      · have hkn : (n : Int) < (i : Int) := by omega
        have HF : Hid (MdP w clm (.returned (.tuple #[.pointer (some ⟨a, 0, none⟩), .pointer (some ⟨b, 0, none⟩)])) wr) := Lib.hid ⟨a, b, T0, T1, l, rfl, HNB.out, HTS.out.wider HTW.out, HLQ.out⟩
        go_wp2_with fail
        go_ret2
        exact HF.out
end Go.Proofs.YticglfmmjgnicaaGreat

set_option linter.unusedVariables false
namespace Go.Proofs.YticglfmmjgnicaaGreat
open Go Go.RowKit

theorem scan_keep (m : Am) : m.scan.1.tot = m.tot ∧ m.scan.1.clm = m.clm := by
  have h := Am.scanF_keep m.pend m [] []
  exact ⟨h.1, h.2.1⟩
theorem admit_keep (m : Am) (q : Int) (u : List Int) : (m.cAdmit q u).1.tot = m.tot ∧ (m.cAdmit q u).1.clm = m.clm := by
  unfold Am.cAdmit
  split; exact ⟨rfl, rfl⟩
  split; exact ⟨rfl, rfl⟩
  split; exact ⟨rfl, rfl⟩
  split; exact ⟨rfl, rfl⟩
  exact ⟨rfl, rfl⟩
theorem ask_keep (m : Am) (q : Int) (u : List Int) : (m.cAsk q u).1.tot = m.tot ∧ (m.cAsk q u).1.clm = m.clm := by
  unfold Am.cAsk
  split; exact ⟨rfl, rfl⟩
  split; exact ⟨rfl, rfl⟩
  split; exact ⟨rfl, rfl⟩
  split; exact ⟨rfl, rfl⟩
  exact scan_keep (m.wait q u)
theorem give_keep (m : Am) (q : Int) (u : List Int) : (m.cGive q u).1.tot = m.tot ∧ (m.cGive q u).1.clm = m.clm := by
  unfold Am.cGive
  split; exact ⟨rfl, rfl⟩
  split; exact ⟨rfl, rfl⟩
  split; exact ⟨rfl, rfl⟩
  exact scan_keep (m.back q u)
theorem leave_keep (m : Am) (q : Int) : (m.cLeave q).1.tot = m.tot ∧ (m.cLeave q).1.clm = m.clm := by
  unfold Am.cLeave
  split; exact ⟨rfl, rfl⟩
  exact scan_keep (m.quit q)
theorem step_keep (m : Am) (k q : Int) (u : List Int) : (m.step k q u).tot = m.tot ∧ (m.step k q u).clm = m.clm := by
  unfold Am.step
  split; exact admit_keep m q u
  split; exact ask_keep m q u
  split; exact give_keep m q u
  exact leave_keep m q
theorem adms_keep : ∀ (l : List (Int × List Int)) (m : Am), (adms l m).tot = m.tot ∧ (adms l m).clm = m.clm
  | [], m => ⟨rfl, rfl⟩
  | x :: l, m => by
    have h := adms_keep l (m.cAdmit x.1 x.2).1
    have k := admit_keep m x.1 x.2
    exact ⟨h.1.trans k.1, h.2.trans k.2⟩
end Go.Proofs.YticglfmmjgnicaaGreat

set_option linter.unusedVariables false
namespace Go.Proofs.YticglfmmjgnicaaGreat
open Go.RowKit

/-- In this order all can complete: what one has claimed, and what those behind it hold, is there. -/
def SafeO (tot : List Int) (held claim : Int → List Int) : List Int → Prop
  | [] => True
  | p :: b => (∀ c, c < tot.length → (claim p).getD c 0 + sumF (fun q => (held q).getD c 0) b ≤ tot.getD c 0) ∧ SafeO tot held claim b
def SafeP (tot ps : List Int) (held claim : Int → List Int) : Prop := ∃ σ : List Int, σ.Nodup ∧ (∀ p, p ∈ σ ↔ p ∈ ps) ∧ SafeO tot held claim σ
section
variable {tot ps σ : List Int} {held claim held' claim' : Int → List Int}
theorem safeO_at : SafeO tot held claim σ ↔ ∀ k, k < σ.length → ∀ c, c < tot.length → (claim (σ.getD k 0)).getD c 0 + sumF (fun q => (held q).getD c 0) (σ.drop (k + 1)) ≤ tot.getD c 0 := by
  induction σ with
  | nil => exact ⟨fun _ k hk => by simp at hk, fun _ => trivial⟩
  | cons p b ih =>
    constructor
    · rintro ⟨h1, h2⟩ k hk c hc
      cases k with
      | zero => simpa using h1 c hc
      | succ k => simpa using ih.1 h2 k (by simpa using hk) c hc
    · intro h
      exact ⟨fun c hc => by simpa using h 0 (by simp) c hc, ih.2 (fun k hk c hc => by simpa using h (k + 1) (by simpa using hk) c hc)⟩
theorem sumF_le {f g : Int → Int} : ∀ {l : List Int}, (∀ i, i ∈ l → f i ≤ g i) → sumF f l ≤ sumF g l
  | [], _ => by simp [sumF]
  | a :: l, h => by rw [sumF_cons, sumF_cons]; have := h a (by simp); have := sumF_le (l := l) (fun i hi => h i (by simp [hi])); omega
theorem sumF_app (f : Int → Int) (l l' : List Int) : sumF f (l ++ l') = sumF f l + sumF f l' := by
  induction l with
  | nil => simp [sumF]
  | cons a l ih => rw [List.cons_append, sumF_cons, sumF_cons, ih]; omega
theorem sumF_same {f : Int → Int} (hf : ∀ i, 0 ≤ f i) {A B : List Int} (h1 : A.Nodup) (h2 : B.Nodup) (he : ∀ i, i ∈ A ↔ i ∈ B) : sumF f A = sumF f B := by
  have a := sumF_sub hf A B h1 (fun i hi => (he i).1 hi)
  have b := sumF_sub hf B A h2 (fun i hi => (he i).2 hi)
  omega
theorem SafeO.less (h : SafeO tot held claim σ) (hl : ∀ q, q ∈ σ → ∀ c, c < tot.length → (held' q).getD c 0 ≤ (held q).getD c 0) : SafeO tot held' claim σ := by
  induction σ with
  | nil => trivial
  | cons p b ih =>
    exact ⟨fun c hc => by
      have h1 := h.1 c hc
      have h2 := sumF_le (f := fun q => (held' q).getD c 0) (g := fun q => (held q).getD c 0) (l := b) (fun i hi => hl i (by simp [hi]) c hc)
      omega, ih h.2 (fun q hq => hl q (by simp [hq]))⟩
theorem SafeO.drop (h : SafeO tot held claim σ) (hn : ∀ q c, 0 ≤ (held q).getD c 0) (p : Int) : SafeO tot held claim (σ.filter fun q => decide (q ≠ p)) := by
  induction σ with
  | nil => trivial
  | cons q b ih =>
    by_cases e : q = p
    · rw [List.filter_cons_of_neg (by simp [e])]
      exact ih h.2
    · rw [List.filter_cons_of_pos (by simp [e])]
      refine ⟨fun c hc => ?_, ih h.2⟩
      have h1 := h.1 c hc
      have h2 : sumF (fun q => (held q).getD c 0) (b.filter fun q => decide (q ≠ p)) ≤ sumF (fun q => (held q).getD c 0) b := by
        clear ih h h1
        induction b with
        | nil => simp [sumF]
        | cons a b ihb =>
          by_cases e2 : a = p
          · rw [List.filter_cons_of_neg (by simp [e2]), sumF_cons]
            have := hn a c; omega
          · rw [List.filter_cons_of_pos (by simp [e2]), sumF_cons, sumF_cons]
            omega
      omega
end
theorem sumF_map (f : Int → Int) (g : Int → Int) : ∀ l : List Int, sumF f (l.map g) = sumF (fun i => f (g i)) l
  | [] => rfl
  | a :: l => by rw [List.map_cons, sumF_cons, sumF_cons, sumF_map f g l]
section
variable {m : Am}
theorem rows_h (m : Am) {i : Nat} (hi : i < m.ps.length) : rw_ m.hs i = m.held (m.ps.getD i 0) := by simp [rw_, Am.hs, hi]
theorem rows_c (m : Am) {i : Nat} (hi : i < m.ps.length) : rw_ m.cs i = m.claim (m.ps.getD i 0) := by simp [rw_, Am.cs, hi]
theorem rows_nn (ok : m.Ok) (i k : Nat) : 0 ≤ (rw_ m.hs i).getD k 0 := by
  by_cases h : i < m.ps.length
  · rw [rows_h m h]; exact ok.h0 _ _
  · have : rw_ m.hs i = [] := by unfold rw_; rw [List.getD_eq_getElem?_getD, List.getElem?_eq_none (by simp [Am.hs]; omega)]; rfl
    rw [this]; simp
/-- What is to be had, behind those of a, in the order a ++ p :: b. -/
theorem split_avl (ok : m.Ok) {σ : List Int} (hn : σ.Nodup) (he : ∀ p, p ∈ σ ↔ p ∈ m.ps) {k c : Nat} (hk : k < σ.length) (hc : c < m.tot.length) :
    m.avl.getD c 0 + sumF (fun q => (m.held q).getD c 0) (σ.take k) + (m.held (σ.getD k 0)).getD c 0 + sumF (fun q => (m.held q).getD c 0) (σ.drop (k + 1)) = m.tot.getD c 0 := by
  have h1 := sumF_same (f := fun q => (m.held q).getD c 0) (fun q => ok.h0 q c) hn (rise_nd ok.rise) he
  have h2 : σ = σ.take k ++ (σ.getD k 0 :: σ.drop (k + 1)) := by
    rw [show σ.getD k 0 = σ[k] from by simp [hk], ← List.drop_eq_getElem_cons hk, List.take_append_drop]
  have h3 : sumF (fun q => (m.held q).getD c 0) σ = sumF (fun q => (m.held q).getD c 0) (σ.take k) + ((m.held (σ.getD k 0)).getD c 0 + sumF (fun q => (m.held q).getD c 0) (σ.drop (k + 1))) := by
    conv => lhs; rw [h2]
    rw [sumF_app, sumF_cons]
  unfold Am.avl
  rw [avlL_get _ _ _ hc]
  omega
theorem len_same {A B : List Int} (h1 : A.Nodup) (h2 : B.Nodup) (he : ∀ i, i ∈ A ↔ i ∈ B) : A.length = B.length :=
  Nat.le_antisymm (len_sub h1 (fun i hi => (he i).1 hi)) (len_sub h2 (fun i hi => (he i).2 hi))
theorem safe_P1 (ok : m.Ok) (hs : m.safe = true) : SafeP m.tot m.ps m.held m.claim := by
  unfold Am.safe ordR at hs
  by_cases hb : bmayB m.avl m.hs m.cs = true
  · rw [if_pos hb] at hs
    obtain ⟨σ, hσ⟩ := (safe_iff (rows_nn ok)).1 hs
    unfold comB at hσ
    rw [Bool.and_eq_true] at hσ
    have hlen : σ.length = m.ps.length := by have := of_decide_eq_true hσ.1; simpa [Am.hs] using this
    have hcom : ∀ k, k < σ.length → comG m.avl m.hs m.cs σ k = true := fun k hk => comA_iff.1 hσ.2 k hk
    have hnd := com_nodup hcom
    have hin : ∀ i, i ∈ σ → 0 ≤ i ∧ i < m.ps.length := fun i hi => by have := com_in hcom i hi; simpa [Am.hs] using this
    have hpn := rise_nd ok.rise
    have hinj : ∀ i j : Nat, i < m.ps.length → j < m.ps.length → m.ps.getD i 0 = m.ps.getD j 0 → i = j := fun i j hi hj e => by
      have e : m.ps[i] = m.ps[j] := by simpa [hi, hj] using e
      have hpw := List.pairwise_iff_getElem.1 hpn
      rcases Nat.lt_trichotomy i j with c | c | c
      · exact absurd e (hpw i j hi hj c)
      · exact c
      · exact absurd e.symm (hpw j i hj hi c)
    refine ⟨σ.map fun i => m.ps.getD i.toNat 0, ?_, fun p => ⟨fun hp => ?_, fun hp => ?_⟩, safeO_at.2 (fun k hk c hc => ?_)⟩
    · rw [List.nodup_iff_pairwise_ne] 
      refine List.Pairwise.map _ (fun a b (hab : (0 ≤ a ∧ a < m.ps.length) ∧ (0 ≤ b ∧ b < m.ps.length) ∧ a ≠ b) e => ?_) ?_
      · have := hinj a.toNat b.toNat (by omega) (by omega) e
        omega
      · exact List.Pairwise.imp_of_mem (fun {a b} ha hb' hab => ⟨hin a ha, hin b hb', hab⟩) hnd
    · obtain ⟨i, hi, rfl⟩ := List.mem_map.1 hp
      have := hin i hi
      have h2 : i.toNat < m.ps.length := by omega
      rw [show m.ps.getD i.toNat 0 = m.ps[i.toNat] from by simp [h2]]
      exact List.getElem_mem _
    · obtain ⟨i, hi, rfl⟩ := List.getElem_of_mem hp
      refine List.mem_map.2 ⟨(i : Int), ?_, by simp [hi]⟩
      refine Classical.byContradiction fun hno => ?_
      have h1 : ((i : Int) :: σ).Nodup := List.nodup_cons.2 ⟨hno, hnd⟩
      have h2 := len_sub (A := (i : Int) :: σ) (B := rangeI' m.ps.length) h1 (fun x hx => by
        rcases List.mem_cons.1 hx with e | e
        · rw [e]; exact rangeI'_mem.2 (by omega)
        · exact rangeI'_mem.2 (hin x e))
      rw [rangeI'_len] at h2
      simp at h2
      omega
    · have hk : k < σ.length := by simpa using hk
      have h1 := hcom k hk
      unfold comG at h1
      obtain ⟨⟨f1, f2, f3⟩, h2⟩ := stepB_free h1
      have f2 : σ.getD k 0 < m.ps.length := by simpa [Am.hs] using f2
      have hi : (σ.getD k 0).toNat < m.ps.length := by omega
      rw [rows_c m hi, rows_h m hi] at h2
      have h3 := canB_iff.1 h2 c (by rw [workL_length, m.avl_length]; exact hc)
      rw [workL_get _ _ _ _ (by rw [m.avl_length]; exact hc)] at h3
      have h4 : sumF (fun i => (rw_ m.hs i.toNat).getD c 0) (σ.take k) = sumF (fun q => (m.held q).getD c 0) ((σ.map fun i => m.ps.getD i.toNat 0).take k) := by
        rw [← List.map_take, sumF_map]
        refine sumF_congr (fun i hi => ?_)
        have := hin i (List.mem_of_mem_take hi)
        rw [rows_h m (by omega : i.toNat < m.ps.length)]
      have hg : (σ.map fun i => m.ps.getD i.toNat 0).getD k 0 = m.ps.getD (σ.getD k 0).toNat 0 := by simp [hk]
      have hsplit := split_avl ok (σ := σ.map fun i => m.ps.getD i.toNat 0) ?_ ?_ (k := k) (c := c) (by simpa using hk) hc
      · rw [hg] at hsplit ⊢
        rw [h4] at h3
        omega
      · rw [List.nodup_iff_pairwise_ne]
        refine List.Pairwise.map _ (fun a b (hab : (0 ≤ a ∧ a < m.ps.length) ∧ (0 ≤ b ∧ b < m.ps.length) ∧ a ≠ b) e => ?_) ?_
        · have := hinj a.toNat b.toNat (by omega) (by omega) e
          omega
        · exact List.Pairwise.imp_of_mem (fun {a b} ha hb' hab => ⟨hin a ha, hin b hb', hab⟩) hnd
      · intro p
        constructor
        · intro hp
          obtain ⟨i, hi, rfl⟩ := List.mem_map.1 hp
          have := hin i hi
          have h2 : i.toNat < m.ps.length := by omega
          rw [show m.ps.getD i.toNat 0 = m.ps[i.toNat] from by simp [h2]]
          exact List.getElem_mem _
        · intro hp
          obtain ⟨i, hi, rfl⟩ := List.getElem_of_mem hp
          refine List.mem_map.2 ⟨(i : Int), ?_, by simp [hi]⟩
          refine Classical.byContradiction fun hno => ?_
          have h1 : ((i : Int) :: σ).Nodup := List.nodup_cons.2 ⟨hno, hnd⟩
          have h2 := len_sub (A := (i : Int) :: σ) (B := rangeI' m.ps.length) h1 (fun x hx => by
            rcases List.mem_cons.1 hx with e | e
            · rw [e]; exact rangeI'_mem.2 (by omega)
            · exact rangeI'_mem.2 (hin x e))
          rw [rangeI'_len] at h2
          simp at h2
          omega
  · rw [if_neg hb] at hs; cases hs
end
end Go.Proofs.YticglfmmjgnicaaGreat

set_option linter.unusedVariables false
namespace Go.Proofs.YticglfmmjgnicaaGreat
open Go.RowKit

section
variable {m : Am}
theorem may_ok (ok : m.Ok) (hc : m.clm = true) : bmayB m.avl m.hs m.cs = true := by
  rw [bmay_rows, Bool.and_eq_true, List.all_eq_true]
  have hl1 : m.hs.length = m.ps.length := by simp [Am.hs]
  have hl2 : m.cs.length = m.ps.length := by simp [Am.cs]
  have hm : ∀ i, i < m.ps.length → m.ps.getD i 0 ∈ m.ps := fun i hi => by rw [show m.ps.getD i 0 = m.ps[i] from by simp [hi]]; exact List.getElem_mem _
  refine ⟨rows_iff.2 ⟨by rw [m.avl_length]; exact ok.nt, ?_, by rw [hl1, hl2], by rw [hl1]; exact ok.few, fun i hi => ?_⟩, fun i hi => ?_⟩
  · have := ok.avB
    unfold isB at this
    rw [Bool.and_eq_true] at this
    exact this.2
  · rw [hl1] at hi
    unfold rrow
    rw [rows_h m hi, rows_c m hi, m.avl_length, ok.hB (hm i hi), ok.cl _ (hm i hi)]
    rfl
  · rw [List.mem_range, hl1] at hi
    rw [rows_h m hi, rows_c m hi]
    exact (ok.hc hc _ (hm i hi)).1
theorem safe_P2 (ok : m.Ok) (hc : m.clm = true) (h : SafeP m.tot m.ps m.held m.claim) : m.safe = true := by
  unfold Am.safe
  rw [ordR_yes (may_ok ok hc)]
  refine (safe_iff (rows_nn ok)).2 ?_
  obtain ⟨σ, hn, he, ho⟩ := h
  have hpn := rise_nd ok.rise
  have hlen : σ.length = m.ps.length := len_same hn hpn he
  have hix : ∀ p, p ∈ m.ps → ∃ i : Nat, i < m.ps.length ∧ m.ps.getD i 0 = p := fun p hp => by
    obtain ⟨i, hi, e⟩ := List.getElem_of_mem hp
    exact ⟨i, hi, by simp [hi, e]⟩
  obtain ⟨f, hf⟩ : ∃ f : Int → Nat, ∀ p, p ∈ m.ps → f p < m.ps.length ∧ m.ps.getD (f p) 0 = p := by
    have : ∀ p : Int, ∃ i : Nat, p ∈ m.ps → i < m.ps.length ∧ m.ps.getD i 0 = p := fun p => by
      by_cases hp : p ∈ m.ps
      · obtain ⟨i, h1, h2⟩ := hix p hp
        exact ⟨i, fun _ => ⟨h1, h2⟩⟩
      · exact ⟨0, fun h => absurd h hp⟩
    exact Classical.axiomOfChoice this
  have hl2 : (σ.map fun p => (f p : Int)).length = m.hs.length := by rw [List.length_map, hlen]; simp [Am.hs]
  refine ⟨σ.map fun p => (f p : Int), ?_⟩
  unfold comB
  rw [Bool.and_eq_true]
  refine ⟨decide_eq_true hl2, comA_iff.2 (fun k hk => ?_)⟩
  have hk : k < σ.length := by simpa using hk
  have hpk : σ.getD k 0 ∈ m.ps := (he _).1 (by rw [show σ.getD k 0 = σ[k] from by simp [hk]]; exact List.getElem_mem _)
  have hg : (σ.map fun p => (f p : Int)).getD k 0 = (f (σ.getD k 0) : Int) := by simp [hk]
  unfold comG
  rw [hg]
  refine stepB_of ⟨by omega, by have := (hf _ hpk).1; simpa [Am.hs] using this, fun hm => ?_⟩ ?_
  · rw [← List.map_take] at hm
    obtain ⟨p, hp, e⟩ := List.mem_map.1 hm
    have e : f p = f (σ.getD k 0) := by omega
    have hpm := (he p).1 (List.mem_of_mem_take hp)
    have e2 : p = σ.getD k 0 := by rw [← (hf p hpm).2, e, (hf _ hpk).2]
    obtain ⟨j, hj, e3⟩ := List.getElem_of_mem hp
    have hj1 : j < k := by rw [List.length_take] at hj; omega
    have hj2 : j < σ.length := by omega
    have e4 : σ[j] = σ[k] := by
      rw [List.getElem_take] at e3
      rw [e3, e2]; simp [hk]
    exact List.pairwise_iff_getElem.1 hn j k hj2 hk hj1 e4
  · rw [show ((f (σ.getD k 0) : Nat) : Int).toNat = f (σ.getD k 0) from by omega, rows_c m (hf _ hpk).1, rows_h m (hf _ hpk).1, (hf _ hpk).2]
    refine canB_iff.2 (fun c hc2 => ?_)
    rw [workL_length, m.avl_length] at hc2
    rw [workL_get _ _ _ _ (by rw [m.avl_length]; exact hc2)]
    have h1 := safeO_at.1 ho k hk c hc2
    have h2 := split_avl ok hn he hk hc2
    have h3 : sumF (fun i => (rw_ m.hs i.toNat).getD c 0) ((σ.map fun p => (f p : Int)).take k) = sumF (fun q => (m.held q).getD c 0) (σ.take k) := by
      rw [← List.map_take, sumF_map]
      refine sumF_congr (fun p hp => ?_)
      have hpm := (he p).1 (List.mem_of_mem_take hp)
      rw [show ((f p : Nat) : Int).toNat = f p from by omega, rows_h m (hf p hpm).1, (hf p hpm).2]
    rw [h3]
    omega
end
end Go.Proofs.YticglfmmjgnicaaGreat
