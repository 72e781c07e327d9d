/-
  The reference's stack: a frame more.
-/
import Derived.Test.YtgljkjjanffncaaT24
set_option linter.unusedVariables false
namespace Go.Proofs.Ytgljkjjanffncaa
open Go.RowKit Go.BigFrame

theorem infoF : ∃ (i : TypeInfo) (z : Value), Try.prog.info? 56 = some i ∧ i.zero = some z ∧ i.size = 3 ∧ z.cells.size = 3 ∧ i.bytes ≤ 64 := by
  obtain ⟨i, hi⟩ := Option.isSome_iff_exists.mp (show (Try.prog.info? 56).isSome = true from by kernel_rfl)
  have h2 : (Try.prog.info? 56).map (fun i => (i.zero.isSome, i.size, decide (i.bytes ≤ 64), (i.zero.map fun z => z.cells.size))) = some (true, 3, true, some 3) := by kernel_rfl
  rw [hi] at h2
  simp at h2
  obtain ⟨h3, h4, h5, h6⟩ := h2
  obtain ⟨z, hz, hz2⟩ := h6
  exact ⟨i, z, hi, hz, h4, hz2, h5⟩
def newV (back : Int) (lv : Value) : Nat → Value := fun j => if j = 0 then .int .i64 back else if j = 1 then lv else .slice none 0 0
theorem Rf.one {w : World} {base : Nat} {ps : Nat → Nat → Value} : ∀ {S : List Frm}, Rf w base ps S → ∀ i, i < S.length → ∀ j, j < 3 → (ps i j).oneCell' = true
  | [], _, i, hi, _, _ => by simp at hi
  | F :: r, h, i, hi, j, hj => by
    by_cases e : i = r.length
    · subst e
      have : j = 0 ∨ j = 1 ∨ j = 2 := by omega
      rcases this with rfl | rfl | rfl
      · rw [h.2.1]; rfl
      · obtain ⟨a, c, hf⟩ := Qu.form h.2.2.1
        rw [hf]; rfl
      · obtain ⟨a, c, hf⟩ := Qu.form h.2.2.2
        rw [hf]; rfl
    · exact Rf.one h.1 i (by simp at hi; omega) j hj
/-- What a new frame makes of the stack. -/
structure FBorn (wq : World) (B : List Nat) (base t size : Nat) (v : Value) (ps : Nat → Nat → Value) (S : List Frm) (back : Int) (lv : Value) (loc : List Int) (w1 w2 : World) (v1 v2 : Value) : Prop where
  r1 : ∀ ty, (Builtin.append_ #[57, 57] ty #[.slice (some ⟨wq.heap.size, 0, none⟩) 0 0, v]).run Try.prog (wq.alloc (.cells #[] 56)) = .ok v1 w1
  r2 : ∀ ty, (Builtin.append_ #[57, 57] ty #[v1, .slice (some ⟨w1.heap.size, 0, none⟩) 1 1]).run Try.prog (w1.alloc (.cells #[.int .i64 back, lv, .slice none 0 0] 56)) = .ok v2 w2
  c0 : ∀ o, (wq.alloc o).cell? ⟨t, 1, none⟩ = some v
  c1 : w1.cell? ⟨t, 1, none⟩ = some v
  c2 : w2.cell? ⟨t, 1, none⟩ = some v
  f2 : w2.frozen? ⟨t, 1, none⟩ = false
  f1 : ∃ a c, v1 = .slice a S.length c
  f3 : ∃ a c, v2 = .slice a (S.length + 1) c
  tw : Touch [] wq w2
  left : Rz (w2.setCell ⟨t, 1, none⟩ v2) B base t size v2 (addV ps S.length (newV back lv)) (⟨back, loc, []⟩ :: S)
set_option maxHeartbeats 4000000 in
theorem fborn (wq : World) (B : List Nat) (base t size : Nat) (v : Value) (ps : Nat → Nat → Value) (S : List Frm) (back : Int) (lv : Value) (loc : List Int) (h : Rz wq B base t size v ps S) (hB : ∀ b ∈ B, b < wq.heap.size) (hn : S.length ≤ 900000) (hq : QI wq base lv loc)
    (hx : ∀ b, lv.ownBlock = some b → b ≠ t ∧ b ∉ B ∧ ∀ j, j < S.length → (ps j 1).ownBlock ≠ some b ∧ (ps j 2).ownBlock ≠ some b) : ∃ w1 w2 v1 v2, FBorn wq B base t size v ps S back lv loc w1 w2 v1 v2 := by
  obtain ⟨i, z, hi, hz, h5, hz5, h64⟩ := infoF
  obtain ⟨n, hnl⟩ : ∃ n, S.length = n := ⟨_, rfl⟩
  have hlt := h.obj.lt
  have hbase : base ≤ wq.heap.size := by have := h.bt; omega
  have t1 : Touch [] wq (wq.alloc (.cells #[] 56)) := (Touch.refl _ _).alloc _
  have A0 : Av (wq.alloc (.cells #[] 56)) wq.heap.size 56 3 (.slice (some ⟨wq.heap.size, 0, none⟩) 0 0) 0 ps :=
    .inr ⟨wq.heap.size, 0, #[], rfl, Nat.le_refl _, Blk.new rfl, Nat.le_refl _, Nat.zero_le _, Nat.zero_le _, fun i hi => by omega⟩
  have hv1 := h.still t1
  rw [hnl] at hn
  obtain ⟨v1, w1, r1, A1, g1, o1⟩ := Av.appendN (t := 57) Try.underlying57 hi hz h5 rfl hz5 (by omega) A0 (by simp) (hv1.fs.src Try.underlying57 (by omega) hv1.fr.one) (by rw [hnl]; have := Nat.mul_le_mul_left (0 + n) h64; omega) (by omega)
  rw [Nat.zero_add] at A1
  have A1 : Av w1 wq.heap.size 56 3 v1 S.length ps := A1.congr (fun a ha k hk => by rw [catV_new _ _ _ (by omega), Nat.sub_zero])
  have t2 : Touch [] wq w1 := t1.transF (Touch.grown (S := [wq.heap.size]) (Touch.refl _ _) g1 (fun k hk _ => by simp [Value.ownBlock] at hk; simp [hk])) (fun k hk hl => by simp at hk; omega)
  have hv2 := h.still t2
  have bp : Blk (w1.alloc (.cells #[.int .i64 back, lv, .slice none 0 0] 56)) w1.heap.size #[.int .i64 back, lv, .slice none 0 0] 56 := Blk.new rfl
  have t3 : Touch [] w1 (w1.alloc (.cells #[.int .i64 back, lv, .slice none 0 0] 56)) := (Touch.refl _ _).alloc _
  have hs1 := t2.size
  obtain ⟨la, lc, hlv⟩ := Qu.form hq
  obtain ⟨v2, w2, r2, A2, g2, o2⟩ := Av.append (t := 57) Try.underlying57 hi hz h5 rfl hz5 (A1.touch t3 (fun _ _ => by simp)) (by simp; omega) ⟨w1.heap.size, 0, none⟩ 1 (newV back lv) (fun j hj => by
    rw [Addr.add_lit, Nat.zero_add]
    have : j = 0 ∨ j = 1 ∨ j = 2 := by omega
    rcases this with rfl | rfl | rfl <;> exact bp.cell rfl) (fun j hj => by
    have : j = 0 ∨ j = 1 ∨ j = 2 := by omega
    rcases this with rfl | rfl | rfl
    · rfl
    · show lv.oneCell' = true
      rw [hlv]; rfl
    · rfl) (by rw [hnl]; have := Nat.mul_le_mul_left (n + 1) h64; omega) (by omega)
  have t4 : Touch [] wq w2 := (t2.trans t3).transF (Touch.grown (S := v1.ownBlock.toList) (Touch.refl _ _) g2 (fun k hk _ => by simp [hk])) (fun k hk hl => by have := (A1.own k (by simpa using hk)).1; omega)
  have hv3 := h.still t4
  have hs2 := t4.size
  have t5 : Touch [t] w2 (w2.setCell ⟨t, 1, none⟩ v2) := (Touch.refl _ _).setCell (by simp) _
  have na' : ∀ k, v2.ownBlock = some k → wq.heap.size ≤ k := fun k hk => (A2.own k hk).1
  have A3 := (A2.touch t5 (fun k hk => by have := na' k hk; simp; omega)).mono hbase
  have hlv2 : ∀ b, lv.ownBlock = some b → b < wq.heap.size := fun b hb => (hq.own b hb).2
  have old : ∀ i j, i < S.length → addV ps S.length (newV back lv) i j = ps i j := fun i j hi => addV_old _ _ _ (by omega)
  obtain ⟨a1, c1, e1, _⟩ := A1.form
  obtain ⟨a2, c2, e2, _⟩ := A2.form
  refine ⟨w1, w2, v1, v2, r1, r2, fun o => (h.obj.alloc o).cell (i := 1) rfl, hv2.obj.cell (i := 1) rfl, hv3.obj.cell (i := 1) rfl, hv3.obj.free 1, ⟨a1, c1, e1⟩, ⟨a2, c2, e2⟩, t4, ?_⟩
  refine ⟨by simpa using hv3.obj.set 1 v2, h.bt, h.nt, A3, ⟨?_, ?_, ?_, ?_⟩, fun b hb => ?_, fun i b hi hb => ?_, fun i b hi hb => ?_⟩
  · refine Rf.touch t5 (hv3.fr.congr fun i hi j => old i j hi) (fun i b hi hb => ?_)
    rw [old i 1 hi, old i 2 hi] at hb
    rcases hb with hb | hb
    · have := (h.ll i b hi hb).1; simpa using this
    · have := (h.oo i b hi hb).1; simpa using this
  · rw [addV_new]; rfl
  · rw [addV_new]
    refine (hq.touch t4 (by simp)).touch t5 (fun b hb => ?_)
    have := (hx b hb).1; simpa using this
  · rw [addV_new]; exact Qu.nil _ _ _
  · have := na' b hb
    exact ⟨by omega, fun hm => by have := hB b hm; omega⟩
  · by_cases e : i = S.length
    · subst e
      rw [addV_new] at hb
      have hb : lv.ownBlock = some b := hb
      obtain ⟨p1, p2, p3⟩ := hx b hb
      refine ⟨p1, p2, fun e => ?_, fun j hj => ?_⟩
      · have := na' b e; have := hlv2 b hb; omega
      · by_cases ej : j = S.length
        · subst ej
          refine ⟨?_, fun hne => absurd rfl hne⟩
          rw [addV_new]; intro hc; cases hc
        · have hj' : j < S.length := by simp at hj; omega
          rw [old j 1 hj', old j 2 hj']
          exact ⟨(p3 j hj').2, fun _ => (p3 j hj').1⟩
    · have hi' : i < S.length := by simp at hi; omega
      rw [old i 1 hi'] at hb
      obtain ⟨p1, p2, p3, p4⟩ := h.ll i b hi' hb
      have hbl := (h.fr.lt i b hi' (.inl hb)).2
      refine ⟨p1, p2, fun e => by have := na' b e; omega, fun j hj => ?_⟩
      by_cases ej : j = S.length
      · subst ej
        rw [addV_new, addV_new]
        refine ⟨fun hc => (by cases hc), fun _ hc => ?_⟩
        have hc : lv.ownBlock = some b := hc
        exact ((hx b hc).2.2 i hi').1 hb
      · have hj' : j < S.length := by simp at hj; omega
        rw [old j 1 hj', old j 2 hj']
        exact p4 j hj'
  · by_cases e : i = S.length
    · subst e
      rw [addV_new] at hb
      cases hb
    · have hi' : i < S.length := by simp at hi; omega
      rw [old i 2 hi'] at hb
      obtain ⟨p1, p2, p3⟩ := h.oo i b hi' hb
      have hbl := (h.fr.lt i b hi' (.inr hb)).2
      exact ⟨p1, p2, fun e => by have := na' b e; omega⟩
end Go.Proofs.Ytgljkjjanffncaa
