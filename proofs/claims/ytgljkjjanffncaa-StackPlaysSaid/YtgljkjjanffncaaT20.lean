/-
  The reference's stack: a return.
-/
import Derived.Test.YtgljkjjanffncaaT19
set_option linter.unusedVariables false
namespace Go.Proofs.Ytgljkjjanffncaa
open Go.RowKit Go.BigFrame

/-- The reference's stack in memory, whose frames are S. -/
def Rs (w : World) (B : List Nat) (base t size : Nat) (S : List Frm) : Prop := ∃ v ps, Rz w B base t size v ps S
/-- What a call may touch: blocks of the stack's own. -/
def Mv (B : List Nat) (base : Nat) (w w' : World) : Prop := ∃ L, Touch L w w' ∧ ∀ b ∈ L, base ≤ b ∧ b ∉ B
def RsP (B : List Nat) (base t size : Nat) (S : List Frm) (r : Value) (w : World) (e : Ending) (w' : World) : Prop := e = .returned r ∧ Rs w' B base t size S ∧ Mv B base w w'
theorem Mv.of {B : List Nat} {base : Nat} {w w' : World} (h : Touch [] w w') : Mv B base w w' := ⟨[], h, by simp⟩
theorem Av.less {w : World} {base : Nat} {e : TypeId} {s n m g cap : Nat} {ps : Nat → Nat → Value} (h : Av w base e s (.slice (some ⟨g, 0, none⟩) n cap) n ps) (hm : m ≤ n) : Av w base e s (.slice (some ⟨g, 0, none⟩) m cap) m ps := by
  rcases h with ⟨h, _⟩ | ⟨g', cap', cur, he, hb, hg, h1, h2, h3, h4⟩
  · cases h
  · cases he
    exact .inr ⟨g, cap, cur, rfl, hb, hg, by omega, h2, h3, fun i hi => h4 i (by omega)⟩
/-- The stack's object turned to another list of frames. -/
theorem Rz.turn {w w' : World} {B : List Nat} {base t size : Nat} {v v' : Value} {ps : Nat → Nat → Value} {F : Frm} {r : List Frm} (h : Rz w B base t size v ps (F :: r)) (ht : Touch [t] w w') (ho : Blk w' t #[.int .i64 size, v'] 59) (hv : v'.ownBlock = v.ownBlock) (hf : Av w base 56 3 v' r.length ps) : Rz w' B base t size v' ps r := by
  refine ⟨ho, h.bt, h.nt, hf.touch ht (fun b hb => by rw [hv] at hb; have := (h.vo b hb).1; simp; exact this), h.fr.1.touch ht (fun i b hi hb => ?_), fun b hb => by rw [hv] at hb; exact h.vo b hb, fun i b hi hb => ?_, fun i b hi hb => ?_⟩
  · rcases hb with hb | hb
    · have := (h.ll i b (by simp; omega) hb).1; simp; exact this
    · have := (h.oo i b (by simp; omega) hb).1; simp; exact this
  · obtain ⟨q1, q2, q3, q4⟩ := h.ll i b (by simp; omega) hb
    exact ⟨q1, q2, by rw [hv]; exact q3, fun j hj => q4 j (by simp; omega)⟩
  · obtain ⟨q1, q2, q3⟩ := h.oo i b (by simp; omega) hb
    exact ⟨q1, q2, by rw [hv]; exact q3⟩
section
variable (B : List Nat) (base t size : Nat) (F : Frm) (r : List Frm) (v : Value) (ps : Nat → Nat → Value) (w : World)
set_option maxHeartbeats 4000000 in
theorem rret_m (hn : r.length ≤ 1000000) (h : Rs w B base t size (F :: r)) :
    Calls Try.prog 26 #[.pointer (some ⟨t, 0, none⟩)] w (RsP B base t size (retM (F :: r)).2.2 (.tuple #[.int .i64 (retM (F :: r)).1, .bool (retM (F :: r)).2.1]) w) := by
  obtain ⟨v, ps, h⟩ := h
  have HK := Lib.hid h
  obtain ⟨g, cap, rfl, hg, hc1, hc2, hc, hz⟩ := h.top
  have x1 := h.obj.cell (i := 1) rfl
  cases r with
  | nil =>
    clear h hc hz
    go_enter Try.func26, Try.ntmps26
    go_wp2
    go_ret2
    exact ⟨rfl, ⟨_, _, HK.out⟩, Mv.of (Touch.refl _ _)⟩
  | cons G r =>
    have z1 := h.obj.free 1
    have y0 := hc 0 (by omega)
    rw [h.fr.2.1] at y0
    have hbk : (retM (F :: G :: r)).1 = F.back := rfl
    rw [hbk]
    obtain ⟨bk, hb⟩ : ∃ bk, F.back = bk := ⟨_, rfl⟩
    rw [hb] at y0 ⊢
    obtain ⟨n, hn'⟩ : ∃ n, (G :: r).length = n := ⟨_, rfl⟩
    have HN := Lib.hid hn'
    have hn0 : n ≠ 0 := by rw [← hn']; simp
    rw [hn'] at hn hc1 x1 y0
    rw [Nat.add_zero] at y0
    have e1 : ((n : Int) + 1 == 1) = false := beqF (by omega)
    have v1 : IntKind.i64.wrap ((n : Int) + 1 - 1) = (n : Int) := by rw [show (n : Int) + 1 - 1 = (n : Int) from by omega]; exact IntWalk.i64_in _ (by omega)
    have v2 : IntKind.i64.wrap (((n + 1 : Nat) : Int) - 1) = (n : Int) := by rw [show ((n + 1 : Nat) : Int) - 1 = (n : Int) from by omega]; exact IntWalk.i64_in _ (by omega)
    have k1 : (n : Int) ≤ (cap : Int) := by omega
    have hgt : t ≠ g := Ne.symm hg
    clear h hc hz hbk hb hn'
    go_enter Try.func26, Try.ntmps26
    go_wp2_with fail
    go_ret2
    have o2 := HK.out.obj.set 1 (.slice (some ⟨g, 0, none⟩) n cap)
    have t2 : Touch [t] w (w.setCell ⟨t, 1, none⟩ (.slice (some ⟨g, 0, none⟩) n cap)) := (Touch.refl _ _).setCell (by simp) _
    refine ⟨rfl, ⟨.slice (some ⟨g, 0, none⟩) n cap, ps, ?_⟩, ⟨[t], t2, ?_⟩⟩
    · refine HK.out.turn t2 o2 rfl ?_
      have := HK.out.fs
      rw [← HN.out]
      exact this.less (m := (G :: r).length) (by simp)
    · intro b hb
      simp at hb
      subst hb
      exact ⟨HK.out.bt, HK.out.nt⟩
end
end Go.Proofs.Ytgljkjjanffncaa
