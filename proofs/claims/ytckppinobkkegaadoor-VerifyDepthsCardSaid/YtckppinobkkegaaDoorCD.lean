/-
  Bytes of the call's own, and numbers put behind them, in both packages.
-/
import Derived.Test.YtckppinobkkegaaDoorCB
import Derived.Test.YtckppinobkkegaaDoorQ
import Derived.Test.YtckppinobkkegaaDoorRows
set_option linter.unusedVariables false
namespace Go.Proofs.YtckppinobkkegaaDoor
open Go Go.RowKit

theorem leN_snoc : ∀ (n u : Nat), leN (n + 1) u = leN n u ++ [u / 256 ^ n % 256]
  | 0, u => by simp [leN]
  | n + 1, u => by
    rw [leN, leN_snoc n (u / 256), leN, List.cons_append, Nat.div_div_eq_div_mul, Nat.pow_succ, Nat.mul_comm 256]
/-- A byte as a value. -/
def u8v (b : Nat) : Value := .int .u8 (b : Int)
/-- v is a slice of bytes of the call's own. -/
def Qb (w : World) (base : Nat) (v : Value) (bs : List Nat) : Prop := Qu w base 5 v (bs.map u8v)
theorem infoU : ∃ i0 : TypeInfo, Tryd.prog.info? 5 = some i0 ∧ i0.zero = some (.int .u8 0) ∧ i0.size = 1 ∧ i0.bytes = 1 :=
  info_parts (show (Tryd.prog.info? 5).map (fun i => (i.zero, i.size, i.bytes)) = some (some (.int .u8 0), 1, 1) from by kernel_rfl)
theorem Qb.form {w : World} {base : Nat} {v : Value} {bs : List Nat} (h : Qb w base v bs) : ∃ a c, v = .slice a bs.length c := by
  obtain ⟨a, c, h, _⟩ := Qu.shape h
  exact ⟨a, c, by simpa using h⟩
/-- What a call that puts bytes behind v0's leaves: bytes in v, v0's own block alone written. -/
structure Bw (w : World) (base : Nat) (v0 : Value) (w' : World) (v : Value) (bs : List Nat) : Prop where
  q : Qb w' base v bs
  t : Touch v0.ownBlock.toList w w'
  o : ∀ k, v.ownBlock = some k → v0.ownBlock = some k ∨ w.heap.size ≤ k
theorem Bw.refl {w : World} {base : Nat} {v : Value} {bs : List Nat} (h : Qb w base v bs) : Bw w base v w v bs := ⟨h, Touch.refl _ _, fun k hk => .inl hk⟩
theorem Bw.trans {w w1 w2 : World} {base : Nat} {v0 v1 v2 : Value} {bs bs2 : List Nat} (h : Bw w base v0 w1 v1 bs) (k : Bw w1 base v1 w2 v2 bs2) : Bw w base v0 w2 v2 bs2 :=
  ⟨k.q, h.t.transF k.t (fun i hi hlt => by
    rcases h.o i (by simpa using hi) with e | e
    · simp [e]
    · omega), fun i hi => by
    rcases k.o i hi with e | e
    · exact h.o i e
    · exact .inr (Nat.le_trans h.t.size e)⟩
theorem Bw.eq {w w' : World} {base : Nat} {v0 v : Value} {bs bs' : List Nat} (h : Bw w base v0 w' v bs) (e : bs = bs') : Bw w base v0 w' v bs' := e ▸ h
/-- Behind an append of one byte. -/
theorem Bw.one {w w' : World} {base : Nat} {v v' : Value} {bs : List Nat} {b : Nat} (o : Obj) (hq : Qu w' base 5 v' (bs.map u8v ++ [u8v b])) (hg : (w.alloc o).grownBy w' v.ownBlock) (ho : ∀ k, v'.ownBlock = some k → v.ownBlock = some k ∨ (w.alloc o).heap.size ≤ k) : Bw w base v w' v' (bs ++ [b]) := by
  refine ⟨by unfold Qb; rw [List.map_append]; exact hq, ((Touch.refl v.ownBlock.toList w).alloc o).grown hg (fun k hk _ => by simp [hk]), fun k hk => ?_⟩
  rcases ho k hk with e | e
  · exact .inl e
  · exact .inr (by simp at e; omega)
def NumP (w : World) (base : Nat) (v : Value) (bs : List Nat) (e : Ending) (w' : World) : Prop := ∃ v', e = .returned v' ∧ Bw w base v w' v' bs
theorem wrap_u8 (u : Nat) : IntKind.wrap .u8 (u : Int) = ((u % 256 : Nat) : Int) := by
  simp only [IntKind.wrap, IntKind.signed, IntKind.bits, Bool.false_and, Bool.false_eq_true, if_false, show (2 : Int) ^ 8 = 256 from rfl]
  omega
end Go.Proofs.YtckppinobkkegaaDoor
