/-
  Bytes of the call's own, and numbers put behind them, in both packages.
-/
import Derived.Test.YtoedkomckgidiaaCB
import Derived.Test.YtoedkomckgidiaaQ
import Derived.Test.YtoedkomckgidiaaRows
set_option linter.unusedVariables false
namespace Go.Proofs.Ytoedkomckgidiaa
open Go Go.RowKit

theorem leN_snoc : ∀ (n u : Nat), leN (n + 1) u = leN n u ++ [u / 256 ^ n % 256]
  | 0, u => by simp [leN]
  | n + 1, u => by
    rw [leN, leN_snoc n (u / 256), leN, List.cons_append, Nat.div_div_eq_div_mul, Nat.pow_succ, Nat.mul_comm 256]
/-- A byte as a value. -/
def u8v (b : Nat) : Value := .int .u8 (b : Int)
/-- v is a slice of bytes of the call's own. -/
def Qb (w : World) (base : Nat) (v : Value) (bs : List Nat) : Prop := Qu w base 5 v (bs.map u8v)
theorem infoU : ∃ i0 : TypeInfo, Try.prog.info? 5 = some i0 ∧ i0.zero = some (.int .u8 0) ∧ i0.size = 1 ∧ i0.bytes = 1 :=
  info_parts (show (Try.prog.info? 5).map (fun i => (i.zero, i.size, i.bytes)) = some (some (.int .u8 0), 1, 1) from by kernel_rfl)
theorem Qb.form {w : World} {base : Nat} {v : Value} {bs : List Nat} (h : Qb w base v bs) : ∃ a c, v = .slice a bs.length c := by
  obtain ⟨a, c, h, _⟩ := Qu.shape h
  exact ⟨a, c, by simpa using h⟩
/-- What a call that puts bytes behind v0's leaves: bytes in v, v0's own block alone written. -/
structure Bw (w : World) (base : Nat) (v0 : Value) (w' : World) (v : Value) (bs : List Nat) : Prop where
  q : Qb w' base v bs
  t : Touch v0.ownBlock.toList w w'
  o : ∀ k, v.ownBlock = some k → v0.ownBlock = some k ∨ w.heap.size ≤ k
theorem Bw.refl {w : World} {base : Nat} {v : Value} {bs : List Nat} (h : Qb w base v bs) : Bw w base v w v bs := ⟨h, Touch.refl _ _, fun k hk => .inl hk⟩
theorem Bw.trans {w w1 w2 : World} {base : Nat} {v0 v1 v2 : Value} {bs bs2 : List Nat} (h : Bw w base v0 w1 v1 bs) (k : Bw w1 base v1 w2 v2 bs2) : Bw w base v0 w2 v2 bs2 :=
  ⟨k.q, h.t.transF k.t (fun i hi hlt => by
    rcases h.o i (by simpa using hi) with e | e
    · simp [e]
    · omega), fun i hi => by
    rcases k.o i hi with e | e
    · exact h.o i e
    · exact .inr (Nat.le_trans h.t.size e)⟩
theorem Bw.eq {w w' : World} {base : Nat} {v0 v : Value} {bs bs' : List Nat} (h : Bw w base v0 w' v bs) (e : bs = bs') : Bw w base v0 w' v bs' := e ▸ h
/-- Behind an append of one byte. -/
theorem Bw.one {w w' : World} {base : Nat} {v v' : Value} {bs : List Nat} {b : Nat} (o : Obj) (hq : Qu w' base 5 v' (bs.map u8v ++ [u8v b])) (hg : (w.alloc o).grownBy w' v.ownBlock) (ho : ∀ k, v'.ownBlock = some k → v.ownBlock = some k ∨ (w.alloc o).heap.size ≤ k) : Bw w base v w' v' (bs ++ [b]) := by
  refine ⟨by unfold Qb; rw [List.map_append]; exact hq, ((Touch.refl v.ownBlock.toList w).alloc o).grown hg (fun k hk _ => by simp [hk]), fun k hk => ?_⟩
  rcases ho k hk with e | e
  · exact .inl e
  · exact .inr (by simp at e; omega)
def NumP (w : World) (base : Nat) (v : Value) (bs : List Nat) (e : Ending) (w' : World) : Prop := ∃ v', e = .returned v' ∧ Bw w base v w' v' bs
theorem wrap_u8 (u : Nat) : IntKind.wrap .u8 (u : Int) = ((u % 256 : Nat) : Int) := by
  simp only [IntKind.wrap, IntKind.signed, IntKind.bits, Bool.false_and, Bool.false_eq_true, if_false, show (2 : Int) ^ 8 = 256 from rfl]
  omega
set_option maxHeartbeats 32000000 in
set_option maxRecDepth 100000 in
theorem wnum_any (v : Value) (bs : List Nat) (x : Int) (w : World) (base : Nat) (hq : Qb w base v bs) (hbase : base ≤ w.heap.size) (hlen : bs.length ≤ 1000000) : Calls Try.prog 25 #[v, .int .i64 x] w (NumP w base v (bs ++ num8 x)) := by
  obtain ⟨i0, hi, hz0, hz1, hz2⟩ := infoU
  obtain ⟨U, hU⟩ : ∃ U, uns x = U := ⟨_, rfl⟩
  have hcv : IntKind.wrap .u64 x = (U : Int) := by rw [uns_wrap, hU]
  have hUlt : U < 18446744073709551616 := by rw [← hU]; exact uns_lt x
  have HN : Hid (num8 x = leN 8 U) := Lib.hid (by unfold num8; rw [hU])
  have HQ0 := Lib.hid (Bw.refl hq)
  clear hU hq
  go_enter Try.func25, Try.ntmps25
  go_wp2
  go_loopw [0, 5, 6] (fun bv uv kv wr => ∃ k : Nat, k ≤ 8 ∧ kv = .int .i64 (k : Int) ∧ uv = .int .u64 ((U / 256 ^ k : Nat) : Int) ∧ Bw w base v wr bv (bs ++ leN k U)) (fun _ _ kv _ => 9 - (intOf kv).toNat)
  case atStart => exact ⟨0, by omega, rfl, by simp, by simpa [leN] using HQ0.out⟩
  case round =>
    obtain ⟨k, hk, rfl, rfl, hb⟩ := hrel
    have hl8 : (leN k U).length = k := leN_length _ _
    obtain ⟨cs, hcs⟩ : ∃ cs, bs ++ leN k U = cs := ⟨_, rfl⟩
    have hcl : cs.length = bs.length + k := by rw [← hcs, List.length_append, hl8]
    rw [hcs] at hb
    have HB := Lib.hid hb
    clear hb HQ0 hl8
    obtain ⟨q, hq⟩ : ∃ q, U / 256 ^ k = q := ⟨_, rfl⟩
    have HS : Hid (bs ++ leN (k + 1) U = cs ++ [q % 256]) := Lib.hid (by rw [leN_snoc, hq, ← hcs, List.append_assoc])
    have HD : Hid (U / 256 ^ (k + 1) = q / 256) := Lib.hid (by rw [← hq, Nat.pow_succ, Nat.div_div_eq_div_mul])
    rw [hq]
    clear hq
    by_cases hlt : k < 8
    · have hw8 : IntKind.wrap .u8 (q : Int) = ((q % 256 : Nat) : Int) := wrap_u8 q
      obtain ⟨bt, hbt⟩ : ∃ bt, q % 256 = bt := ⟨_, rfl⟩
      rw [hbt] at hw8 HS
      clear hbt hcs
      have HQ1 := Lib.hid (HB.out.q.alloc (.cells #[.int .u8 (bt : Int)] 5))
      have hsz := HB.out.t.size
      go_wp2_with (at_builtin; refine wpList_append_q Try.underlying32 hi hz0 hz1 hz2 rfl rfl _ _ rfl base _ _ rfl HQ1.out (by simp; omega) ⟨wr.heap.size, 0, none⟩ 1 (.int .u8 (bt : Int)) rfl ?c1 rfl ?c2 ?c3 ?_)
      case c1 => exact World.cell?_alloc_at _ _ _ _ rfl
      case c2 => simp; omega
      case c3 => simp; omega
      intro v' w2 hq2 hg hnew
      have HB2 := Lib.hid (HB.out.trans (Bw.one (b := bt) (.cells #[.int .u8 (bt : Int)] 5) hq2 hg (by simpa using hnew)))
      clear hq2 hg hnew
      go_wp2
      go_roundw
      case rel => exact ⟨k + 1, by omega, by go_num, by rw [HD.out]; simp, HB2.out.eq HS.out.symm⟩
      case measure => simp [intOf]; omega
    · obtain rfl : k = 8 := by omega
      go_wp2
      go_ret
      exact ⟨_, rfl, HB.out.eq (by rw [HN.out]; exact hcs.symm)⟩
end Go.Proofs.Ytoedkomckgidiaa
