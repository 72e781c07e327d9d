/-
  Both process tables: they are the same.
-/
import Derived.Test.YtjcbcbhiophkfaaZ8
import Derived.Deep.RegionHeld3
set_option linter.unusedVariables false
namespace Go.Proofs.Ytjcbcbhiophkfaa
open Go.RowKit Go.BigFrame

section
variable (b c : Nat) (F G : List Nat) (mo : Int) (n : Nat) (ps : Nat → Nat → Int) (live : List Int) (w : World)
def kidsN (ps : Nat → Nat → Int) (n : Nat) (p : Int) : Int := if p < 1 then 0 else ((upF n (kdF ps p)).length : Nat)
theorem kids_1 (p x : Int) (h : Pt w b F mo n ps live) (hk : Ok n ps live) (hn : n ≤ 9000) (hx : kidsN ps n p = x) : Calls Try.prog 30 #[.pointer (some ⟨b, 0, none⟩), .int .i64 p] w fun e w' => e = .returned (.int .i64 x) ∧ w = w' := by
  have hfew := hk.few
  subst hx
  unfold kidsN
  by_cases hp : p < 1
  · rw [if_pos hp]
    exact kids_low b w p hp
  · rw [if_neg hp, ← those_kd hk p]
    exact kids_any b F mo n ps live w p h (by omega) (by omega) (by omega)
theorem kids_2 (p x : Int) (h : Rt w c G mo n ps) (hn : n ≤ 9000) (hx : kidsN ps n p = x) : Calls Try.prog 32 #[.pointer (some ⟨c, 0, none⟩), .int .i64 p] w fun e w' => e = .returned (.int .i64 x) ∧ w = w' := by
  subst hx
  unfold kidsN
  by_cases hp : p < 1
  · rw [if_pos hp]
    exact rkids_low c G mo n ps w p h hn hp
  · rw [if_neg hp]
    exact rkids c G mo n ps w p h hn (by omega)
theorem rstate_q (p x : Int) (h : Rt w c G mo n ps) (hn : n ≤ 9000) (hx : fieldOf ps n p 0 = x) : Calls Try.prog 39 #[.pointer (some ⟨c, 0, none⟩), .int .i64 p] w fun e w' => e = .returned (.int .i64 x) ∧ w = w' := hx ▸ rstate c G mo n ps w p h (by omega)
theorem rparent_q (p x : Int) (h : Rt w c G mo n ps) (hq : Pos n ps) (hn : n ≤ 9000) (hx : fieldOf ps n p 1 = x) : Calls Try.prog 38 #[.pointer (some ⟨c, 0, none⟩), .int .i64 p] w fun e w' => e = .returned (.int .i64 x) ∧ w = w' := hx ▸ rparent c G mo n ps w p h (by omega) hq.ne
theorem rwhy_q (p x y : Int) (h : Rt w c G mo n ps) (hq : Pos n ps) (hn : n ≤ 9000) (hx : fieldOf ps n p 2 = x) (hy : fieldOf ps n p 3 = y) : Calls Try.prog 40 #[.pointer (some ⟨c, 0, none⟩), .int .i64 p] w fun e w' => e = .returned (.agg #[.int .i64 x, .int .i64 y]) ∧ Touch [] w w' := hx ▸ hy ▸ rwhy c G mo n ps w p h (by omega) hq.ne
theorem rin_q (st : Int) (xs : List Int) (h : Rt w c G mo n ps) (hn : n ≤ 9000) (hx : upF n (stF ps st) = xs) : Calls Try.prog 47 #[.pointer (some ⟨c, 0, none⟩), .int .i64 st] w (Own xs w) := hx ▸ rin c G mo n ps w st h hn
theorem rlive_q (m : Nat) (h : Rt w c G mo n ps) (hn : n ≤ 9000) (hx : (upF n (lvF ps)).length = m) : Calls Try.prog 29 #[.pointer (some ⟨c, 0, none⟩)] w fun e w' => e = .returned (.int .i64 m) ∧ Touch [] w w' := hx ▸ rlive c G mo n ps w h hn
end
end Go.Proofs.Ytjcbcbhiophkfaa
