/-
  The reference's instr.
-/
import Derived.Test.YtckppinobkkegaaDoorVT1
import Derived.Test.YtckppinobkkegaaDoorVT2
import Derived.Test.YtckppinobkkegaaDoorVT3
import Derived.Test.YtckppinobkkegaaDoorVT4
set_option linter.unusedVariables false
namespace Go.Proofs.YtckppinobkkegaaDoor
open Go Go.RowKit

theorem rinstr_any (pv : Value) (P : Pg) (k i : Nat) (w : World) (h : PgV w pv P) (ht : TabOk P) (hk : k < P.n2) (hi1 : fromP P k ≤ i) (hi2 : i < toP P k) : Calls Tryd.prog 16 #[pv, .int .i64 (k : Int), .int .i64 (i : Int)] w (IntQ (insC P k i) w) := by
  by_cases e3 : P.op i = 3
  · exact rinstr_3 pv P k i _ _ _ w h ht hk hi1 hi2 rfl rfl rfl e3
  by_cases e4 : P.op i = 4
  · exact rinstr_4 pv P k i _ _ _ w h ht hk hi1 hi2 rfl rfl rfl e4
  by_cases e5 : P.op i = 5
  · exact rinstr_5 pv P k i _ _ _ w h ht hk hi1 hi2 rfl rfl rfl e5
  by_cases e6 : P.op i = 6
  · exact rinstr_6 pv P k i _ _ _ w h ht hk hi1 hi2 rfl rfl rfl e6
  by_cases e7 : P.op i = 7
  · exact rinstr_7 pv P k i _ _ _ w h ht hk hi1 hi2 rfl rfl rfl e7
  by_cases e8 : P.op i = 8
  · exact rinstr_8 pv P k i _ _ _ w h ht hk hi1 hi2 rfl rfl rfl e8
  by_cases e26 : P.op i = 26
  · exact rinstr_26 pv P k i _ _ _ w h ht hk hi1 hi2 rfl rfl rfl e26
  by_cases e28 : P.op i = 28
  · exact rinstr_28 pv P k i _ _ _ w h ht hk hi1 hi2 rfl rfl rfl e28
  by_cases e30 : P.op i = 30
  · exact rinstr_30 pv P k i _ _ _ w h ht hk hi1 hi2 rfl rfl rfl e30
  by_cases e31 : P.op i = 31
  · exact rinstr_31 pv P k i _ _ _ w h ht hk hi1 hi2 rfl rfl rfl e31
  by_cases e32 : P.op i = 32
  · exact rinstr_32 pv P k i _ _ _ w h ht hk hi1 hi2 rfl rfl rfl e32
  by_cases e33 : P.op i = 33
  · exact rinstr_33 pv P k i _ _ _ w h ht hk hi1 hi2 rfl rfl rfl e33
  by_cases e34 : P.op i = 34
  · exact rinstr_34 pv P k i _ _ _ w h ht hk hi1 hi2 rfl rfl rfl e34
  by_cases e35 : P.op i = 35
  · exact rinstr_35 pv P k i _ _ _ w h ht hk hi1 hi2 rfl rfl rfl e35
  by_cases e36 : P.op i = 36
  · exact rinstr_36 pv P k i _ _ _ w h ht hk hi1 hi2 rfl rfl rfl e36
  by_cases e24 : P.op i = 24
  · exact rinstr_24 pv P k i _ _ _ w h ht hk hi1 hi2 rfl rfl rfl e24
  by_cases e25 : P.op i = 25
  · exact rinstr_25 pv P k i _ _ _ w h ht hk hi1 hi2 rfl rfl rfl e25
  by_cases e27 : P.op i = 27
  · exact rinstr_27 pv P k i _ _ _ w h ht hk hi1 hi2 rfl rfl rfl e27
  have hsp : P.op i ∉ spec := by
    simp only [spec, List.mem_cons, List.not_mem_nil, or_false, not_or]
    exact ⟨e3, e4, e5, e6, e7, e8, e26, e28, e30, e31, e32, e33, e34, e35, e36⟩
  cases ei : isZ (P.op i) with
  | false => exact rinstr_no pv P k i _ _ _ w h ht hk hi1 hi2 rfl rfl rfl ei
  | true =>
    rcases opZ_012 (P.op i) with en | en | en
    · exact rinstr_g0 pv P k i _ _ _ w h ht hk hi1 hi2 rfl rfl rfl ei en hsp e24 e25 e27
    · exact rinstr_g1 pv P k i _ _ _ w h ht hk hi1 hi2 rfl rfl rfl ei en hsp e24 e25 e27
    · exact rinstr_g2 pv P k i _ _ _ w h ht hk hi1 hi2 rfl rfl rfl ei en hsp e24 e25 e27
end Go.Proofs.YtckppinobkkegaaDoor
