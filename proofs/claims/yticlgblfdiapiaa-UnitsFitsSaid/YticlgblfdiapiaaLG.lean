/-
  Units: UnitsFits.
-/
import Derived.Test.YticlgblfdiapiaaLFf
import Derived.Test.YticlgblfdiapiaaLFttt
import Derived.Test.YticlgblfdiapiaaLFttf
import Derived.Test.YticlgblfdiapiaaLFtft
import Derived.Test.YticlgblfdiapiaaLFtff
set_option linter.unusedVariables false
namespace Go.Proofs.Yticlgblfdiapiaa
open Go.RowKit
theorem fitsl_any (va : Value) (xa : List Int) (vb : Value) (xb : List Int) (vc : Value) (xc : List Int) (w : World) (ha : Sl w va xa) (_ : ∀ y ∈ xa, InI y) (ma : xa.length ≤ maxLen) (hb : Sl w vb xb) (_ : ∀ y ∈ xb, InI y) (mb : xb.length ≤ maxLen) (hc : Sl w vc xc) (_ : ∀ y ∈ xc, InI y) (mc : xc.length ≤ maxLen) :
    Calls Try.prog 5 #[va, vb, vc] w fun e w' => e = .returned (.bool true) ∧ Below w.heap.size w w' := by
  by_cases qa : xa.length ≤ 100
  · by_cases qb : xb.length ≤ 100
    · by_cases qc : xc.length ≤ 100
      · cases e1 : fitsB xa xb with
        | false => exact fl_f va xa vb xb vc xc w ha hb hc qa qb qc _ _ e1 rfl rfl
        | true => cases e2 : fitsB xb xa with
          | false => cases e3 : fitsB xb xc with
            | false => exact fl_tff va xa vb xb vc xc w ha hb hc qa qb qc e1 e2 e3
            | true => exact fl_tft va xa vb xb vc xc w ha hb hc qa qb qc e1 e2 e3
          | true => cases e3 : fitsB xb xc with
            | false => exact fl_ttf va xa vb xb vc xc w ha hb hc qa qb qc e1 e2 e3
            | true => exact fl_ttt va xa vb xb vc xc w ha hb hc qa qb qc e1 e2 e3
      · exact fitsl_long2 va xa vb xb vc xc w ha hb hc qa qb (by omega) mc
    · exact fitsl_long1 va xa vb xb vc xc w ha hb hc qa (by omega) mb
  · exact fitsl_long0 va xa vb xb vc xc w ha hb hc (by omega) ma
end Go.Proofs.Yticlgblfdiapiaa
