/-
  Regions that draw their order, whose operations read what was there and whose callees make memory but touch nothing old: walked once, in the order of the text.
-/
import Derived.Test.YtjfnoondkgjabaaDoorK
import Derived.Deep.QuietTactic
import Derived.BigQuiet
set_option linter.unusedVariables false
namespace Go.Proofs.YtjfnoondkgjabaaDoor
open Go.RowKit

/-- A world that comes later: of what was there nothing has turned. (A structure of its own, so that the walk's simp keeps it in one piece.) -/
structure Later (w : World) where
  world : World
  ok : Touch [] w world
def Later.of {w w' : World} (h : Touch [] w w') : Later w := ⟨w', h⟩

theorem wp_region_later {P : Program} {id : Nat} {Q : Exit → Act → World → Prop} {a : Act} {w : World} {l : List Oper} (hm : P.follows .mixedOrders = true) (hB : Region.lexB .any l.toArray = true)
    (h : wpQuiet P l.toArray (fun w' => ∃ p : Later w, w' = p.world) (fun a' => ∀ w', (∃ p : Later w, w' = p.world) → Q .normal a' w') l a) : (Code.region id l.toArray true).wp P Q a w :=
  wp_region_quiet (C := fun w' => ∃ p : Later w, w' = p.world) hm hB ⟨⟨w.drew, (Touch.refl [] w).drew⟩, rfl⟩ (by simpa using h)

theorem wpList_of_quiet {P : Program} {ops : Array Oper} {C : World → Prop} {Q' : Act → Prop} {Q : Exit → Act → World → Prop} (hQ : ∀ a w, C w → Q' a → Q .normal a w) :
    ∀ (l : List Oper) (a : Act) (w : World), C w → wpQuiet P ops C Q' l a → wpList P ops Q l a w
  | [], a, w, hw, h => hQ a w hw h
  | o :: rest, a, w, hw, h => by
    unfold wpQuiet at h
    unfold wpList
    split
    · rename_i h1
      rw [if_pos h1] at h
      exact .inl (Oper.wp_of_quiet hw (fun a' w' hw' hk => wpList_of_quiet hQ rest a' w' hw' hk) h)
    · rename_i h1
      rw [if_neg h1] at h
      exact wpList_of_quiet hQ rest _ w hw h
/-- The same for a region that does not draw its order. -/
theorem wp_region_later_seq {P : Program} {id : Nat} {Q : Exit → Act → World → Prop} {a : Act} {w : World} {l : List Oper}
    (h : wpQuiet P l.toArray (fun w' => ∃ p : Later w, w' = p.world) (fun a' => ∀ w', (∃ p : Later w, w' = p.world) → Q .normal a' w') l a) : (Code.region id l.toArray false).wp P Q a w :=
  wp_region_lit (wpList_of_quiet (C := fun w' => ∃ p : Later w, w' = p.world) (Q' := fun a' => ∀ w', (∃ p : Later w, w' = p.world) → Q .normal a' w') (fun a' w' hw' hq => hq w' hw') l a w ⟨⟨w, Touch.refl _ _⟩, rfl⟩ h)

theorem Later.cell {w : World} {a : Addr} {v : Value} (p : Later w) (h : w.cell? a = some v) : p.world.cell? a = some v := by
  rw [World.cell?_of_block (p.ok.block a.block (block_lt_of_cell h) (by simp))]; exact h
theorem Later.blk {w : World} {b : Nat} {c : Array Value} {t : TypeId} (p : Later w) (h : Blk w b c t) : Blk p.world b c t := h.touch p.ok (by simp)

/-- A callee's contract, met in a later world. -/
theorem Later.met {P : Program} {f : FuncId} {args : Array Value} {w : World} {p : Later w} {v : Value}
    (h : Calls P f args p.world fun e w' => e = .returned v ∧ Touch [] p.world w') : Calls P f args p.world fun e w'' => e = .returned v ∧ ∃ q : Later w, w'' = q.world :=
  h.mono fun _ w' ⟨he, ht⟩ => ⟨he, ⟨w', p.ok.trans ht⟩, rfl⟩
theorem Later.same {P : Program} {f : FuncId} {args : Array Value} {w : World} {p : Later w} {v : Value}
    (h : Calls P f args p.world fun e w' => e = .returned v ∧ p.world = w') : Calls P f args p.world fun e w'' => e = .returned v ∧ ∃ q : Later w, w'' = q.world :=
  h.mono fun _ w' ⟨he, ht⟩ => ⟨he, p, ht.symm⟩
theorem Later.below {P : Program} {f : FuncId} {args : Array Value} {w : World} {p : Later w} {v : Value}
    (h : Calls P f args p.world fun e w' => e = .returned v ∧ Below p.world.heap.size p.world w') : Calls P f args p.world fun e w'' => e = .returned v ∧ ∃ q : Later w, w'' = q.world :=
  h.mono fun _ w' ⟨he, ht⟩ => ⟨he, ⟨w', p.ok.trans (Touch.of_below ht)⟩, rfl⟩
end Go.Proofs.YtjfnoondkgjabaaDoor
