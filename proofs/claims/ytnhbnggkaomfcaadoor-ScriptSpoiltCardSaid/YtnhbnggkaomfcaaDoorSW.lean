/-
  The shelf's contracts of a builder's WriteByte and WriteString, laid by hand at this program's numbers (the layer's tool finds no number for the type interface {} there).
-/
import Derived.Test.YtnhbnggkaomfcaaDoorSH
import Derived.Test.YtnhbnggkaomfcaaDoorND
import Derived.Shelf.Strings.BuilderK
set_option linter.unusedVariables false
namespace Go.Proofs.YtnhbnggkaomfcaaDoor
open Go Go.Shelf Go.RowKit

def ren167 : Go.Shelf.Ren := ⟨fun | 167 => 21 | 240 => 20 | 276 => 29 | n => n, fun | 0 => 0 | 4 => 4 | 5 => 5 | 9 => 9 | 20 => 20 | 37 => 37 | 70 => 36 | 72 => 39 | 75 => 41 | 80 => 45 | 164 => 67 | n => n, fun | n => n⟩
theorem lays167 : Go.Proofs.Lays.n167 Tryd.prog ren167 := {
  mixed := by kernel_rfl
  f167 := Tryd.func21.trans (congrArg some (by kernel_rfl))
  f240 := Tryd.func20.trans (congrArg some (by kernel_rfl))
  f276 := Tryd.func29.trans (congrArg some (by kernel_rfl))
  t0 := Tryd.underlying0
  a0 := Tryd.isAgg0
  z0 := Tryd.sizeOf0
  v0 := Tryd.zeroValue0
  t4 := Tryd.underlying4
  a4 := Tryd.isAgg4
  z4 := Tryd.sizeOf4
  v4 := Tryd.zeroValue4
  t5 := Tryd.underlying5
  a5 := Tryd.isAgg5
  z5 := Tryd.sizeOf5
  v5 := Tryd.zeroValue5
  t9 := Tryd.underlying9
  a9 := Tryd.isAgg9
  z9 := Tryd.sizeOf9
  v9 := Tryd.zeroValue9
  t20 := Tryd.underlying20
  a20 := Tryd.isAgg20
  z20 := Tryd.sizeOf20
  v20 := Tryd.zeroValue20
  t37 := Tryd.underlying37
  a37 := Tryd.isAgg37
  z37 := Tryd.sizeOf37
  v37 := Tryd.zeroValue37
  t70 := Tryd.underlying36
  a70 := Tryd.isAgg36
  z70 := Tryd.sizeOf36
  v70 := Tryd.zeroValue36
  t72 := Tryd.underlying39
  a72 := Tryd.isAgg39
  z72 := Tryd.sizeOf39
  v72 := Tryd.zeroValue39
  t75 := Tryd.underlying41
  a75 := Tryd.isAgg41
  z75 := Tryd.sizeOf41
  v75 := Tryd.zeroValue41
  t164 := Tryd.underlying67
  a164 := Tryd.isAgg67
  z164 := Tryd.sizeOf67
  v164 := Tryd.zeroValue67 }
theorem extra167 : Builder.Extra Tryd.prog ren167 := {
  sizeBuilder := by kernel_rfl
  liesBuilder := by kernel_rfl
  t5 := Tryd.underlying5
  a5 := Tryd.isAgg5
  z5 := Tryd.sizeOf5
  v5 := Tryd.zeroValue5
  infoByte := by kernel_rfl
  cellsByte := by kernel_rfl
  sizeByte := by kernel_rfl
  neB5 := by decide }
def ren166 : Go.Shelf.Ren := ⟨fun | 166 => 12 | 240 => 20 | 276 => 29 | n => n, fun | 0 => 0 | 3 => 3 | 4 => 4 | 5 => 5 | 9 => 9 | 20 => 20 | 37 => 37 | 70 => 36 | 72 => 39 | 75 => 41 | 80 => 45 | 164 => 67 | n => n, fun | n => n⟩
theorem lays166 : Go.Proofs.Lays.n166 Tryd.prog ren166 := {
  mixed := by kernel_rfl
  f166 := Tryd.func12.trans (congrArg some (by kernel_rfl))
  f240 := Tryd.func20.trans (congrArg some (by kernel_rfl))
  f276 := Tryd.func29.trans (congrArg some (by kernel_rfl))
  t0 := Tryd.underlying0
  a0 := Tryd.isAgg0
  z0 := Tryd.sizeOf0
  v0 := Tryd.zeroValue0
  t3 := Tryd.underlying3
  a3 := Tryd.isAgg3
  z3 := Tryd.sizeOf3
  v3 := Tryd.zeroValue3
  t4 := Tryd.underlying4
  a4 := Tryd.isAgg4
  z4 := Tryd.sizeOf4
  v4 := Tryd.zeroValue4
  t9 := Tryd.underlying9
  a9 := Tryd.isAgg9
  z9 := Tryd.sizeOf9
  v9 := Tryd.zeroValue9
  t20 := Tryd.underlying20
  a20 := Tryd.isAgg20
  z20 := Tryd.sizeOf20
  v20 := Tryd.zeroValue20
  t37 := Tryd.underlying37
  a37 := Tryd.isAgg37
  z37 := Tryd.sizeOf37
  v37 := Tryd.zeroValue37
  t70 := Tryd.underlying36
  a70 := Tryd.isAgg36
  z70 := Tryd.sizeOf36
  v70 := Tryd.zeroValue36
  t72 := Tryd.underlying39
  a72 := Tryd.isAgg39
  z72 := Tryd.sizeOf39
  v72 := Tryd.zeroValue39
  t75 := Tryd.underlying41
  a75 := Tryd.isAgg41
  z75 := Tryd.sizeOf41
  v75 := Tryd.zeroValue41
  t164 := Tryd.underlying67
  a164 := Tryd.isAgg67
  z164 := Tryd.sizeOf67
  v164 := Tryd.zeroValue67 }
theorem extra166 : Builder.Extra Tryd.prog ren166 := {
  sizeBuilder := by kernel_rfl
  liesBuilder := by kernel_rfl
  t5 := Tryd.underlying5
  a5 := Tryd.isAgg5
  z5 := Tryd.sizeOf5
  v5 := Tryd.zeroValue5
  infoByte := by kernel_rfl
  cellsByte := by kernel_rfl
  sizeByte := by kernel_rfl
  neB5 := by decide }
/-- A builder at block b, all of it from block B on, that holds these bytes. -/
def Bf (w : World) (B b : Nat) (l : List UInt8) : Prop := Lib.IsBuilderF 39 5 B b (Lib.byteCells l) w
/-- What a builder leaves of other blocks: those that hold no bytes are as they were. -/
def Kb (b : Nat) (w w' : World) : Prop := Lib.OthersKept 5 (some b) w w'
theorem Kb.trans {b : Nat} {u v w : World} (h : Kb b u v) (k : Kb b v w) : Kb b u w := Lib.OthersKept.trans h k
theorem Kb.refl (b : Nat) (w : World) : Kb b w w := Lib.OthersKept.refl _ _ _
theorem Kb.touch {b : Nat} {w w' : World} (h : Touch [] w w') : Kb b w w' := fun k o hk _ _ => (h.block k (Array.getElem?_eq_some_iff.1 hk).1 (by simp)).trans hk
theorem Blk.kb {w w' : World} {b k : Nat} {c : Array Value} {t : TypeId} (h : Blk w k c t) (hk : Kb b w w') (hb : k ≠ b) (ht : t ≠ 5) : Blk w' k c t :=
  hk k _ h (fun e => hb (Option.some.inj e)) (fun c' fz e => by cases e; exact ht rfl)
theorem Bf.touch {w w' : World} {B b : Nat} {l : List UInt8} (h : Bf w B b l) (ht : Touch [] w w') : Bf w' B b l := by
  have one : ∀ p, Lib.BuilderAtF 39 5 B b p (Lib.byteCells l) w → Lib.BuilderAtF 39 5 B b p (Lib.byteCells l) w' := by
    rintro p ⟨hB, v, hb, ⟨hl, ho⟩, hne⟩
    refine ⟨hB, v, (ht.block b (Array.getElem?_eq_some_iff.1 hb).1 (by simp)).trans hb, ⟨hl, ?_⟩, hne⟩
    rcases ho with ho | ⟨g, cap, cur, fz, h1, h2, h3, h4⟩
    · exact .inl ho
    · exact .inr ⟨g, cap, cur, fz, h1, h2, (ht.block g (Array.getElem?_eq_some_iff.1 h3).1 (by simp)).trans h3, h4⟩
  exact h.elim (fun x => .inl (one _ x)) (fun x => .inr (one _ x))
theorem Bf.new {w : World} {B : Nat} (hB : B ≤ w.heap.size) : Bf (w.alloc (.cells #[.pointer none, .slice none 0 0] 39)) B w.heap.size [] :=
  .inl ⟨hB, .slice none 0 0, heap_alloc_new w _, ⟨rfl, .inl ⟨rfl, rfl⟩⟩, by simp [Value.ownBlock]⟩
/-- What is left when a builder has been written on. -/
def BfP (B b : Nat) (l : List UInt8) (w0 w : World) (e : Ending) (w' : World) : Prop := Bf w' B b l ∧ Below B w0 w' ∧ Kb b w w'
theorem byteCells_app (a b : List UInt8) : Lib.byteCells (a ++ b) = Lib.byteCells a ++ Lib.byteCells b := by simp [Lib.byteCells]
theorem wbyte_any (b : Nat) (l : List UInt8) (c : UInt8) (w0 w : World) (h : Bf w w0.heap.size b l) (hb : Below w0.heap.size w0 w) (hlen : l.length ≤ 100000000) :
    Calls Tryd.prog 21 #[.pointer (some ⟨b, 0, none⟩), .int .u8 c.toNat] w fun e w' => e = .returned .nilIface ∧ BfP w0.heap.size b (l ++ [c]) w0 w e w' := by
  refine (Any.Builder_WriteByte_k lays167 extra167 w0.heap.size b (Lib.byteCells l) c.toNat w h (by rw [Lib.byteCells_length]; omega) hb.size).mono ?_
  rintro e w' ⟨rfl, h1, h2, h3⟩
  exact ⟨rfl, .inr (by rw [byteCells_app]; exact h1), hb.trans h2, h3⟩
theorem wstr_any (b : Nat) (l : List UInt8) (s : ByteArray) (w0 w : World) (h : Bf w w0.heap.size b l) (hb : Below w0.heap.size w0 w) (hlen : l.length ≤ 100000000) (hs : s.size ≤ 100000000) :
    Calls Tryd.prog 12 #[.pointer (some ⟨b, 0, none⟩), .string s] w fun e w' => e = .returned (.tuple #[.int .i64 s.size, .nilIface]) ∧ BfP w0.heap.size b (l ++ s.data.toList) w0 w e w' := by
  refine (Any.Builder_WriteString_k lays166 extra166 w0.heap.size b (Lib.byteCells l) s w h (by rw [Lib.byteCells_length]; omega) hb.size).mono ?_
  rintro e w' ⟨rfl, h1, h2, h3⟩
  exact ⟨rfl, .inr (by rw [byteCells_app, ← Lib.strCells_eq]; exact h1), hb.trans h2, h3⟩
theorem bstr_any (b : Nat) (l : List UInt8) (w0 w : World) (h : Bf w w0.heap.size b l) (hb : Below w0.heap.size w0 w) :
    Calls Tryd.prog 14 #[.pointer (some ⟨b, 0, none⟩)] w fun e w' => e = .returned (.string ⟨l.toArray⟩) ∧ Below w0.heap.size w0 w' := by
  refine (Any.Builder_String_any_k Tryd.lays169 Tryd.Builder_Extra_169 w0.heap.size b l w h hb.size).mono ?_
  rintro e w' ⟨rfl, h1, h2, h3⟩
  exact ⟨rfl, hb.trans h2⟩
end Go.Proofs.YtnhbnggkaomfcaaDoor
