/-
  Steps of a run: lists of structs that hold lists; maps from numbers to numbers.
-/
import Derived.Test.YtpgaifnblafcfaaS
import Derived.Test.YtpgaifnblafcfaaV2
import Derived.Test.YtpgaifnblafcfaaM
import Derived.Test.YtpgaifnblafcfaaO
import Derived.BigQuiet
set_option linter.unusedVariables false
namespace Go.Proofs.Ytpgaifnblafcfaa
open Go.RowKit Go.BigFrame Go.ChangeShapes Go.WideShapes Go.Deep

structure Stp where
  rd : List Int
  ho : List Int
  pid : Int
def Stp.none : Stp := ⟨[], [], 0⟩
def stp (l : List Stp) (j : Nat) : Stp := l.getD j Stp.none
/-- The cells of one step. -/
def StC (w : World) (c : Nat → Value) (s : Stp) : Prop := Sl w (c 0) s.rd ∧ Sl w (c 1) s.ho ∧ c 2 = .int .i64 s.pid
/-- v is a slice of steps. -/
def Sts (w : World) (v : Value) (l : List Stp) : Prop := ∃ a cap, v = .slice a l.length cap ∧ (l = [] ∨ ∃ g off, a = some ⟨g, off, none⟩ ∧ g < w.heap.size ∧ ∃ ps : Nat → Nat → Value, ∀ i, i < l.length → StC w (ps i) (stp l i) ∧ ∀ j, j < 3 → w.cell? ⟨g, off + (i * 3 + j), none⟩ = some (ps i j))
theorem StC.touch {w w' : World} {c : Nat → Value} {s : Stp} (h : StC w c s) (ht : Touch [] w w') : StC w' c s := ⟨h.1.touch ht (by simp), h.2.1.touch ht (by simp), h.2.2⟩
theorem Sts.touch {w w' : World} {v : Value} {l : List Stp} (h : Sts w v l) (ht : Touch [] w w') : Sts w' v l := by
  obtain ⟨a, cap, rfl, h⟩ := h
  refine ⟨a, cap, rfl, ?_⟩
  rcases h with h | ⟨g, off, rfl, hg, ps, hp⟩
  · exact .inl h
  · refine .inr ⟨g, off, rfl, Nat.lt_of_lt_of_le hg ht.size, ps, fun i hi => ⟨(hp i hi).1.touch ht, fun j hj => ?_⟩⟩
    rw [World.cell?_of_block (w := w) (a := ⟨g, off + (i * 3 + j), none⟩) (ht.block g hg (by simp))]
    exact (hp i hi).2 j hj
theorem Sts.form {w : World} {v : Value} {l : List Stp} (h : Sts w v l) : ∃ a c, v = .slice a l.length c := by obtain ⟨a, c, h, _⟩ := h; exact ⟨a, c, h⟩
/-- One step's place and cells. -/
theorem Sts.at {w : World} {a : Option Addr} {n cap : Nat} {l : List Stp} (h : Sts w (.slice a n cap) l) {i : Nat} (hi : i < l.length) : ∃ g off, a = some ⟨g, off, none⟩ ∧ ∃ c0 c1 : Value, Sl w c0 (stp l i).rd ∧ Sl w c1 (stp l i).ho ∧
    ∀ w', Touch [] w w' → w'.cell? ⟨g, off + i * 3, none⟩ = some c0 ∧ w'.cell? ⟨g, off + i * 3 + 1, none⟩ = some c1 ∧ w'.cell? ⟨g, off + i * 3 + 2, none⟩ = some (.int .i64 (stp l i).pid) := by
  obtain ⟨a', cap', he, h⟩ := h
  cases he
  rcases h with h | ⟨g, off, rfl, hg, ps, hp⟩
  · subst h; simp at hi
  · obtain ⟨⟨q0, q1, q2⟩, hc⟩ := hp i hi
    refine ⟨g, off, rfl, ps i 0, ps i 1, q0, q1, fun w' ht => ?_⟩
    have hc' : ∀ j, j < 3 → w'.cell? ⟨g, off + (i * 3 + j), none⟩ = some (ps i j) := fun j hj => by
      rw [World.cell?_of_block (w := w) (a := ⟨g, off + (i * 3 + j), none⟩) (ht.block g hg (by simp))]; exact hc j hj
    have d0 := hc' 0 (by omega)
    have d1 := hc' 1 (by omega)
    have d2 := hc' 2 (by omega)
    rw [Nat.add_zero] at d0
    rw [← Nat.add_assoc] at d1 d2
    exact ⟨d0, d1, by rw [d2, q2]⟩
/-- A map from numbers to numbers, read as 0 where nothing is. -/
def Mc (w : World) (b : Nat) (c : Int → Int) : Prop := ∃ m n, Mp (Value.int .i64) w b m n ∧ ∀ p, (m p).getD (.int .i64 0) = .int .i64 (c p)
theorem Mc.new {w : World} : Mc (w.alloc (.map #[] 0)) w.heap.size (fun _ => 0) := ⟨_, _, Mp.new, fun p => rfl⟩
theorem Mc.touch {w w' : World} {b : Nat} {c : Int → Int} {L : List Nat} (h : Mc w b c) (ht : Touch L w w') (hb : b ∉ L) : Mc w' b c := by
  obtain ⟨m, n, h, hc⟩ := h
  exact ⟨m, n, h.touch ht hb, hc⟩
theorem Mc.lt {w : World} {b : Nat} {c : Int → Int} (h : Mc w b c) : b < w.heap.size := by
  obtain ⟨m, n, h, hc⟩ := h
  exact h.lt
theorem Mc.congr {w : World} {b : Nat} {c c' : Int → Int} (h : Mc w b c) (hc : ∀ p, c p = c' p) : Mc w b c' := by
  obtain rfl : c = c' := funext hc
  exact h
def putC (c : Int → Int) (k x : Int) : Int → Int := fun p => if p = k then x else c p
theorem zeroI (w : World) : (zeroValue 3).run Try.prog w = .ok (.int .i64 0) w := by kernel_rfl
theorem Mc.look {w : World} {b : Nat} {c : Int → Int} (h : Mc w b c) (k : Int) : (Instr.lookup 38 (.map (some b)) (.int .i64 k) false).run Try.prog w = .ok (.int .i64 (c k)) w := by
  obtain ⟨m, n, h, hc⟩ := h
  have := h.look intKey Try.underlying38 Try.underlying3 (zeroI w) k
  rw [hc] at this
  exact this
theorem Mc.put {w : World} {b : Nat} {c : Int → Int} (h : Mc w b c) (k x : Int) : ∃ w', (Instr.mapUpdate 38 (.map (some b)) (.int .i64 k) (.int .i64 x)).run Try.prog w = .ok () w' ∧ Mc w' b (putC c k x) ∧ Touch [b] w w' ∧ w'.heap.size = w.heap.size := by
  obtain ⟨m, n, h, hc⟩ := h
  obtain ⟨w', h1, h2, h3, h4⟩ := h.put intKey Try.underlying38 Try.underlying3 k (.int .i64 x)
  refine ⟨w', h1, ⟨_, _, h2, fun p => ?_⟩, h3, h4⟩
  unfold putM putC
  by_cases hp : p = k
  · rw [if_pos hp, if_pos hp]; rfl
  · rw [if_neg hp, if_neg hp]; exact hc p
section
variable {H : Type} {enc : TypeId × Value → H} {P : Program} {w : World} {base : Nat} {spare : Nat → Bool} {held : Bool}
/-- An argument that is a slice of steps. -/
theorem arg_steps {t e ti ei : TypeId} {fs : Array Field} {fuel : Nat} {a : Option Addr} {len cap : Nat} {x : DataW H × List MemPlace} (ht : P.underlying t = some (.slice e)) (he : P.underlying e = some (.struct fs)) (hti : P.underlying ti = some (.slice ei)) (hei : P.underlying ei = some (.int .i64)) (hCi : P.cellsOf ei = 1)
    (hf0 : fs[0]?.map (fun f => (f.offset, f.type)) = some (0, ti)) (hf1 : fs[1]?.map (fun f => (f.offset, f.type)) = some (1, ti)) (hf2 : fs[2]?.map (fun f => (f.offset, f.type)) = some (2, ei)) (hCti : P.cellsOf ti = 1) (hC : P.cellsOf e = 3)
    (h : DataW.trod enc P w base spare held fuel t (Value.slice a len cap).cells.toList = some x) :
    ∃ l : List Stp, l.length = len ∧ Sts w (.slice a len cap) l ∧ (∀ i, i < len → (stp l i).rd.length ≤ maxLen ∧ (stp l i).ho.length ≤ maxLen) ∧ len ≤ maxLen := by
  obtain ⟨hm, hz | ⟨g, off, rfl, hlt, hi⟩⟩ := arg_elems ht hC (by omega) h
  · subst hz
    exact ⟨[], rfl, ⟨a, cap, rfl, .inl rfl⟩, fun i hi => by omega, hm⟩
  · have h1 : ∀ i, ∃ (r : (Nat → Value) × Stp), i < len → StC w r.1 r.2 ∧ (∀ j, j < 3 → w.cell? ⟨g, off + (i * 3 + j), none⟩ = some (r.1 j)) ∧ r.2.rd.length ≤ maxLen ∧ r.2.ho.length ≤ maxLen := by
      intro i
      by_cases hil : i < len
      · obtain ⟨cs, n, y, hl, hc, htr⟩ := hi i hil
        obtain ⟨ys, n', _, _, _, hyl, hf⟩ := DataW.trod_struct he htr
        obtain ⟨f0, e0, o0⟩ : ∃ f, fs[0]? = some f ∧ (f.offset, f.type) = (0, ti) := by
          cases hq : fs[0]? with
          | none => rw [hq] at hf0; cases hf0
          | some f => rw [hq] at hf0; exact ⟨f, rfl, by simpa using hf0⟩
        obtain ⟨f1, e1, o1⟩ : ∃ f, fs[1]? = some f ∧ (f.offset, f.type) = (1, ti) := by
          cases hq : fs[1]? with
          | none => rw [hq] at hf1; cases hf1
          | some f => rw [hq] at hf1; exact ⟨f, rfl, by simpa using hf1⟩
        obtain ⟨f2, e2, o2⟩ : ∃ f, fs[2]? = some f ∧ (f.offset, f.type) = (2, ei) := by
          cases hq : fs[2]? with
          | none => rw [hq] at hf2; cases hf2
          | some f => rw [hq] at hf2; exact ⟨f, rfl, by simpa using hf2⟩
        have k0 := hf 0 f0 e0
        have k1 := hf 1 f1 e1
        have k2 := hf 2 f2 e2
        have hlt : ∀ j f, fs[j]? = some f → ∃ y, ys[j]? = some y := fun j f e => by
          have : j < fs.size := by
            by_cases h : j < fs.size
            · exact h
            · rw [Array.getElem?_eq_none (by omega)] at e; cases e
          exact ⟨_, List.getElem?_eq_getElem (by omega)⟩
        obtain ⟨y0, hy0⟩ := hlt 0 f0 e0
        obtain ⟨y1, hy1⟩ := hlt 1 f1 e1
        obtain ⟨y2, hy2⟩ := hlt 2 f2 e2
        rw [hy0] at k0
        rw [hy1] at k1
        rw [hy2] at k2
        rw [(Prod.mk.inj o0).1, (Prod.mk.inj o0).2, hCti] at k0
        rw [(Prod.mk.inj o1).1, (Prod.mk.inj o1).2, hCti] at k1
        rw [(Prod.mk.inj o2).1, (Prod.mk.inj o2).2, hCi] at k2
        obtain ⟨a0, a1, a2, rfl⟩ : ∃ a0 a1 a2, cs = [a0, a1, a2] := by
          match cs, hl with
          | [a0, a1, a2], _ => exact ⟨a0, a1, a2, rfl⟩
        simp only [List.drop_zero, List.drop_succ_cons, List.take_succ_cons, List.take_zero] at k0 k1 k2
        obtain ⟨z, hz, _, _⟩ := DataW.trod_int hei k2
        obtain rfl : a2 = .int .i64 z := by simpa using hz
        have sl : ∀ {u : Value} {n' : Nat} {y : DataW H × List MemPlace}, DataW.trod enc P w base spare held n' ti [u] = some y → ∃ xs, Sl w u xs ∧ xs.length ≤ maxLen := fun {u n' y} hu => by
          rcases open_slice hti hu with ⟨hcs, _⟩ | ⟨a', len', cap', m, n, D, Pl, hcs, _⟩
          · obtain rfl : u = .slice none 0 0 := by simpa using hcs
            exact ⟨[], Sl.nil w, by simp⟩
          · obtain rfl : u = .slice a' len' cap' := by simpa using hcs
            obtain ⟨xs, q1, q2, q3, q4⟩ := arg_ints hti hei hCi (a := a') (len := len') (cap := cap') hu
            exact ⟨xs, q2, by omega⟩
        obtain ⟨xs, s1, s2⟩ := sl k0
        obtain ⟨ys', s3, s4⟩ := sl k1
        refine ⟨(fun j => if j = 0 then a0 else if j = 1 then a1 else .int .i64 z, ⟨xs, ys', z⟩), fun _ => ⟨⟨s1, s3, rfl⟩, fun j hj => ?_, s2, s4⟩⟩
        rw [hc j hj]
        have : j = 0 ∨ j = 1 ∨ j = 2 := by omega
        rcases this with rfl | rfl | rfl <;> rfl
      · exact ⟨(fun _ => .int .i64 0, Stp.none), fun h => absurd h hil⟩
    obtain ⟨F, hF⟩ := Classical.axiomOfChoice h1
    have hg : ∀ i, i < len → stp ((List.range len).map fun i => (F i).2) i = (F i).2 := fun i hi => by simp [stp, hi]
    refine ⟨(List.range len).map fun i => (F i).2, by simp, ⟨_, cap, by simp, .inr ⟨g, off, rfl, hlt, fun i => (F i).1, fun i hi => ?_⟩⟩, fun i hi => ?_, hm⟩
    · have hi' : i < len := by simpa using hi
      rw [hg i hi']
      exact ⟨(hF i hi').1, (hF i hi').2.1⟩
    · rw [hg i hi]; exact (hF i hi).2.2
end
end Go.Proofs.Ytpgaifnblafcfaa
