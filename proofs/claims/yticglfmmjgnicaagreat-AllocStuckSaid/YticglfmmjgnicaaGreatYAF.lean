/-
  The program's allocator in memory.
  The program's allocator: who is in, whether units, what one holds, what one has claimed.
  Lists of lists that the call makes itself: a pair of numbers is appended.
  While the state is built: its parts, and two lists to which one element each is appended in a region that draws its order.
  A region that draws its order, whose last operations are stores into cells that it reads: one condition on the world holds throughout, another one until the first of these stores; what yields under the first, or under the second and is waited for by the stores, may be taken first.
-/
import Derived.DeepKeys5
import Derived.OrdersHeld
import Derived.Deep.RegionHeld
import Derived.Test.YticglfmmjgnicaaGreatYAE
set_option linter.unusedVariables false
set_option linter.unusedSimpArgs false
namespace Go.Proofs.YticglfmmjgnicaaGreat
open Go Go.RowKit

/-- A datum that nobody writes: its block is of F, and not of W. -/
def Im (w : World) (F W : List Nat) (v : Value) (xs : List Int) : Prop := Sl w v xs ∧ ∀ k, v.ownBlock = some k → k ∈ F ∧ k ∉ W
/-- Rows that nobody writes. -/
def Imr (w : World) (F W : List Nat) (v : Value) (l : List (List Int)) : Prop := ∃ vs : List Value, vs.length = l.length ∧ (∀ k, v.ownBlock = some k → k ∈ F ∧ k ∉ W) ∧ (∃ base, Qu w base 22 v vs) ∧ ∀ i, i < l.length → Im w F W (vs.getD i (.slice none 0 0)) (rw_ l i)
theorem Im.to {w w' : World} {F W F' W' : List Nat} {v : Value} {xs : List Int} {T : List Nat} (h : Im w F W v xs) (ht : Touch T w w') (hT : ∀ k, k ∈ T → k ∈ F → k ∈ W) (hF : ∀ k, k ∈ F → k ∈ F') (hW : ∀ k, k ∈ F → k ∈ W' → k ∈ W) : Im w' F' W' v xs :=
  ⟨h.1.touch ht (fun k hk hm => (h.2 k hk).2 (hT k hm (h.2 k hk).1)), fun k hk => ⟨hF k (h.2 k hk).1, fun hm => (h.2 k hk).2 (hW k (h.2 k hk).1 hm)⟩⟩
theorem Imr.to {w w' : World} {F W F' W' : List Nat} {v : Value} {l : List (List Int)} {T : List Nat} (h : Imr w F W v l) (ht : Touch T w w') (hT : ∀ k, k ∈ T → k ∈ F → k ∈ W) (hF : ∀ k, k ∈ F → k ∈ F') (hW : ∀ k, k ∈ F → k ∈ W' → k ∈ W) : Imr w' F' W' v l := by
  obtain ⟨vs, h1, h2, ⟨base, h3⟩, h4⟩ := h
  exact ⟨vs, h1, fun k hk => ⟨hF k (h2 k hk).1, fun hm => (h2 k hk).2 (hW k (h2 k hk).1 hm)⟩, ⟨base, h3.touch ht (fun k hk hm => (h2 k hk).2 (hT k hm (h2 k hk).1))⟩, fun i hi => (h4 i hi).to ht hT hF hW⟩
theorem Imr.rws {w : World} {F W : List Nat} {v : Value} {l : List (List Int)} (h : Imr w F W v l) : Rws w v l := by
  obtain ⟨vs, h1, h2, ⟨base, h3⟩, h4⟩ := h
  exact h3.rws h1 (fun i hi => (h4 i hi).1)
/-- Keys of a process and a class. -/
abbrev KP := {p : Int × Int // InI p.1 ∧ InI p.2}
def shK (p : KP) : Value := .agg #[.int .i64 p.1.1, .int .i64 p.1.2]
theorem wf_of {a : Int} (h : InI a) : (Lit.int .i64 a).wf = true := by
  unfold InI at h
  simp [Lit.wf, IntKind.min, IntKind.max, IntKind.signed, IntKind.bits]
  omega
theorem sh_cells : Tryz.prog.cellsOf 111 = 2 := by kernel_rfl
theorem sh_cellsI : Tryz.prog.cellsOf 3 = 1 := by kernel_rfl
theorem sh_lits (d : Nat) {a b : Int} (ha : InI a) (hb : InI b) : ∃ ls, Tryz.prog.keyLits (d + 2) 111 [.int .i64 a, .int .i64 b] = some ls := by
  have e1 : Tryz.prog.keyLits (d + 1) 3 [.int .i64 a] = some [.int .i64 a] := by simp [Program.keyLits, Tryz.underlying3, wf_of ha]
  have e2 : Tryz.prog.keyLits (d + 1) 3 [.int .i64 b] = some [.int .i64 b] := by simp [Program.keyLits, Tryz.underlying3, wf_of hb]
  unfold Program.keyLits
  simp [Tryz.underlying111, sh_cells, sh_cellsI, e1, e2]
theorem sh_two : 1 < Tryz.prog.types.size := of_decide_eq_true (by kernel_rfl)
theorem sh_of (k : KP) : ∃ l, keyOf Tryz.prog 111 (shK k) = some l := by
  obtain ⟨⟨a, b⟩, ha, hb⟩ := k
  obtain ⟨d, hd⟩ : ∃ d, Tryz.prog.types.size + 1 = d + 2 := by
    have h := sh_two
    generalize Tryz.prog.types.size = N at h ⊢
    exact ⟨N - 1, by omega⟩
  obtain ⟨ls, hls⟩ := sh_lits d ha hb
  have hk : Tryz.prog.keyType 111 = true := by kernel_rfl
  refine ⟨.string (keyBytes ls), ?_⟩
  unfold keyOf
  simp only [Tryz.underlying111]
  rw [hk, hd]
  simp [shK, Value.formed, Value.cells, Tryz.underlying111, sh_cells, hls]
theorem sh_inj (k k' : KP) (h : shK k = shK k') : k = k' := by
  obtain ⟨⟨a, b⟩, _⟩ := k
  obtain ⟨⟨c, d⟩, _⟩ := k'
  simp [shK] at h
  obtain ⟨rfl, rfl⟩ := h
  rfl
theorem shWide : (match Tryz.prog.underlying 111 with | some (.array _ _) | some (.struct _) => true | _ => false) = true := by rw [Tryz.underlying111]
theorem shLaid : laidOutB Tryz.prog = true := by kernel_rfl
theorem shRow : (111 : TypeId) < Tryz.prog.types.size := of_decide_eq_true (by kernel_rfl)
theorem shDeep : Tryz.prog.keyTypeAt 2 111 = true := by kernel_rfl
set_option maxRecDepth 100000 in
theorem shKey : KeyR Tryz.prog 111 shK :=
  KeyR.of (Maps.Keyed.of_law (deep_law_laid shLaid (m := 2) (by omega) shRow shDeep shWide)) sh_of sh_inj
/-- What is pending, as cells. -/
def askF (l : List (Int × List Int)) (pu : Nat → Value) (i j : Nat) : Value := if j = 0 then .int .i64 (l.getD i (0, [])).1 else pu i
structure PaP where
  tv : Value
  bc : Nat
  bh : Nat
  pv : Value
  sv : Value
  mc : Int → Option Value
  mh : KP → Option Value
  nh : Nat
  pu : Nat → Value
  pd : List (Int × List Int)
def PaP.W (p : PaP) (b : Nat) : List Nat := [b, p.bc, p.bh] ++ p.pv.ownBlock.toList
/-- The state that has been looked at. -/
structure StP (w : World) (F W : List Nat) (s : Nat) (pv av hv cv : Value) (m : Am) : Prop where
  obj : ∃ x, Blk w s #[.int .u32 1, .int .i32 0, x, pv, av, hv, cv] 89
  f : s ∈ F ∧ s ∉ W
  ps : Im w F W pv m.ps
  av : Im w F W av m.avl
  hs : Imr w F W hv m.hs
  cs : Imr w F W cv m.cs
/-- All of it but what has been looked at. -/
structure Pb (w : World) (F : List Nat) (b : Nat) (m : Am) (p : PaP) : Prop where
  obj : Blk w b #[p.tv, .bool m.clm, .map (some p.bc), .map (some p.bh), p.pv, p.sv] 73
  lt : ∀ k, k ∈ F → k < w.heap.size
  fw : ∀ k, k ∈ p.W b → k ∈ F
  nd : (p.W b).Nodup
  tot : Im w F (p.W b) p.tv m.tot
  mc : Mp (Value.int .i64) w p.bc p.mc m.ps.length
  mcv : ∀ q, (q ∈ m.ps → ∃ v, p.mc q = some v ∧ Im w F (p.W b) v (m.claim q)) ∧ (q ∉ m.ps → p.mc q = none)
  mh : Mp shK w p.bh p.mh p.nh
  mhv : ∀ k : KP, p.mh k = if k.1.1 ∈ m.ps ∧ 0 ≤ k.1.2 ∧ k.1.2 < m.tot.length ∧ (m.held k.1.1).getD k.1.2.toNat 0 ≠ 0 then some (.int .i64 ((m.held k.1.1).getD k.1.2.toNat 0)) else none
  pend : ∃ base, Av w base 58 2 p.pv p.pd.length (askF p.pd p.pu)
  pu : ∀ i, i < p.pd.length → Im w F (p.W b) (p.pu i) (p.pd.getD i (0, [])).2
structure Pa (w : World) (F : List Nat) (b : Nat) (m : Am) (p : PaP) : Prop extends Pb w F b m p where
  seen : p.sv = .pointer none ∨ ∃ s pv av hv cv, p.sv = .pointer (some ⟨s, 0, none⟩) ∧ StP w F (p.W b) s pv av hv cv m
/-- All new blocks. -/
def grow (F : List Nat) (w w' : World) : List Nat := F ++ List.range' w.heap.size (w'.heap.size - w.heap.size)
theorem grow_mem {F : List Nat} {w w' : World} {k : Nat} : k ∈ grow F w w' ↔ k ∈ F ∨ (w.heap.size ≤ k ∧ k < w'.heap.size) := by
  unfold grow
  rw [List.mem_append, List.mem_range'_1]
  constructor
  · rintro (h | ⟨h1, h2⟩)
    · exact .inl h
    · exact .inr ⟨h1, by omega⟩
  · rintro (h | ⟨h1, h2⟩)
    · exact .inl h
    · exact .inr ⟨h1, by omega⟩
theorem grow_fr {F : List Nat} {w w' : World} (hl : ∀ k, k ∈ F → k < w.heap.size) (ht : Touch F w w') : Fr F w (grow F w w') w' :=
  ⟨ht, fun k hk => by rcases grow_mem.1 hk with h | h; exact .inl h; exact .inr h.1, fun k hk => by rcases grow_mem.1 hk with h | h; exact Nat.lt_of_lt_of_le (hl k h) ht.size; exact h.2⟩
theorem StP.to {w w' : World} {F W F' W' : List Nat} {s : Nat} {pv av hv cv : Value} {m : Am} {T : List Nat} (h : StP w F W s pv av hv cv m) (ht : Touch T w w') (hT : ∀ k, k ∈ T → k ∈ F → k ∈ W) (hF : ∀ k, k ∈ F → k ∈ F') (hW : ∀ k, k ∈ F → k ∈ W' → k ∈ W) : StP w' F' W' s pv av hv cv m := by
  obtain ⟨⟨x, hx⟩, h2, h3, h4, h5, h6⟩ := h
  exact ⟨⟨x, hx.touch ht (fun hm => h2.2 (hT s hm h2.1))⟩, ⟨hF s h2.1, fun hm => h2.2 (hW s h2.1 hm)⟩, h3.to ht hT hF hW, h4.to ht hT hF hW, h5.to ht hT hF hW, h6.to ht hT hF hW⟩
/-- Calls that touch nothing of it leave it as it is; its blocks may be told to be more. -/
theorem Pb.touch {w w' : World} {F F' : List Nat} {b : Nat} {m : Am} {p : PaP} {T : List Nat} (h : Pb w F b m p) (ht : Touch T w w') (hT : ∀ k, k ∈ T → k ∉ F) (hF : ∀ k, k ∈ F → k ∈ F') (hl : ∀ k, k ∈ F' → k < w'.heap.size) : Pb w' F' b m p := by
  have hw : ∀ k, k ∈ T → k ∈ F → k ∈ p.W b := fun k h1 h2 => absurd h2 (hT k h1)
  have hn : ∀ k, k ∈ p.W b → k ∉ T := fun k hk hm => hT k hm (h.fw k hk)
  have hs : ∀ k, k ∈ F → k ∈ p.W b → k ∈ p.W b := fun k _ hk => hk
  obtain ⟨base, hp⟩ := h.pend
  refine ⟨h.obj.touch ht (hn b (by simp [PaP.W])), hl, fun k hk => hF k (h.fw k hk), h.nd, h.tot.to ht hw hF hs, h.mc.touch ht (hn _ (by simp [PaP.W])), fun q => ⟨fun hq => ?_, (h.mcv q).2⟩, h.mh.touch ht (hn _ (by simp [PaP.W])), h.mhv, ⟨base, hp.touch ht (fun k hk => hn k (by simp [PaP.W, hk]))⟩, fun i hi => (h.pu i hi).to ht hw hF hs⟩
  obtain ⟨v, h1, h2⟩ := (h.mcv q).1 hq
  exact ⟨v, h1, h2.to ht hw hF hs⟩
theorem Pa.touch {w w' : World} {F F' : List Nat} {b : Nat} {m : Am} {p : PaP} {T : List Nat} (h : Pa w F b m p) (ht : Touch T w w') (hT : ∀ k, k ∈ T → k ∉ F) (hF : ∀ k, k ∈ F → k ∈ F') (hl : ∀ k, k ∈ F' → k < w'.heap.size) : Pa w' F' b m p := by
  refine ⟨h.toPb.touch ht hT hF hl, ?_⟩
  rcases h.seen with e | ⟨s, pv, av, hv, cv, e, h1⟩
  · exact .inl e
  · exact .inr ⟨s, pv, av, hv, cv, e, h1.to ht (fun k h1 h2 => absurd h2 (hT k h1)) hF (fun k _ hk => hk)⟩
theorem Pb.same {w w' : World} {F : List Nat} {b : Nat} {m : Am} {p : PaP} (h : Pb w F b m p) (ht : Touch [] w w') : Pb w' F b m p := h.touch ht (by simp) (fun k hk => hk) (fun k hk => Nat.lt_of_lt_of_le (h.lt k hk) ht.size)
theorem Pa.same {w w' : World} {F : List Nat} {b : Nat} {m : Am} {p : PaP} (h : Pa w F b m p) (ht : Touch [] w w') : Pa w' F b m p := h.touch ht (by simp) (fun k hk => hk) (fun k hk => Nat.lt_of_lt_of_le (h.lt k hk) ht.size)
theorem Pa.more {w w' : World} {F : List Nat} {b : Nat} {m : Am} {p : PaP} (h : Pa w F b m p) (ht : Touch [] w w') : Pa w' (grow F w w') b m p :=
  h.touch ht (by simp) (fun k hk => grow_mem.2 (.inl hk)) (fun k hk => by rcases grow_mem.1 hk with e | e; exact Nat.lt_of_lt_of_le (h.lt k e) ht.size; exact e.2)
/-- The list that is pending in memory is the table's own matter (p.pd); the model's may be another one while the list is gone through. -/
theorem StP.withP {w : World} {F W : List Nat} {s : Nat} {pv av hv cv : Value} {m : Am} (h : StP w F W s pv av hv cv m) (q : List (Int × List Int)) : StP w F W s pv av hv cv (m.withP q) := ⟨h.obj, h.f, h.ps, h.av, h.hs, h.cs⟩
theorem Pb.withP {w : World} {F : List Nat} {b : Nat} {m : Am} {p : PaP} (h : Pb w F b m p) (q : List (Int × List Int)) : Pb w F b (m.withP q) p := ⟨h.obj, h.lt, h.fw, h.nd, h.tot, h.mc, h.mcv, h.mh, h.mhv, h.pend, h.pu⟩
theorem Pa.withP {w : World} {F : List Nat} {b : Nat} {m : Am} {p : PaP} (h : Pa w F b m p) (q : List (Int × List Int)) : Pa w F b (m.withP q) p :=
  ⟨h.toPb.withP q, by
    rcases h.seen with e | ⟨s, pv, av, hv, cv, e, h1⟩
    · exact .inl e
    · exact .inr ⟨s, pv, av, hv, cv, e, h1.withP q⟩⟩
end Go.Proofs.YticglfmmjgnicaaGreat

set_option linter.unusedVariables false
namespace Go.Proofs.YticglfmmjgnicaaGreat
open Go Go.RowKit

theorem Pb.blk {w : World} {F : List Nat} {b : Nat} {m : Am} {p : PaP} (h : Pb w F b m p) : Blk w b #[p.tv, .bool m.clm, .map (some p.bc), .map (some p.bh), p.pv, p.sv] 73 := h.obj
theorem Pb.isIn {w : World} {F : List Nat} {b : Nat} {m : Am} {p : PaP} (h : Pb w F b m p) (q : Int) : (p.mc q).isSome = decide (q ∈ m.ps) := by
  by_cases hq : q ∈ m.ps
  · obtain ⟨v, e, _⟩ := (h.mcv q).1 hq
    rw [e, dT hq]; rfl
  · rw [(h.mcv q).2 hq, dF hq]; rfl
theorem isIn_any (w : World) (F : List Nat) (b : Nat) (m : Am) (p : PaP) (q : Int) (h : Pb w F b m p) : Calls Tryz.prog 51 #[.pointer (some ⟨b, 0, none⟩), .int .i64 q] w fun e w' => e = .returned (.bool (decide (q ∈ m.ps))) ∧ w = w' := by
  have hk := h.mc.lookRO q
  have c2 := h.blk.cell (i := 2) rfl
  rw [h.isIn q] at hk
  obtain ⟨B, hB⟩ : ∃ B, decide (q ∈ m.ps) = B := ⟨_, rfl⟩
  rw [hB] at hk ⊢
  clear h hB
  go_enter Tryz.func51, Tryz.ntmps51
  go_wp2
  go_ret
  exact ⟨rfl, rfl⟩
theorem areUnits_any (w : World) (F : List Nat) (b : Nat) (m : Am) (p : PaP) (v : Value) (u : List Int) (h : Pb w F b m p) (hm : m.tot.length ≤ 6) (hu : Sl w v u) : Calls Tryz.prog 62 #[.pointer (some ⟨b, 0, none⟩), v] w fun e w' => e = .returned (.bool (isB u m.tot.length)) ∧ w = w' := by
  have c0 := h.blk.cell (i := 0) rfl
  obtain ⟨ta, tc, ht⟩ := h.tot.1.form
  rw [ht] at c0
  obtain ⟨n, hn⟩ : ∃ n, m.tot.length = n := ⟨_, rfl⟩
  have HU := Lib.hid hu
  rw [hn] at c0 hm ⊢
  obtain ⟨ua, uc, rfl⟩ := hu.form
  obtain ⟨B, hB⟩ : ∃ B, isB u n = B := ⟨_, rfl⟩
  have HB := Lib.hid hB
  rw [hB]
  clear h ht hn hu hB
  go_enter Tryz.func62, Tryz.ntmps62
  go_wp2_with fail
  refine (is_w _ u (n : Int) B _ HU.out (by omega) HB.out).mono ?_
  rintro e w1 ⟨rfl, rfl⟩
  go_wp2
  go_ret
  exact ⟨rfl, rfl⟩
theorem zeroI (w : World) : (zeroValue 3).run Tryz.prog w = .ok (.int .i64 0) w := by kernel_rfl
theorem Mp.lookS {w : World} {b n : Nat} {m : KP → Option Value} (h : Mp shK w b m n) (k : KP) : (Instr.lookup 70 (.map (some b)) (shK k) false).run Tryz.prog w = .ok ((m k).getD (.int .i64 0)) w :=
  h.lookG shKey Tryz.underlying70 (zeroI w) k
/-- What one holds of a class, as the map has it. -/
theorem Pb.hv {w : World} {F : List Nat} {b : Nat} {m : Am} {p : PaP} (h : Pb w F b m p) {q : Int} (hq : q ∈ m.ps) {c : Nat} (hc : c < m.tot.length) (hk : InI q ∧ InI (c : Int)) : (p.mh ⟨(q, (c : Int)), hk⟩).getD (.int .i64 0) = .int .i64 ((m.held q).getD c 0) := by
  rw [h.mhv]
  show (if q ∈ m.ps ∧ 0 ≤ (c : Int) ∧ (c : Int) < m.tot.length ∧ (m.held q).getD (c : Int).toNat 0 ≠ 0 then some (Value.int .i64 ((m.held q).getD (c : Int).toNat 0)) else none).getD (.int .i64 0) = _
  rw [Int.toNat_natCast]
  by_cases e : (m.held q).getD c 0 = 0
  · rw [if_neg (fun h => h.2.2.2 e), e]; rfl
  · rw [if_pos ⟨hq, by omega, by omega, e⟩]; rfl
def rowF (xs : List Int) (k : Nat) : Nat → Int := fun j => if j < k then xs.getD j 0 else 0
theorem rowF_all {xs : List Int} {n : Nat} (hl : xs.length = n) : (rowA (rowF xs n) n).toList = xs.map (Value.int .i64) := by
  subst hl
  apply List.ext_getElem?
  intro j
  by_cases h : j < xs.length
  · simp [rowA, rowF, h]
  · rw [List.getElem?_eq_none (by simp [rowA]; omega), List.getElem?_eq_none (by simp; omega)]
theorem rowF_set (xs : List Int) (n k : Nat) : (rowA (rowF xs k) n).setIfInBounds k (.int .i64 (xs.getD k 0)) = rowA (rowF xs (k + 1)) n := by
  rw [rowA_set]
  apply rowA_congr
  intro j hj
  unfold rowF
  by_cases e : j = k
  · subst e; rw [if_pos rfl, if_pos (by omega)]
  · rw [if_neg e]
    by_cases h : j < k
    · rw [if_pos h, if_pos (by omega)]
    · rw [if_neg h, if_neg (by omega)]
set_option maxHeartbeats 4000000 in
theorem row_any (w : World) (F : List Nat) (b : Nat) (m : Am) (p : PaP) (q : Int) (h : Pb w F b m p) (hm : m.tot.length ≤ 6) (hq : q ∈ m.ps) (hl : (m.held q).length = m.tot.length) (hi : InI q) : Calls Tryz.prog 52 #[.pointer (some ⟨b, 0, none⟩), .int .i64 q] w (Own (m.held q) w) := by
  have c0 := h.blk.cell (i := 0) rfl
  obtain ⟨ta, tc, ht⟩ := h.tot.1.form
  rw [ht] at c0
  obtain ⟨n, hn⟩ : ∃ n, m.tot.length = n := ⟨_, rfl⟩
  have HP := Lib.hid h
  have HN := Lib.hid hn
  have HHL := Lib.hid hl
  rw [hn] at c0 hm
  obtain ⟨xs, hxs⟩ : ∃ xs, m.held q = xs := ⟨_, rfl⟩
  have HXS := Lib.hid hxs
  rw [hxs]
  have HQ := Lib.hid hq
  have HI := Lib.hid hi
  have hmk := run_mk_of (P := Tryz.prog) 22 3 Tryz.underlying22 (by kernel_rfl) n (by omega) w
  clear h ht hn hl hq hi hxs
  have hb : Blk (w.alloc (.cells (rowA (fun _ => 0) n) 3)) w.heap.size (rowA (rowF xs 0) n) 3 := by
    rw [show rowF xs 0 = (fun _ => 0) from by funext j; simp [rowF]]
    exact Blk.new rfl
  have HB := Lib.hid hb
  have HT := Lib.hid ((Touch.refl [] w).alloc (.cells (rowA (fun _ => 0) n) 3))
  clear hb
  go_enter Tryz.func52, Tryz.ntmps52
  go_wp2_with fail
  clear hmk c0
  go_loopw [15] (fun i wr => ∃ j : Nat, j ≤ n ∧ i = .int .i64 j ∧ Blk wr w.heap.size (rowA (rowF xs j) n) 3 ∧ Touch [] w wr) (fun i _ => n + 1 - (intOf i).toNat)
  case atStart => exact ⟨0, by omega, rfl, HB.out, HT.out⟩
  case round =>
    clear HB HT
    obtain ⟨j, hj, rfl, hb, ht⟩ := hrel
    have HT := Lib.hid ht
    have HB := Lib.hid hb
    by_cases hjn : j < n
    · have hlt : (j : Int) < (n : Int) := by omega
      have hp := HP.out.same ht
      have hj1 : InI (j : Int) := by unfold InI; omega
      have hlk0 := hp.mh.lookS ⟨(q, (j : Int)), HI.out, hj1⟩
      rw [hp.hv HQ.out (by rw [HN.out]; exact hjn) ⟨HI.out, hj1⟩, HXS.out] at hlk0
      have hlk : (Instr.lookup 70 (.map (some p.bh)) (.agg #[.int .i64 q, .int .i64 (j : Int)]) false).run Tryz.prog wr = .ok (.int .i64 (xs.getD j 0)) wr := hlk0
      have c3 := hp.blk.cell (i := 3) rfl
      have hc : wr.cell? ⟨w.heap.size, j, none⟩ = some (.int .i64 0) := hb.cell (by rw [rowA_get _ _ _ hjn]; simp [rowF])
      have hf := hb.free j
      obtain ⟨y, hy⟩ : ∃ x, xs.getD j 0 = x := ⟨_, rfl⟩
      have HS : Hid (Blk (wr.setCell ⟨w.heap.size, j, none⟩ (.int .i64 y)) w.heap.size (rowA (rowF xs (j + 1)) n) 3) := Lib.hid (by rw [← rowF_set, hy]; exact hb.set j _)
      have HT2 : Hid (Touch [] w (wr.setCell ⟨w.heap.size, j, none⟩ (.int .i64 y))) := Lib.hid (HT.out.setNew (Nat.le_refl _) _)
      rw [hy] at hlk
      clear hlk0
      clear ht hb hp hy hj1
      go_wp2
      go_roundw
      case rel => exact ⟨j + 1, by omega, by go_num, HS.out, HT2.out⟩
      case measure => simp [intOf]; omega
    · have hlt : ¬ (j : Int) < (n : Int) := by omega
      obtain rfl : j = n := by omega
      have hxl : xs.length = j := by rw [← HXS.out, HHL.out, HN.out]
      have HF : Hid (Qu wr w.heap.size 3 (.slice (some ⟨w.heap.size, 0, none⟩) j j) (xs.map (Value.int .i64))) := Lib.hid (.inr ⟨_, 0, j, _, by simp [hxl], Nat.le_refl _, hb, by simp [hxl], by unfold maxLen; omega, by simp [rowA_size], fun i hi => by
        rw [Nat.zero_add, ← Array.getElem?_toList, rowF_all hxl]⟩)
      clear ht hb hxl
      go_wp2
      go_ret
      exact ⟨_, rfl, HF.out, HT.out⟩
theorem held_in (w : World) (F : List Nat) (b : Nat) (m : Am) (p : PaP) (q : Int) (h : Pb w F b m p) (hm : m.tot.length ≤ 6) (hq : q ∈ m.ps) (hl : (m.held q).length = m.tot.length) (hi : InI q) : Calls Tryz.prog 19 #[.pointer (some ⟨b, 0, none⟩), .int .i64 q] w (Own (m.held q) w) := by
  have H1 := Lib.hid (isIn_any w F b m p q h)
  have H2 := Lib.hid (row_any w F b m p q h hm hq hl hi)
  have hd : decide (q ∈ m.ps) = true := dT hq
  rw [hd] at H1
  clear h hm hq hl hi hd
  go_enter Tryz.func19, Tryz.ntmps19
  go_wp2_with fail
  refine H1.out.mono ?_
  rintro e w1 ⟨rfl, rfl⟩
  go_wp2_with fail
  refine H2.out.mono ?_
  rintro e w1 ⟨v, rfl, hq, ht⟩
  have HF := Lib.hid (And.intro hq ht)
  clear hq ht
  go_wp2
  go_ret
  exact ⟨_, rfl, HF.out.1, HF.out.2⟩
theorem claim_in (w : World) (F : List Nat) (b : Nat) (m : Am) (p : PaP) (q : Int) (h : Pb w F b m p) (hq : q ∈ m.ps) (hl : (m.claim q).length ≤ 6) : Calls Tryz.prog 20 #[.pointer (some ⟨b, 0, none⟩), .int .i64 q] w (Own (m.claim q) w) := by
  have H1 := Lib.hid (isIn_any w F b m p q h)
  have hd : decide (q ∈ m.ps) = true := dT hq
  rw [hd] at H1
  obtain ⟨v, hv, hs⟩ := (h.mcv q).1 hq
  have hk := h.mc.lookR q
  rw [hv] at hk
  have hk : (Instr.lookup 69 (.map (some p.bc)) (.int .i64 q) false).run Tryz.prog w = .ok v w := hk
  have c2 := h.blk.cell (i := 2) rfl
  obtain ⟨va, vc, rfl⟩ := hs.1.form
  have H2 := Lib.hid (clone_any _ _ w hs.1 (by omega))
  clear h hq hl hd hv hs
  go_enter Tryz.func20, Tryz.ntmps20
  go_wp2_with fail
  refine H1.out.mono ?_
  rintro e w1 ⟨rfl, rfl⟩
  go_wp2_with fail
  refine H2.out.mono ?_
  rintro e w1 ⟨v, rfl, hq, ht⟩
  have HF := Lib.hid (And.intro hq ht)
  clear hq ht hk c2
  go_wp2
  go_ret
  exact ⟨_, rfl, HF.out.1, HF.out.2⟩
end Go.Proofs.YticglfmmjgnicaaGreat

set_option linter.unusedVariables false
namespace Go.Proofs.YticglfmmjgnicaaGreat
open Go.RowKit

/-- v is a list of the call's own; its elements' numbers lie in the blocks D. -/
def Lr (w : World) (base : Nat) (v : Value) (l : List (List Int)) (D : List Nat) : Prop :=
  ∃ vs : List Value, Qu w base 22 v vs ∧ vs.length = l.length ∧ ∀ i, i < l.length → Sl w (vs.getD i (.slice none 0 0)) (rw_ l i) ∧ ∀ k, (vs.getD i (.slice none 0 0)).ownBlock = some k → k ∈ D
theorem Lr.rws {w : World} {base : Nat} {v : Value} {l : List (List Int)} {D : List Nat} (h : Lr w base v l D) : Rws w v l := by
  obtain ⟨vs, h1, h2, h3⟩ := h
  exact h1.rws h2 (fun i hi => (h3 i hi).1)
theorem Lr.touch {w w' : World} {base : Nat} {v : Value} {l : List (List Int)} {D T : List Nat} (h : Lr w base v l D) (ht : Touch T w w') (h1 : ∀ k, v.ownBlock = some k → k ∉ T) (h2 : ∀ k, k ∈ D → k ∉ T) : Lr w' base v l D := by
  obtain ⟨vs, q1, q2, q3⟩ := h
  exact ⟨vs, q1.touch ht h1, q2, fun i hi => ⟨(q3 i hi).1.touch ht (fun k hk => h2 k ((q3 i hi).2 k hk)), (q3 i hi).2⟩⟩
theorem Lr.form {w : World} {base : Nat} {v : Value} {l : List (List Int)} {D : List Nat} (h : Lr w base v l D) : ∃ a c, v = .slice a l.length c := h.rws.form
theorem Lr.own {w : World} {base : Nat} {v : Value} {l : List (List Int)} {D : List Nat} (h : Lr w base v l D) : ∀ k, v.ownBlock = some k → base ≤ k ∧ k < w.heap.size := by
  obtain ⟨vs, q1, q2, q3⟩ := h
  exact q1.own
theorem Lr.wider {w : World} {base : Nat} {v : Value} {l : List (List Int)} {D D' : List Nat} (h : Lr w base v l D) (hD : ∀ k, k ∈ D → k ∈ D') : Lr w base v l D' := by
  obtain ⟨vs, q1, q2, q3⟩ := h
  exact ⟨vs, q1, q2, fun i hi => ⟨(q3 i hi).1, fun k hk => hD k ((q3 i hi).2 k hk)⟩⟩
/-- An empty one. -/
theorem Lr.empty {w : World} {base : Nat} (hb : base ≤ w.heap.size) : Lr (w.alloc (.cells #[] 22)) base (.slice (some ⟨w.heap.size, 0, none⟩) 0 0) [] [] :=
  ⟨[], Qu.made rfl hb rfl (Nat.zero_le _), rfl, fun i hi => by simp at hi⟩
theorem infoR : ∃ i0 : TypeInfo, Tryz.prog.info? 22 = some i0 ∧ i0.zero = some (.slice none 0 0) ∧ i0.size = 1 ∧ i0.bytes = 24 :=
  info_parts (show (Tryz.prog.info? 22).map (fun i => (i.zero, i.size, i.bytes)) = some (some (.slice none 0 0), 1, 24) from by kernel_rfl)
theorem rw_snoc_old (l : List (List Int)) (x : List Int) {i : Nat} (h : i < l.length) : rw_ (l ++ [x]) i = rw_ l i := by
  unfold rw_
  rw [List.getD_eq_getElem?_getD, List.getD_eq_getElem?_getD, List.getElem?_append_left h]
theorem rw_snoc_new (l : List (List Int)) (x : List Int) : rw_ (l ++ [x]) l.length = x := by
  unfold rw_
  rw [List.getD_eq_getElem?_getD, List.getElem?_append_right (Nat.le_refl _)]
  simp
theorem Lr.append {w : World} {base : Nat} {v : Value} {l : List (List Int)} {D : List Nat} (h : Lr w base v l D) (hbase : base ≤ w.heap.size) (hD : ∀ k, k ∈ D → k < w.heap.size) (hv : ∀ k, v.ownBlock = some k → k ∉ D) (hl : l.length ≤ 1000) (a b : Int) :
    ∃ v' w3, (∀ ty, (Builtin.append_ #[45, 45] ty #[v, .slice (some ⟨w.heap.size + 1, 0, none⟩) 1 1]).run Tryz.prog ((w.alloc (.cells #[.int .i64 a, .int .i64 b] 3)).alloc (.cells #[.slice (some ⟨w.heap.size, 0, none⟩) 2 2] 22)) = .ok v' w3) ∧
      Lr w3 base v' (l ++ [[a, b]]) (w.heap.size :: D) ∧ Touch v.ownBlock.toList w w3 ∧ (∀ k, v'.ownBlock = some k → v.ownBlock = some k ∨ w.heap.size + 2 ≤ k) ∧ w.heap.size + 2 ≤ w3.heap.size ∧ ∃ a' c', v' = .slice a' (l.length + 1) c' := by
  obtain ⟨i0, hi, hz0, hz1, hz2⟩ := infoR
  obtain ⟨vs, q1, q2, q3⟩ := h
  have hown := q1.own
  have t2 : Touch [] w ((w.alloc (.cells #[.int .i64 a, .int .i64 b] 3)).alloc (.cells #[.slice (some ⟨w.heap.size, 0, none⟩) 2 2] 22)) := ((Touch.refl [] w).alloc _).alloc _
  obtain ⟨W2, hW2⟩ : ∃ W, ((w.alloc (.cells #[.int .i64 a, .int .i64 b] 3)).alloc (.cells #[.slice (some ⟨w.heap.size, 0, none⟩) 2 2] 22)) = W := ⟨_, rfl⟩
  have hsz : W2.heap.size = w.heap.size + 2 := by rw [← hW2]; simp
  have hx : W2.cell? ⟨w.heap.size + 1, 0, none⟩ = some (.slice (some ⟨w.heap.size, 0, none⟩) 2 2) := by
    rw [← hW2]
    exact (Blk.new (w := w.alloc (.cells #[.int .i64 a, .int .i64 b] 3)) (b := w.heap.size + 1) (by simp)).cell (i := 0) rfl
  have hp : Sl W2 (.slice (some ⟨w.heap.size, 0, none⟩) 2 2) [a, b] := by
    rw [← hW2]
    exact Sl.alloc ⟨_, 2, rfl, .inr ⟨w.heap.size, 0, rfl, by simp, row2 w a b _ _ rfl⟩⟩ _
  rw [hW2] at t2 ⊢
  have q1' := q1.touch t2 (fun _ _ => by simp)
  obtain ⟨v', w3, hr, hq, hg, hn⟩ := q1'.append (t := 45) Tryz.underlying45 hi hz0 hz1 hz2 rfl (by omega) ⟨w.heap.size + 1, 0, none⟩ 1 _ hx rfl (by omega) (by omega)
  have t3 : Touch v.ownBlock.toList W2 w3 := (Touch.refl _ W2).grown hg (fun k hk _ => Option.mem_toList.2 hk)
  refine ⟨v', w3, hr, ⟨_, hq, by simp [q2], fun i hi => ?_⟩, (t2.mono (by simp)).trans t3, fun k hk => ?_, by have := t3.size; omega, ?_⟩
  · by_cases hil : i < l.length
    · rw [rw_snoc_old _ _ hil, show (vs ++ [Value.slice (some ⟨w.heap.size, 0, none⟩) 2 2]).getD i (.slice none 0 0) = vs.getD i (.slice none 0 0) from by
        rw [List.getD_eq_getElem?_getD, List.getD_eq_getElem?_getD, List.getElem?_append_left (by omega)]]
      obtain ⟨p1, p2⟩ := q3 i hil
      exact ⟨(p1.touch t2 (by simp)).touch t3 (fun k hk hm => hv k (Option.mem_toList.1 hm) (p2 k hk)), fun k hk => List.mem_cons_of_mem _ (p2 k hk)⟩
    · have : i = l.length := by simp at hi; omega
      subst this
      rw [rw_snoc_new, show (vs ++ [Value.slice (some ⟨w.heap.size, 0, none⟩) 2 2]).getD l.length (.slice none 0 0) = .slice (some ⟨w.heap.size, 0, none⟩) 2 2 from by
        rw [List.getD_eq_getElem?_getD, List.getElem?_append_right (by omega), q2]; simp]
      exact ⟨hp.touch t3 (fun k hk hm => by
        have e : w.heap.size = k := by simpa [Value.ownBlock] using hk
        have := (hown k (Option.mem_toList.1 hm)).2
        omega), fun k hk => by have e : w.heap.size = k := by simpa [Value.ownBlock] using hk
                               simp [e]⟩
  · rcases hn k hk with h | h
    · exact .inl h
    · exact .inr (by omega)
  · obtain ⟨a', c', he, _⟩ := hq.shape
    exact ⟨a', c', by rw [he]; simp [q2]⟩
end Go.Proofs.YticglfmmjgnicaaGreat

set_option linter.unusedVariables false
namespace Go.Proofs.YticglfmmjgnicaaGreat
open Go Go.RowKit

theorem Own.im {W w' : World} {F S : List Nat} {v : Value} {xs : List Int} (h : Qu w' W.heap.size 3 v (xs.map (Value.int .i64))) (hS : ∀ k, k ∈ S → k < W.heap.size) : Im w' (grow F W w') S v xs :=
  ⟨h.sl, fun k hk => by
    have := h.own k hk
    exact ⟨grow_mem.2 (.inr ⟨this.1, this.2⟩), fun hm => by have := hS k hm; omega⟩⟩
/-- The state's cells while it is built. -/
def stC (x pv av hv cv : Value) : Array Value := #[.int .u32 0, .int .i32 1, x, pv, av, hv, cv]
structure LkI (W wr : World) (s : Nat) (x pv av hv cv : Value) (ps A : List Int) (rows : Nat → List Int) (vs us : List Value) : Prop where
  t : Touch [s] W wr
  sl : s < W.heap.size
  obj : Blk wr s (stC x pv av hv cv) 89
  p : Qu wr W.heap.size 3 pv (ps.map (Value.int .i64))
  a : Qu wr W.heap.size 3 av (A.map (Value.int .i64))
  h : Qu wr W.heap.size 22 hv vs
  c : Qu wr W.heap.size 22 cv us
  ap : ∀ k, av.ownBlock = some k → pv.ownBlock ≠ some k ∧ hv.ownBlock ≠ some k ∧ cv.ownBlock ≠ some k
  hp : ∀ k, hv.ownBlock = some k → pv.ownBlock ≠ some k ∧ cv.ownBlock ≠ some k
  cp : ∀ k, cv.ownBlock = some k → pv.ownBlock ≠ some k
  r : ∀ i, i < vs.length → Qu wr W.heap.size 3 (vs.getD i (.slice none 0 0)) ((rows i).map (Value.int .i64)) ∧ ∀ k, (vs.getD i (.slice none 0 0)).ownBlock = some k → av.ownBlock ≠ some k ∧ hv.ownBlock ≠ some k ∧ cv.ownBlock ≠ some k
section
variable {W wr w' : World} {s : Nat} {x pv av hv cv : Value} {ps A : List Int} {rows : Nat → List Int} {vs us : List Value}
theorem LkI.touch (h : LkI W wr s x pv av hv cv ps A rows vs us) (ht : Touch [] wr w') : LkI W w' s x pv av hv cv ps A rows vs us :=
  ⟨h.t.trans (ht.mono (by simp)), h.sl, h.obj.touch ht (by simp), h.p.touch ht (fun _ _ => by simp), h.a.touch ht (fun _ _ => by simp), h.h.touch ht (fun _ _ => by simp), h.c.touch ht (fun _ _ => by simp), h.ap, h.hp, h.cp, fun i hi => ⟨(h.r i hi).1.touch ht (fun _ _ => by simp), (h.r i hi).2⟩⟩
theorem LkI.start (ht : Touch [] W wr) (hs : s < W.heap.size) (ho : Blk wr s (stC x (.slice none 0 0) (.slice none 0 0) (.slice none 0 0) (.slice none 0 0)) 89) (hp : Qu wr W.heap.size 3 pv (ps.map (Value.int .i64))) :
    LkI W (wr.setCell ⟨s, 3, none⟩ pv) s x pv (.slice none 0 0) (.slice none 0 0) (.slice none 0 0) ps [] rows [] [] := by
  have t : Touch [s] wr (wr.setCell ⟨s, 3, none⟩ pv) := (Touch.refl [s] wr).setCell (by simp) _
  exact ⟨(ht.mono (by simp)).trans t, hs, ho.set 3 pv, hp.touch t (fun k hk hm => by have := (hp.own k hk).1; simp at hm; omega), Qu.nil _ _ _, Qu.nil _ _ _, Qu.nil _ _ _, fun k hk => by simp [Value.ownBlock] at hk, fun k hk => by simp [Value.ownBlock] at hk, fun k hk => by simp [Value.ownBlock] at hk, fun i hi => by simp at hi⟩
/-- What there is in all is laid. -/
theorem LkI.avail (h : LkI W wr s x pv (.slice none 0 0) (.slice none 0 0) (.slice none 0 0) ps [] rows [] []) {av' : Value} {A' : List Int} {w9 : World} (ht : Touch [] wr w9) (ha : Qu w9 wr.heap.size 3 av' (A'.map (Value.int .i64))) :
    LkI W (w9.setCell ⟨s, 4, none⟩ av') s x pv av' (.slice none 0 0) (.slice none 0 0) ps A' rows [] [] := by
  have h0 := h
  have h := h.touch ht
  have t : Touch [s] w9 (w9.setCell ⟨s, 4, none⟩ av') := (Touch.refl [s] w9).setCell (by simp) _
  have hWr : W.heap.size ≤ wr.heap.size := h0.t.size
  refine ⟨h.t.trans t, h.sl, h.obj.set 4 av', h.p.touch t (fun k hk hm => by have := (h.p.own k hk).1; have := h.sl; simp at hm; omega), (ha.mono hWr).touch t (fun k hk hm => by have := (ha.own k hk).1; have := h.sl; simp at hm; omega), Qu.nil _ _ _, Qu.nil _ _ _, fun k hk => ⟨fun e => ?_, by simp [Value.ownBlock], by simp [Value.ownBlock]⟩, fun k hk => by simp [Value.ownBlock] at hk, fun k hk => by simp [Value.ownBlock] at hk, fun i hi => by simp at hi⟩
  have h1 := (ha.own k hk).1
  have h2 := (h0.p.own k e).2
  omega
/-- One number of what there is turns. -/
theorem LkI.setAv (h : LkI W wr s x pv av hv cv ps A rows vs us) {k : Nat} (hk : k < A.length) : ∃ g off c, av = .slice (some ⟨g, off, none⟩) A.length c ∧ wr.cell? ⟨g, off + k, none⟩ = some (.int .i64 (A.getD k 0)) ∧ (∀ i, wr.frozen? ⟨g, i, none⟩ = false) ∧ W.heap.size ≤ g ∧ g < wr.heap.size ∧
    (∀ v zs, Qu wr W.heap.size 3 v zs → (∀ q, v.ownBlock = some q → av.ownBlock ≠ some q) → ∀ y, Qu (wr.setCell ⟨g, off + k, none⟩ (.int .i64 y)) W.heap.size 3 v zs) ∧ Touch [g] wr (wr.setCell ⟨g, off + k, none⟩ (.int .i64 0)) ∧
    ∀ y, LkI W (wr.setCell ⟨g, off + k, none⟩ (.int .i64 y)) s x pv av hv cv ps (A.set k y) rows vs us := by
  obtain ⟨g, off, c, e, hg, hgl, hf, hc, hset⟩ := h.a.setI k hk
  have hown : av.ownBlock = some g := by rw [e]; rfl
  have t : ∀ y, Touch [g] wr (wr.setCell ⟨g, off + k, none⟩ (.int .i64 y)) := fun y => (Touch.refl [g] wr).setCell (by simp) _
  obtain ⟨a1, a2, a3⟩ := h.ap g hown
  refine ⟨g, off, c, e, hc, hf, hg, hgl, fun v zs hv hq y => hv.touch (t y) (fun q hq' hm => hq q hq' (by simp at hm; rw [hm]; exact hown)), t 0, fun y => ⟨h.t.setNew hg _, h.sl, h.obj.other (by have := h.sl; simp; omega) _, h.p.touch (t y) (fun q hq hm => a1 (by simp at hm; rw [← hm]; exact hq)), hset y, h.h.touch (t y) (fun q hq hm => a2 (by simp at hm; rw [← hm]; exact hq)), h.c.touch (t y) (fun q hq hm => a3 (by simp at hm; rw [← hm]; exact hq)), h.ap, h.hp, h.cp, fun i hi => ⟨(h.r i hi).1.touch (t y) (fun q hq hm => by have := ((h.r i hi).2 q hq).1; simp at hm; rw [hm] at this; exact this hown), (h.r i hi).2⟩⟩⟩
end
/-- Two lists, to each of which one element is put: what was there first, what has been built for each. -/
structure Tw (W w : World) (base : Nat) (A0 B0 : List Nat) (va vb : Value) (xa xb : List Value) (ra rb : Value) (pa pb : Option Nat) : Prop where
  a : Qu w base 22 va xa
  b : Qu w base 22 vb xb
  d : ∀ k, va.ownBlock = some k → vb.ownBlock ≠ some k
  t : Touch (A0 ++ B0) W w
  na : ∀ k, va.ownBlock = some k → k ∈ A0 ∨ W.heap.size ≤ k
  nb : ∀ k, vb.ownBlock = some k → k ∈ B0 ∨ W.heap.size ≤ k
  ga : ∀ k, pa = some k → Blk w k #[ra] 22 ∧ W.heap.size ≤ k ∧ va.ownBlock ≠ some k ∧ vb.ownBlock ≠ some k
  gb : ∀ k, pb = some k → Blk w k #[rb] 22 ∧ W.heap.size ≤ k ∧ va.ownBlock ≠ some k ∧ vb.ownBlock ≠ some k
section
variable {W w : World} {base : Nat} {A0 B0 : List Nat} {va vb : Value} {xa xb : List Value} {ra rb : Value} {pa pb : Option Nat}
theorem Tw.start (ha : Qu W base 22 va xa) (hb : Qu W base 22 vb xb) (hd : ∀ k, va.ownBlock = some k → vb.ownBlock ≠ some k) : Tw W W.drew base va.ownBlock.toList vb.ownBlock.toList va vb xa xb ra rb none none :=
  ⟨ha, hb, hd, (Touch.refl _ _).drew, fun k hk => .inl (by simp [hk]), fun k hk => .inl (by simp [hk]), fun k h => (by cases h), fun k h => (by cases h)⟩
theorem Tw.alloc (h : Tw W w base A0 B0 va vb xa xb ra rb pa pb) (o : Obj) : Tw W (w.alloc o) base A0 B0 va vb xa xb ra rb pa pb :=
  ⟨h.a.alloc _, h.b.alloc _, h.d, h.t.alloc _, h.na, h.nb, fun k hk => ⟨(h.ga k hk).1.alloc _, (h.ga k hk).2⟩, fun k hk => ⟨(h.gb k hk).1.alloc _, (h.gb k hk).2⟩⟩
theorem Tw.bA (h : Tw W w base A0 B0 va vb xa xb ra rb none pb) {n : Nat} (hn : n = w.heap.size) : Tw W (w.alloc (.cells #[ra] 22)) base A0 B0 va vb xa xb ra rb (some n) pb := by
  have h1 := h.alloc (.cells #[ra] 22)
  refine ⟨h1.a, h1.b, h1.d, h1.t, h1.na, h1.nb, fun k hk => ?_, h1.gb⟩
  cases hk
  subst hn
  exact ⟨Blk.new rfl, h.t.size, fun e => by have := (h.a.own _ e).2; omega, fun e => by have := (h.b.own _ e).2; omega⟩
theorem Tw.bB (h : Tw W w base A0 B0 va vb xa xb ra rb pa none) {n : Nat} (hn : n = w.heap.size) : Tw W (w.alloc (.cells #[rb] 22)) base A0 B0 va vb xa xb ra rb pa (some n) := by
  have h1 := h.alloc (.cells #[rb] 22)
  refine ⟨h1.a, h1.b, h1.d, h1.t, h1.na, h1.nb, h1.ga, fun k hk => ?_⟩
  cases hk
  subst hn
  exact ⟨Blk.new rfl, h.t.size, fun e => by have := (h.a.own _ e).2; omega, fun e => by have := (h.b.own _ e).2; omega⟩
theorem Tw.swap (h : Tw W w base A0 B0 va vb xa xb ra rb pa pb) : Tw W w base B0 A0 vb va xb xa rb ra pb pa :=
  ⟨h.b, h.a, fun k hk e => h.d k e hk, h.t.mono (fun k hk => by rw [List.mem_append] at hk ⊢; exact hk.symm), h.nb, h.na, fun k hk => ⟨(h.gb k hk).1, (h.gb k hk).2.1, (h.gb k hk).2.2.2, (h.gb k hk).2.2.1⟩, fun k hk => ⟨(h.ga k hk).1, (h.ga k hk).2.1, (h.ga k hk).2.2.2, (h.ga k hk).2.2.1⟩⟩
theorem Tw.appA {k : Nat} (h : Tw W w base A0 B0 va vb xa xb ra rb (some k) pb) (hbase : base ≤ W.heap.size) (h1 : ra.oneCell' = true) (hl : xa.length ≤ 1000) (c : Nat) :
    ∃ v' w', (∀ ty, (Builtin.append_ #[45, 45] ty #[va, .slice (some ⟨k, 0, none⟩) 1 c]).run Tryz.prog w = .ok v' w') ∧ Tw W w' base A0 B0 v' vb (xa ++ [ra]) xb ra rb none pb := by
  obtain ⟨i0, hi, hz0, hz1, hz2⟩ := infoR
  obtain ⟨g1, g2, g3, g4⟩ := h.ga k rfl
  obtain ⟨v', w', hr, hq, hg, hn⟩ := h.a.append (t := 45) Tryz.underlying45 hi hz0 hz1 hz2 rfl (Nat.le_trans hbase h.t.size) ⟨k, 0, none⟩ c ra (g1.cell (i := 0) rfl) h1 (by omega) (by omega)
  have ht : Touch va.ownBlock.toList w w' := (Touch.refl _ w).grown hg (fun q hq _ => Option.mem_toList.2 hq)
  refine ⟨v', w', hr, hq, h.b.touch ht (fun q hq hm => h.d q (Option.mem_toList.1 hm) hq), fun q hq e => ?_, h.t.transF ht (fun q hq hlt => by rcases h.na q (Option.mem_toList.1 hq) with e | e; exact List.mem_append.2 (.inl e); omega), fun q hq => ?_, h.nb, fun q hq => (by cases hq), fun q hq => ?_⟩
  · rcases hn q hq with n | n
    · exact h.d q n e
    · have := (h.b.own q e).2; omega
  · rcases hn q hq with n | n
    · exact h.na q n
    · have := h.t.size; exact .inr (by omega)
  · obtain ⟨b1, b2, b3, b4⟩ := h.gb q hq
    refine ⟨b1.touch ht (fun hm => b3 (Option.mem_toList.1 hm)), b2, fun e => ?_, b4⟩
    rcases hn q e with n | n
    · exact b3 n
    · have := b1.lt; omega
theorem Tw.appB {k : Nat} (h : Tw W w base A0 B0 va vb xa xb ra rb pa (some k)) (hbase : base ≤ W.heap.size) (h1 : rb.oneCell' = true) (hl : xb.length ≤ 1000) (c : Nat) :
    ∃ v' w', (∀ ty, (Builtin.append_ #[45, 45] ty #[vb, .slice (some ⟨k, 0, none⟩) 1 c]).run Tryz.prog w = .ok v' w') ∧ Tw W w' base A0 B0 va v' xa (xb ++ [rb]) ra rb pa none := by
  obtain ⟨v', w', hr, h2⟩ := h.swap.appA hbase h1 hl c
  exact ⟨v', w', hr, h2.swap⟩
/-- The steps. -/
theorem step_twA {ops : Array Oper} {o : Oper} {a : Act} {K : Act → World → Prop} {Q : Exit → Act → World → Prop} {E : Prop} {k c : Nat} (hgd : o.guard = none) (s x : Operand)
    (ho : o.op = .call { callee := .builtin .append, args := #[s, x], argTypes := #[45, 45] }) (hs : a.eval s = va) (hx : a.eval x = .slice (some ⟨k, 0, none⟩) 1 c) (h : Tw W w base A0 B0 va vb xa xb ra rb (some k) pb) (hbase : base ≤ W.heap.size) (h1 : ra.oneCell' = true) (hl : xa.length ≤ 1000)
    (hk : ∀ v' w', Tw W w' base A0 B0 v' vb (xa ++ [ra]) xb ra rb none pb → K (a.put o.dst v') w') : if Region.wanted o (yielded ops a.tmps) = true then Oper.wp Tryz.prog o a w K Q else E := by
  have hw : Region.wanted o (yielded ops a.tmps) = true := by simp [Region.wanted, hgd]
  rw [if_pos hw]
  obtain ⟨v', w', hr, h2⟩ := h.appA hbase h1 hl c
  have hr' := hr o.type
  unfold Oper.wp execOp
  simp only [ho, resolve, invoke, builtin, Sem.run_bind, Sem.run_pure, Result.andThen_ok, List.map_toArray, List.map_cons, List.map_nil, hs, hx, hr']
  exact hk v' w' h2
theorem step_twB {ops : Array Oper} {o : Oper} {a : Act} {K : Act → World → Prop} {Q : Exit → Act → World → Prop} {E : Prop} {k c : Nat} (hgd : o.guard = none) (s x : Operand)
    (ho : o.op = .call { callee := .builtin .append, args := #[s, x], argTypes := #[45, 45] }) (hs : a.eval s = vb) (hx : a.eval x = .slice (some ⟨k, 0, none⟩) 1 c) (h : Tw W w base A0 B0 va vb xa xb ra rb pa (some k)) (hbase : base ≤ W.heap.size) (h1 : rb.oneCell' = true) (hl : xb.length ≤ 1000)
    (hk : ∀ v' w', Tw W w' base A0 B0 va v' xa (xb ++ [rb]) ra rb pa none → K (a.put o.dst v') w') : if Region.wanted o (yielded ops a.tmps) = true then Oper.wp Tryz.prog o a w K Q else E := by
  have hw : Region.wanted o (yielded ops a.tmps) = true := by simp [Region.wanted, hgd]
  rw [if_pos hw]
  obtain ⟨v', w', hr, h2⟩ := h.appB hbase h1 hl c
  have hr' := hr o.type
  unfold Oper.wp execOp
  simp only [ho, resolve, invoke, builtin, Sem.run_bind, Sem.run_pure, Result.andThen_ok, List.map_toArray, List.map_cons, List.map_nil, hs, hx, hr']
  exact hk v' w' h2
end
/-- Both lists have one more: the state goes on. -/
theorem LkI.both {W wr w' : World} {s : Nat} {x pv av hv cv hv' cv' ra rb : Value} {ps A : List Int} {rows : Nat → List Int} {vs us : List Value} (h : LkI W wr s x pv av hv cv ps A rows vs us) (ht : Tw wr w' W.heap.size hv.ownBlock.toList cv.ownBlock.toList hv' cv' (vs ++ [ra]) (us ++ [rb]) ra rb none none)
    (hr : Qu wr W.heap.size 3 ra ((rows vs.length).map (Value.int .i64))) (hra : ∀ k, ra.ownBlock = some k → av.ownBlock ≠ some k ∧ hv.ownBlock ≠ some k ∧ cv.ownBlock ≠ some k) :
    LkI W ((w'.setCell ⟨s, 5, none⟩ hv').setCell ⟨s, 6, none⟩ cv') s x pv av hv' cv' ps A rows (vs ++ [ra]) (us ++ [rb]) := by
  have ts : Touch [s] w' ((w'.setCell ⟨s, 5, none⟩ hv').setCell ⟨s, 6, none⟩ cv') := ((Touch.refl [s] w').setCell (by simp) _).setCell (by simp) _
  have hs0 := h.sl
  have nos : ∀ k, k ∈ hv.ownBlock.toList ++ cv.ownBlock.toList → W.heap.size ≤ k ∧ (hv.ownBlock = some k ∨ cv.ownBlock = some k) := fun k hk => by
    rcases List.mem_append.1 hk with hk | hk
    · exact ⟨(h.h.own k (Option.mem_toList.1 hk)).1, .inl (Option.mem_toList.1 hk)⟩
    · exact ⟨(h.c.own k (Option.mem_toList.1 hk)).1, .inr (Option.mem_toList.1 hk)⟩
  have kp : ∀ {v : Value} {e : TypeId} {zs : List Value}, Qu wr W.heap.size e v zs → (∀ k, v.ownBlock = some k → hv.ownBlock ≠ some k ∧ cv.ownBlock ≠ some k) → Qu ((w'.setCell ⟨s, 5, none⟩ hv').setCell ⟨s, 6, none⟩ cv') W.heap.size e v zs := fun {v e zs} hq hn =>
    (hq.touch ht.t (fun k hk hm => by rcases (nos k hm).2 with q | q; exact (hn k hk).1 q; exact (hn k hk).2 q)).touch ts (fun k hk hm => by have := (hq.own k hk).1; simp at hm; omega)
  have own' : ∀ k, hv'.ownBlock = some k → hv.ownBlock = some k ∨ wr.heap.size ≤ k := fun k hk => by rcases ht.na k hk with q | q; exact .inl (Option.mem_toList.1 q); exact .inr q
  have own2 : ∀ k, cv'.ownBlock = some k → cv.ownBlock = some k ∨ wr.heap.size ≤ k := fun k hk => by rcases ht.nb k hk with q | q; exact .inl (Option.mem_toList.1 q); exact .inr q
  have away : ∀ {v : Value} {e : TypeId} {zs : List Value}, Qu wr W.heap.size e v zs → (∀ k, v.ownBlock = some k → hv.ownBlock ≠ some k ∧ cv.ownBlock ≠ some k) → ∀ k, v.ownBlock = some k → hv'.ownBlock ≠ some k ∧ cv'.ownBlock ≠ some k := fun {v e zs} hq hn k hk => by
    have hlt := (hq.own k hk).2
    exact ⟨fun q => by rcases own' k q with q | q; exact (hn k hk).1 q; omega, fun q => by rcases own2 k q with q | q; exact (hn k hk).2 q; omega⟩
  have hpv : ∀ k, pv.ownBlock = some k → hv.ownBlock ≠ some k ∧ cv.ownBlock ≠ some k := fun k hk => ⟨fun e => (h.hp k e).1 hk, fun e => h.cp k e hk⟩
  have hav : ∀ k, av.ownBlock = some k → hv.ownBlock ≠ some k ∧ cv.ownBlock ≠ some k := fun k hk => (h.ap k hk).2
  refine ⟨(h.t.transF ht.t (fun k hk hl => by have := (nos k hk).1; omega)).trans ts, h.sl, ((h.obj.touch ht.t (fun hm => by have := (nos s hm).1; omega)).set 5 hv').set 6 cv', kp h.p hpv, kp h.a hav, ht.a.touch ts (fun k hk hm => ?_), ht.b.touch ts (fun k hk hm => ?_), fun k hk => ⟨(h.ap k hk).1, away h.a hav k hk⟩, fun k hk => ⟨fun e => (away h.p hpv k e).1 hk, ht.d k hk⟩, fun k hk e => (away h.p hpv k e).2 hk, fun i hi => ?_⟩
  · have := (ht.a.own k hk).1; simp at hm; omega
  · have := (ht.b.own k hk).1; simp at hm; omega
  · rw [List.length_append, List.length_singleton] at hi
    by_cases e : i < vs.length
    · rw [show (vs ++ [ra]).getD i (.slice none 0 0) = vs.getD i (.slice none 0 0) from by rw [List.getD_eq_getElem?_getD, List.getD_eq_getElem?_getD, List.getElem?_append_left e]]
      obtain ⟨r1, r2⟩ := h.r i e
      exact ⟨kp r1 (fun k hk => (r2 k hk).2), fun k hk => ⟨(r2 k hk).1, away r1 (fun k hk => (r2 k hk).2) k hk⟩⟩
    · obtain rfl : i = vs.length := by omega
      rw [show (vs ++ [ra]).getD vs.length (.slice none 0 0) = ra from by rw [List.getD_eq_getElem?_getD, List.getElem?_append_right (Nat.le_refl _)]; simp]
      exact ⟨kp hr (fun k hk => (hra k hk).2), fun k hk => ⟨(hra k hk).1, away hr (fun k hk => (hra k hk).2) k hk⟩⟩
/-- Between: some numbers have been taken off. -/
def partS (A h : List Int) (j : Nat) : List Int := (List.range A.length).map fun c => if c < j then A.getD c 0 - h.getD c 0 else A.getD c 0
theorem partS_length (A h : List Int) (j : Nat) : (partS A h j).length = A.length := by simp [partS]
theorem partS_zero (A h : List Int) : partS A h 0 = A := by
  apply List.ext_getElem?
  intro k
  by_cases hk : k < A.length
  · simp [partS, hk]
  · rw [List.getElem?_eq_none (by rw [partS_length]; omega), List.getElem?_eq_none (by omega)]
theorem partS_all (A h : List Int) : partS A h A.length = subW A h := by
  unfold partS subW
  apply List.map_congr_left
  intro k hk
  rw [if_pos (List.mem_range.1 hk)]
theorem partS_get (A h : List Int) (j : Nat) (hj : j < A.length) : (partS A h j).getD j 0 = A.getD j 0 := by simp [partS, hj]
theorem partS_set (A h : List Int) (j : Nat) : (partS A h j).set j (A.getD j 0 - h.getD j 0) = partS A h (j + 1) := by
  apply List.ext_getElem?
  intro k
  by_cases hk : k < A.length
  · by_cases e : j = k
    · subst e
      simp [partS, hk]
    · rw [List.getElem?_set_ne e]
      simp only [partS, List.getElem?_map, List.getElem?_range hk, Option.map_some]
      by_cases h2 : k < j
      · rw [if_pos h2, if_pos (by omega)]
      · rw [if_neg h2, if_neg (by omega)]
  · rw [List.getElem?_eq_none (by simp [partS]; omega), List.getElem?_eq_none (by simp [partS]; omega)]
theorem avlL_nil (tot : List Int) (held : Int → List Int) : avlL tot [] held = tot := by
  apply List.ext_getElem?
  intro k
  by_cases hk : k < tot.length
  · simp [avlL, hk, sumF]
  · rw [List.getElem?_eq_none (by rw [avlL_length]; omega), List.getElem?_eq_none (by omega)]
theorem take_snocA {l : List Int} {k : Nat} (hk : k < l.length) : l.take (k + 1) = l.take k ++ [l.getD k 0] := by
  rw [List.take_add_one, List.getElem?_eq_getElem hk, List.getD_eq_getElem?_getD, List.getElem?_eq_getElem hk]
  rfl
theorem avlL_step {tot ps : List Int} {held : Int → List Int} {k : Nat} (hk : k < ps.length) : subW (avlL tot (ps.take k) held) (held (ps.getD k 0)) = avlL tot (ps.take (k + 1)) held := by
  rw [take_snocA hk]
  unfold subW
  rw [avlL_length]
  conv => rhs; unfold avlL
  apply List.map_congr_left
  intro c hc
  rw [List.mem_range] at hc
  rw [avlL_get _ _ _ hc, sumF_snoc]
  omega
theorem Am.Ok.take_bd {m : Am} (h : m.Ok) {k c : Nat} (hc : c < m.tot.length) : 0 ≤ (avlL m.tot (m.ps.take k) m.held).getD c 0 ∧ (avlL m.tot (m.ps.take k) m.held).getD c 0 ≤ 1000 := by
  have h1 := sumF_sub (f := fun q => (m.held q).getD c 0) (fun q => h.h0 q c) (m.ps.take k) m.ps ((rise_nd h.rise).sublist (List.take_sublist _ _)) (fun i hi => List.mem_of_mem_take hi)
  have h2 := sumF_nonneg (f := fun q => (m.held q).getD c 0) (fun q => h.h0 q c) (m.ps.take k)
  have h3 := h.av c hc
  have h4 := h.tb c hc
  unfold Am.avl at h3
  rw [avlL_get _ _ _ hc] at h3 ⊢
  omega
end Go.Proofs.YticglfmmjgnicaaGreat

set_option linter.unusedVariables false
namespace Go.Proofs.YticglfmmjgnicaaGreat
open Go Go.RowKit

section
variable {P : Program} {ops : Array Oper} {Q : Exit → Act → World → Prop} {md : Region.Mode} {S T : World → Prop} {st : List Nat}
def freshT (st : List Nat) (listed : Array Bool) : Bool := st.all fun k => !listed.getD k true
/-- Operation k waits for i, by whichever others. -/
def waits (md : Region.Mode) (ops : Array Oper) : Nat → Nat → Nat → Bool
  | 0, _, _ => false
  | f + 1, k, i => match ops[k]? with
    | some o => o.after.any fun e => Region.binds md e && (e.on == i || waits md ops f e.on i)
    | none => false
def waitT (md : Region.Mode) (ops : Array Oper) (st : List Nat) (i : Nat) : Bool := st.all fun k => waits md ops 8 k i
/-- What has come up has come up behind all that it waits for. -/
def shutT (md : Region.Mode) (ops : Array Oper) (l : Array Bool) : Bool := (List.range ops.size).all fun k => !l.getD k false || match ops[k]? with
  | some o => o.after.all fun e => !Region.binds md e || l.getD e.on false
  | none => true
theorem shutT_at {l : Array Bool} (h : shutT md ops l = true) {k : Nat} {o : Oper} (ho : ops[k]? = some o) (hk : l.getD k false = true) {e : Edge} (he : e ∈ o.after) (hb : Region.binds md e = true) : l.getD e.on false = true := by
  have hlt : k < ops.size := by
    rcases Nat.lt_or_ge k ops.size with h' | h'
    · exact h'
    · rw [Array.getElem?_eq_none h'] at ho; cases ho
  have h1 := List.all_eq_true.1 h k (List.mem_range.2 hlt)
  rw [hk, ho] at h1
  simp only [Bool.not_true, Bool.false_or] at h1
  have h2 := Array.all_eq_true'.1 h1 e he
  rw [hb] at h2
  simpa using h2
theorem waits_not {l : Array Bool} (h : shutT md ops l = true) {i : Nat} (hi : l.getD i false = false) : ∀ (f k : Nat), waits md ops f k i = true → l.getD k false = false
  | 0, _, hw => by cases hw
  | f + 1, k, hw => by
    unfold waits at hw
    cases ho : ops[k]? with
    | none => rw [ho] at hw; cases hw
    | some o =>
      rw [ho] at hw
      obtain ⟨e, he, h2⟩ := Array.any_eq_true'.1 hw
      rw [Bool.and_eq_true, Bool.or_eq_true] at h2
      cases hk : l.getD k false with
      | false => rfl
      | true =>
        have h3 := shutT_at h ho hk he h2.1
        rcases h2.2 with h4 | h4
        · rw [show e.on = i by simpa using h4, hi] at h3; cases h3
        · rw [waits_not h hi f e.on h4] at h3; cases h3
theorem shutT_set {l : Array Bool} (h : shutT md ops l = true) {j : Nat} (hj : j ∈ Region.ready md ops l) : shutT md ops (l.setIfInBounds j true) = true := by
  refine List.all_eq_true.2 fun k hk => ?_
  obtain ⟨_, oj, hoj, hall⟩ := mem_ready.1 hj
  cases ho : ops[k]? with
  | none => simp
  | some o =>
    by_cases hkj : k = j
    · subst hkj
      rw [ho] at hoj
      cases hoj
      simp only [Bool.or_eq_true]
      refine .inr (Array.all_eq_true'.2 fun e he => ?_)
      cases hb : Region.binds md e with
      | false => rfl
      | true => simp [getD_set_true (hall e he hb)]
    · cases hl : l.getD k false with
      | false => rw [getD_set_ne false (Ne.symm hkj), hl]; rfl
      | true =>
        simp only [Bool.or_eq_true]
        refine .inr (Array.all_eq_true'.2 fun e he => ?_)
        cases hb : Region.binds md e with
        | false => rfl
        | true => simp [getD_set_true (shutT_at h ho hl he hb)]
theorem freshT_set {l : Array Bool} {j : Nat} (h : freshT st l = true) (hj : j ∉ st) : freshT st (l.setIfInBounds j true) = true := by
  refine List.all_eq_true.2 fun k hk => ?_
  have := List.all_eq_true.1 h k hk
  rw [getD_set_ne true (fun e => hj (by rw [e]; exact hk))]
  exact this
theorem unlisted {i : Nat} {l : Array Bool} (hr : i ∈ Region.ready md ops l) : l.getD i false = false := by
  have h0 := (mem_ready.1 hr).1
  rcases Nat.lt_or_ge i l.size with h' | h'
  · simpa [h'] using h0
  · simp [Array.getElem?_eq_none h'] at h0
theorem not_waits {i j : Nat} {l : Array Bool} (hsh : shutT md ops l = true) (hw : waitT md ops st i = true) (hr : i ∈ Region.ready md ops l) (hj : j ∈ Region.ready md ops l) : j ∉ st := fun hm => by
  have h1 := List.all_eq_true.1 hw j hm
  unfold waits at h1
  obtain ⟨_, o, ho, hall⟩ := mem_ready.1 hj
  rw [ho] at h1
  obtain ⟨e, he, h2⟩ := Array.any_eq_true'.1 h1
  rw [Bool.and_eq_true, Bool.or_eq_true] at h2
  have h3 := hall e he h2.1
  rcases h2.2 with h4 | h4
  · rw [show e.on = i by simpa using h4, unlisted hr] at h3; cases h3
  · rw [waits_not hsh (unlisted hr) _ _ h4] at h3; cases h3
/-- In whatever order: S holds behind each operation, T until one of st has come up. -/
def wpTill (P : Program) (md : Region.Mode) (ops : Array Oper) (Q : Exit → Act → World → Prop) (S T : World → Prop) (st : List Nat) : Nat → Array Bool → Act → World → Prop
  | 0, l, a, w => Region.ready md ops l = [] ∧ Q .normal a w
  | f + 1, l, a, w => (Region.ready md ops l = [] → Q .normal a w) ∧ ∀ i ∈ Region.ready md ops l, wpOp P ops Q i (fun a' w' => (S w' ∧ (freshT st (l.setIfInBounds i true) = true → T w')) ∧ wpTill P md ops Q S T st f (l.setIfInBounds i true) a' w') a w
theorem wpTill.any : ∀ (f : Nat) (l : Array Bool) (a : Act) (w : World), wpTill P md ops Q S T st f l a w → wpAny P md ops Q f l a w
  | 0, _, _, _, h => h
  | f + 1, _, _, _, h => ⟨h.1, fun i hi => wpOp_mono (fun a' w' k => wpTill.any f _ a' w' k.2) (h.2 i hi)⟩
/-- What one operation yields, under U: U is S, or it is T and the stores wait for it. -/
theorem wpTill.first {U : World → Prop} {i : Nat} {oi : Oper} {v : Value} (hi : ops[i]? = some oi) (hsel : ∀ (j : Nat) (o : Oper) cs b, ops[j]? = some o → o.op ≠ .select cs b)
    (hQ : ∀ c a w, Q (.panic c) (a.put oi.dst v) w → Q (.panic c) a w) (his : i ∉ st) (hU : (∀ w, S w → U w) ∨ ((∀ w, T w → U w) ∧ waitT md ops st i = true)) :
    ∀ (f : Nat) (l : Array Bool) (a : Act) (w : World),
      (∀ j oj, ops[j]? = some oj → j ≠ i → l.getD j true = false → (∀ e ∈ oj.after, Region.binds md e = true → e.on ≠ i) → oi.apart ops oj = true) →
      i ∈ Region.ready md ops l → YieldsIf P ops U oi v a → S w → (freshT st l = true → T w) → shutT md ops l = true → (waitT md ops st i = true → freshT st l = true) →
      wpTill P md ops Q S T st f (l.setIfInBounds i true) (a.put oi.dst v) w → wpTill P md ops Q S T st (f + 1) l a w := by
  have use : ∀ w, S w → (waitT md ops st i = true → T w) → U w := fun w hS hT => by
    rcases hU with h | ⟨h, hw⟩
    · exact h w hS
    · exact h w (hT hw)
  have back : ∀ {l : Array Bool}, freshT st (l.setIfInBounds i true) = true → freshT st l = true := fun {l} hfr => List.all_eq_true.2 fun k hk => by
    have := List.all_eq_true.1 hfr k hk
    rw [getD_set_ne true (fun e => his (by rw [e]; exact hk))] at this
    exact this
  intro f
  induction f with
  | zero =>
    intro l a w _ hr hy hS hT hsh hf H
    refine ⟨fun h => (by rw [h] at hr; cases hr), fun j hj => ?_⟩
    by_cases hji : j = i
    · subst hji
      exact hy.wpOp hi (use w hS fun hw => hT (hf hw)) ⟨⟨hS, fun hfr => hT (back hfr)⟩, H⟩
    · have := ready_mono hj hji
      rw [H.1] at this
      cases this
  | succ f ih =>
    intro l a w hfree hr hy hS hT hsh hf H
    refine ⟨fun h => (by rw [h] at hr; cases hr), fun j hj => ?_⟩
    by_cases hji : j = i
    · subst hji; exact hy.wpOp hi (use w hS fun hw => hT (hf hw)) ⟨⟨hS, fun hfr => hT (back hfr)⟩, H⟩
    · have h1 := H.2 j (ready_mono hj hji)
      obtain ⟨hjun, oj, hoj, hall⟩ := mem_ready.1 hj
      have hnot : ∀ e ∈ oj.after, Region.binds md e = true → e.on ≠ i := fun e he hb heq => by
        have h1 := hall e he hb
        rw [heq, unlisted hr] at h1
        cases h1
      have h2 := wpOp_putIf hoj (hfree j oj hoj hji hjun hnot) (fun cs b => hsel i oi cs b hi) (fun cs b => hsel j oj cs b hoj) hQ hy h1
      have sh2 : shutT md ops (l.setIfInBounds j true) = true := shutT_set hsh hj
      have fr2 : waitT md ops st i = true → freshT st (l.setIfInBounds j true) = true := fun hw => freshT_set (hf hw) (not_waits hsh hw hr hj)
      have fij : freshT st (l.setIfInBounds j true) = true → freshT st ((l.setIfInBounds i true).setIfInBounds j true) = true := fun h => by
        rw [Array.setIfInBounds_comm _ _ (Ne.symm hji)]
        exact freshT_set h his
      have hfree' : ∀ k ok, ops[k]? = some ok → k ≠ i → (l.setIfInBounds j true).getD k true = false →
          (∀ e ∈ ok.after, Region.binds md e = true → e.on ≠ i) → oi.apart ops ok = true := fun k ok hk hki hun hno => by
        refine hfree k ok hk hki ?_ hno
        by_cases hjk : j = k
        · subst hjk; exact hjun
        · rw [getD_set_ne true hjk] at hun; exact hun
      refine wpOp_mono (fun a' w' h3 => ⟨⟨h3.2.1.1, fun hfr => h3.2.1.2 (fij hfr)⟩, ih (l.setIfInBounds j true) a' w' hfree' (ready_mono hr (Ne.symm hji)) h3.1 h3.2.1.1 (fun hfr => h3.2.1.2 (fij hfr)) sh2 fr2 ?_⟩) h2
      rw [Array.setIfInBounds_comm _ _ hji]
      exact h3.2.2
theorem wpTill.takeT {i : Nat} {oi : Oper} {v : Value} {f : Nat} {l : Array Bool} {a : Act} {w : World} (d : Option Tmp) (hi0 : ops.toList[i]? = some oi) (hd : oi.dst = d)
    (hc : (Region.noSelect ops && (Region.free md ops l i && ((Region.ready md ops l).contains i && (waitT md ops st i && (freshT st l && (shutT md ops l && !st.contains i)))))) = true)
    (hQ : ∀ c a w, Q (.panic c) (a.put d v) w → Q (.panic c) a w) (hy : YieldsIf P ops T oi v a) (hS : S w ∧ T w)
    (h : wpTill P md ops Q S T st f (l.setIfInBounds i true) (a.put d v) w) : wpTill P md ops Q S T st (f + 1) l a w := by
  have hi : ops[i]? = some oi := by rw [← Array.getElem?_toList]; exact hi0
  subst hd
  simp only [Bool.and_eq_true] at hc
  obtain ⟨c1, c2, c3, c4, c5, c6, c7⟩ := hc
  exact wpTill.first (U := T) hi (Region.noSelect_spec c1) hQ (by simpa using c7) (.inr ⟨fun _ h => h, c4⟩) f l a w (Region.free_spec hi c2) (by simpa using c3) hy hS.1 (fun _ => hS.2) c6 (fun _ => c5) h
theorem wpTill.takeS {i : Nat} {oi : Oper} {v : Value} {f : Nat} {l : Array Bool} {a : Act} {w : World} (d : Option Tmp) (hi0 : ops.toList[i]? = some oi) (hd : oi.dst = d)
    (hc : (Region.noSelect ops && (Region.free md ops l i && ((Region.ready md ops l).contains i && (shutT md ops l && (!st.contains i && (!waitT md ops st i || freshT st l)))))) = true)
    (hQ : ∀ c a w, Q (.panic c) (a.put d v) w → Q (.panic c) a w) (hy : YieldsIf P ops S oi v a) (hS : S w) (hT : freshT st l = true → T w)
    (h : wpTill P md ops Q S T st f (l.setIfInBounds i true) (a.put d v) w) : wpTill P md ops Q S T st (f + 1) l a w := by
  have hi : ops[i]? = some oi := by rw [← Array.getElem?_toList]; exact hi0
  subst hd
  simp only [Bool.and_eq_true] at hc
  obtain ⟨c1, c2, c3, c6, c7, c8⟩ := hc
  exact wpTill.first (U := S) hi (Region.noSelect_spec c1) hQ (by simpa using c7) (.inl fun _ h => h) f l a w (Region.free_spec hi c2) (by simpa using c3) hy hS hT c6 (fun hw => by rw [hw] at c8; simpa using c8) h
/-- Each of rs comes up next. -/
def AllTill (P : Program) (md : Region.Mode) (ops : Array Oper) (Q : Exit → Act → World → Prop) (S T : World → Prop) (st : List Nat) (f : Nat) (l : Array Bool) (a : Act) (w : World) (rs : List Nat) : Prop :=
  ∀ i ∈ rs, wpOp P ops Q i (fun a' w' => (S w' ∧ (freshT st (l.setIfInBounds i true) = true → T w')) ∧ wpTill P md ops Q S T st f (l.setIfInBounds i true) a' w') a w
theorem AllTill.nil {f : Nat} {l : Array Bool} {a : Act} {w : World} : AllTill P md ops Q S T st f l a w [] := fun _ h => by cases h
theorem AllTill.cons {f : Nat} {l : Array Bool} {a : Act} {w : World} {i : Nat} {o : Oper} {rs : List Nat} (ho : ops.toList[i]? = some o)
    (h : ∀ K' : Act → World → Prop, Shut (∀ a w, S w → (freshT st (l.setIfInBounds i true) = true → T w) → wpTill P md ops Q S T st f (l.setIfInBounds i true) a w → K' a w) → if Region.wanted o (yielded ops a.tmps) = true then Oper.wp P o a w K' Q else K' (a.put o.dst undef) w)
    (hs : AllTill P md ops Q S T st f l a w rs) : AllTill P md ops Q S T st f l a w (i :: rs) := fun j hj => by
  rcases List.mem_cons.1 hj with rfl | hj
  · exact wpOp_step (by rw [← Array.getElem?_toList]; exact ho) (fun K' hK => h K' (fun a w hS hT hW => hK a w ⟨⟨hS, hT⟩, hW⟩))
  · exact hs j hj
theorem wpTill.ready {rs : List Nat} {f : Nat} {l : Array Bool} {a : Act} {w : World} (hr : Region.ready md ops l = rs) (hne : rs ≠ []) (h : AllTill P md ops Q S T st f l a w rs) : wpTill P md ops Q S T st (f + 1) l a w :=
  ⟨fun h0 => absurd (hr ▸ h0) hne, hr ▸ h⟩
theorem wpTill.done {l : Array Bool} {a : Act} {w : World} (hr : Region.ready md ops l = []) (h : Q .normal a w) : ∀ f, wpTill P md ops Q S T st f l a w
  | 0 => ⟨hr, h⟩
  | _ + 1 => ⟨fun _ => h, by rw [hr]; simp⟩
theorem wp_region_till {id : Nat} {a : Act} {w : World} (S T : World → Prop) (st : List Nat) (hm : P.follows .mixedOrders = true) (h : wpTill P .any ops Q S T st ops.size (Array.replicate ops.size false) a w.drew) : (Code.region id ops true).wp P Q a w :=
  wp_region_any hm (wpTill.any _ _ _ _ h)
end
end Go.Proofs.YticglfmmjgnicaaGreat
