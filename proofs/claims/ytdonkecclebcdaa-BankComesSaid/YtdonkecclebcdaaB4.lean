/-
  What is left, when some processes have completed: the program's object.
-/
import Derived.Test.YtdonkecclebcdaaB3
import Derived.Test.YtdonkecclebcdaaMP
import Derived.Deep.RegionHeld3
set_option linter.unusedVariables false
namespace Go.Proofs.Ytdonkecclebcdaa
open Go.RowKit Go.BigFrame

theorem Sl.touchL {w w' : World} {v : Value} {xs : List Int} {S : List Nat} (h : Sl w v xs) (ht : Touch S w w') (hs : 0 < xs.length → ∀ k, v.ownBlock = some k → k ∉ S) : Sl w' v xs := by
  obtain ⟨a, cap, rfl, h | ⟨g, off, rfl, hlt, hr⟩⟩ := h
  · exact ⟨a, cap, rfl, .inl h⟩
  · by_cases h0 : 0 < xs.length
    · exact ⟨_, cap, rfl, .inr ⟨g, off, rfl, Nat.lt_of_lt_of_le hlt ht.size, hr.touch ht hlt (hs h0 g rfl)⟩⟩
    · exact ⟨_, cap, rfl, .inl (List.eq_nil_of_length_eq_zero (by omega))⟩
/-- A list whose numbers lie in none of the blocks S, and below M. -/
def Keep (w : World) (M : Nat) (S : List Nat) (v : Value) (xs : List Int) : Prop := Sl w v xs ∧ (0 < xs.length → ∀ k, v.ownBlock = some k → k ∉ S ∧ k < M)
theorem Keep.touch {w w' : World} {M : Nat} {S T : List Nat} {v : Value} {xs : List Int} (h : Keep w M S v xs) (ht : Touch T w w') (hT : ∀ k, k ∈ T → k ∈ S ∨ M ≤ k) : Keep w' M S v xs :=
  ⟨h.1.touchL ht (fun h0 k hk hm => by obtain ⟨h1, h2⟩ := h.2 h0 k hk; rcases hT k hm with h | h; exact h1 h; omega), h.2⟩
theorem Keep.mono {w : World} {M M' : Nat} {S : List Nat} {v : Value} {xs : List Int} (h : Keep w M S v xs) (hM : M ≤ M') : Keep w M' S v xs :=
  ⟨h.1, fun h0 k hk => ⟨(h.2 h0 k hk).1, by have := (h.2 h0 k hk).2; omega⟩⟩
/-- A list that was there ahead of all blocks of S. -/
theorem Keep.old {w0 w : World} {S : List Nat} {v : Value} {xs : List Int} (h : Sl w0 v xs) (ht : Touch [] w0 w) (hS : ∀ k, k ∈ S → w0.heap.size ≤ k) : Keep w w.heap.size S v xs :=
  ⟨h.touch ht (by simp), fun h0 k hk => by have := h.lt k hk h0; have h2 := ht.size; exact ⟨fun hm => by have := hS k hm; omega, by omega⟩⟩
/-- The rows of those who are left of n, by a map. -/
def RowsM (w : World) (M : Nat) (S : List Nat) (n : Nat) (out : List Int) (rows : List (List Int)) (m : Int → Option Value) : Prop :=
  ∀ k : Int, (freeB n out k = true → ∃ v, m k = some v ∧ Keep w M S v (rw_ rows k.toNat)) ∧ (freeB n out k = false → m k = none)
theorem RowsM.mono {w : World} {M M' : Nat} {S : List Nat} {n : Nat} {out : List Int} {rows : List (List Int)} {m : Int → Option Value} (h : RowsM w M S n out rows m) (hM : M ≤ M') : RowsM w M' S n out rows m :=
  fun k => ⟨fun hf => by obtain ⟨v, e, hk⟩ := (h k).1 hf; exact ⟨v, e, hk.mono hM⟩, (h k).2⟩
theorem RowsM.touch {w w' : World} {M : Nat} {S T : List Nat} {n : Nat} {out : List Int} {rows : List (List Int)} {m : Int → Option Value} (h : RowsM w M S n out rows m) (ht : Touch T w w') (hT : ∀ k, k ∈ T → k ∈ S ∨ M ≤ k) : RowsM w' M S n out rows m :=
  fun k => ⟨fun hf => by obtain ⟨v, e, hk⟩ := (h k).1 hf; exact ⟨v, e, hk.touch ht hT⟩, (h k).2⟩
theorem freeB_iff {n : Nat} {out : List Int} {k : Int} : freeB n out k = true ↔ 0 ≤ k ∧ k < n ∧ k ∉ out := by simp [freeB]
theorem RowsM.zero (w : World) (M : Nat) (S : List Nat) (rows : List (List Int)) : RowsM w M S 0 [] rows (fun _ => none) := fun k => ⟨fun hf => by have := freeB_iff.1 hf; omega, fun _ => rfl⟩
theorem RowsM.add {w : World} {M : Nat} {S : List Nat} {j : Nat} {rows : List (List Int)} {m : Int → Option Value} (h : RowsM w M S j [] rows m) {v : Value} (hv : Keep w M S v (rw_ rows j)) : RowsM w M S (j + 1) [] rows (putM m (j : Int) v) := fun k => by
  unfold putM
  by_cases hk : k = (j : Int)
  · subst hk
    rw [if_pos rfl]
    exact ⟨fun _ => ⟨v, rfl, by simpa using hv⟩, fun hf => by
      have : freeB (j + 1) [] (j : Int) = true := freeB_iff.2 ⟨by omega, by omega, by simp⟩
      rw [this] at hf; cases hf⟩
  · rw [if_neg hk]
    have e : freeB (j + 1) [] k = freeB j [] k := by
      rw [Bool.eq_iff_iff, freeB_iff, freeB_iff]
      constructor
      · rintro ⟨a, b, c⟩; exact ⟨a, by omega, c⟩
      · rintro ⟨a, b, c⟩; exact ⟨a, by omega, c⟩
    rw [e]
    exact h k
theorem RowsM.del {w : World} {M : Nat} {S : List Nat} {n : Nat} {out : List Int} {rows : List (List Int)} {m : Int → Option Value} (h : RowsM w M S n out rows m) (i : Int) : RowsM w M S n (out ++ [i]) rows (dropM m i) := fun k => by
  unfold dropM
  by_cases hk : k = i
  · subst hk
    rw [if_pos rfl]
    exact ⟨fun hf => absurd (by simp) (freeB_iff.1 hf).2.2, fun _ => rfl⟩
  · rw [if_neg hk]
    have e : freeB n (out ++ [i]) k = freeB n out k := by
      rw [Bool.eq_iff_iff, freeB_iff, freeB_iff]
      simp [hk]
    rw [e]
    exact h k
/-- The blocks that are turned. -/
def Sx (va : Value) (bh ba : Nat) : List Nat := va.ownBlock.toList ++ [bh, ba]
theorem Sx_mem {va : Value} {bh ba k : Nat} : k ∈ Sx va bh ba ↔ va.ownBlock = some k ∨ k = bh ∨ k = ba := by
  unfold Sx
  rw [List.mem_append, Option.mem_toList]
  simp
/-- The object at b; all that it has lies from base on, below M. -/
structure Rst (w : World) (base M b bh ba : Nat) (va : Value) (n : Nat) (hs ds : List (List Int)) (W out : List Int) : Prop where
  obj : Blk w b #[va, .map (some bh), .map (some ba)] 50
  av : Qu w base 3 va (W.map (Value.int .i64))
  avb : ∀ k, va.ownBlock = some k → k ≠ b ∧ k ≠ bh ∧ k ≠ ba ∧ k < M
  held : ∃ m c, Mp (Value.int .i64) w bh m c ∧ RowsM w M (Sx va bh ba) n out hs m
  asks : ∃ m c, Mp (Value.int .i64) w ba m c ∧ RowsM w M (Sx va bh ba) n out ds m
  lo : base ≤ b ∧ base ≤ bh ∧ base ≤ ba
  hi : b < M ∧ bh < M ∧ ba < M
  ne : b ≠ bh ∧ b ≠ ba ∧ bh ≠ ba
/-- Where nothing of it is touched. -/
theorem Rst.touchHi {w w' : World} {base M b bh ba : Nat} {va : Value} {n : Nat} {hs ds : List (List Int)} {W out : List Int} {T : List Nat} (h : Rst w base M b bh ba va n hs ds W out) (ht : Touch T w w') (hT : ∀ k, k ∈ T → M ≤ k) : Rst w' base M b bh ba va n hs ds W out := by
  obtain ⟨m1, c1, h1, h2⟩ := h.held
  obtain ⟨m2, c2, h3, h4⟩ := h.asks
  obtain ⟨p1, p2, p3⟩ := h.hi
  exact ⟨h.obj.touch ht (fun hm => by have := hT _ hm; omega), h.av.touch ht (fun k hk hm => by have := hT _ hm; have := (h.avb k hk).2.2.2; omega), h.avb, ⟨m1, c1, h1.touch ht (fun hm => by have := hT _ hm; omega), h2.touch ht (fun k hk => .inr (hT k hk))⟩,
    ⟨m2, c2, h3.touch ht (fun hm => by have := hT _ hm; omega), h4.touch ht (fun k hk => .inr (hT k hk))⟩, h.lo, h.hi, h.ne⟩
theorem Rst.touch {w w' : World} {base M b bh ba : Nat} {va : Value} {n : Nat} {hs ds : List (List Int)} {W out : List Int} (h : Rst w base M b bh ba va n hs ds W out) (ht : Touch [] w w') : Rst w' base M b bh ba va n hs ds W out := h.touchHi ht (by simp)
theorem Rst.mono {w : World} {base M M' b bh ba : Nat} {va : Value} {n : Nat} {hs ds : List (List Int)} {W out : List Int} (h : Rst w base M b bh ba va n hs ds W out) (hM : M ≤ M') : Rst w base M' b bh ba va n hs ds W out := by
  obtain ⟨m1, c1, h1, h2⟩ := h.held
  obtain ⟨m2, c2, h3, h4⟩ := h.asks
  obtain ⟨p1, p2, p3⟩ := h.hi
  exact ⟨h.obj, h.av, fun k hk => by have := h.avb k hk; omega, ⟨m1, c1, h1, h2.mono hM⟩, ⟨m2, c2, h3, h4.mono hM⟩, h.lo, by omega, h.ne⟩
theorem zeroR (w : World) : (zeroValue 22).run Try.prog w = .ok (.slice none 0 0) w := by kernel_rfl
theorem Mp.lookR {w : World} {b n : Nat} {m : Int → Option Value} (h : Mp (Value.int .i64) w b m n) (k : Int) : (Instr.lookup 48 (.map (some b)) (.int .i64 k) false).run Try.prog w = .ok ((m k).getD (.slice none 0 0)) w :=
  h.look intKey Try.underlying48 Try.underlying3 (zeroR w) k
theorem Mp.lookRO {w : World} {b n : Nat} {m : Int → Option Value} (h : Mp (Value.int .i64) w b m n) (k : Int) : (Instr.lookup 48 (.map (some b)) (.int .i64 k) true).run Try.prog w = .ok (.tuple #[(m k).getD (.slice none 0 0), .bool (m k).isSome]) w :=
  h.lookOk intKey Try.underlying48 Try.underlying3 (zeroR w) k
theorem Mp.putR {w : World} {b n : Nat} {m : Int → Option Value} (h : Mp (Value.int .i64) w b m n) (k : Int) (v : Value) : ∃ w', (Instr.mapUpdate 48 (.map (some b)) (.int .i64 k) v).run Try.prog w = .ok () w' ∧ (∃ c, Mp (Value.int .i64) w' b (putM m k v) c) ∧ Touch [b] w w' ∧ w'.heap.size = w.heap.size := by
  obtain ⟨w', h1, h2, h3, h4⟩ := h.put intKey Try.underlying48 Try.underlying3 k v
  exact ⟨w', h1, ⟨_, h2⟩, h3, h4⟩

set_option maxHeartbeats 4000000 in
theorem canNext_q (base M b bh ba : Nat) (va : Value) (n : Nat) (hs ds : List (List Int)) (W out : List Int) (i : Int) (bb : Bool) (w : World) (h : Rst w base M b bh ba va n hs ds W out) (l1 : W.length ≤ 1000) (l2 : ∀ k, k < n → (rw_ ds k).length ≤ 1000)
    (hb : (freeB n out i && fitsB (rw_ ds i.toNat) W) = bb) :
    Calls Try.prog 21 #[.pointer (some ⟨b, 0, none⟩), .int .i64 i] w fun e w' => e = .returned (.bool bb) ∧ Touch [] w w' := by
  subst hb
  have HR := Lib.hid h
  obtain ⟨a, cap, hv⟩ := h.av.form
  subst hv
  have x0 := h.obj.cell (i := 0) rfl
  have x2 := h.obj.cell (i := 2) rfl
  obtain ⟨m, c, hm, hr⟩ := h.asks
  have hk := hm.lookRO i
  have SW := Lib.hid (Qu.sl h.av)
  cases hf : freeB n out i with
  | false =>
    rw [(hr i).2 hf] at hk
    have hk : (Instr.lookup 48 (.map (some ba)) (.int .i64 i) true).run Try.prog w = .ok (.tuple #[.slice none 0 0, .bool false]) w := hk
    rw [Bool.false_and]
    clear h hm hr hf
    go_enter Try.func21, Try.ntmps21
    go_wp2
    go_ret
    exact ⟨rfl, Touch.refl _ _⟩
  | true =>
    obtain ⟨v, hv, hq⟩ := (hr i).1 hf
    rw [hv] at hk
    have hk : (Instr.lookup 48 (.map (some ba)) (.int .i64 i) true).run Try.prog w = .ok (.tuple #[v, .bool true]) w := hk
    obtain ⟨av, cv, hv2⟩ := hq.1.form
    subst hv2
    have SV := Lib.hid hq.1
    have HL : Hid ((rw_ ds i.toNat).length ≤ 1000000) := Lib.hid (by
      have := freeB_iff.1 hf
      have := l2 i.toNat (by omega)
      omega)
    rw [Bool.true_and]
    obtain ⟨bb, hbb⟩ : ∃ bb, fitsB (rw_ ds i.toNat) W = bb := ⟨_, rfl⟩
    have HB := Lib.hid hbb
    rw [hbb]
    have HL1 := Lib.hid l1
    clear h hm hr hf hv hq hbb l2
    go_enter Try.func21, Try.ntmps21
    go_wp2_with fail
    refine (fits_q _ _ (rw_ ds i.toNat) W bb _ SV.out SW.out HL.out (by have := HL1.out; omega) HB.out).mono ?_
    rintro e w2 ⟨rfl, ht⟩
    have HT := Lib.hid ht
    clear ht
    go_wp2
    go_ret
    exact ⟨rfl, HT.out⟩
end Go.Proofs.Ytdonkecclebcdaa
