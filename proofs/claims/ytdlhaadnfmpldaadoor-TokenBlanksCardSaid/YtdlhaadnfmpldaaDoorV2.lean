/-
  A slice of structs of numbers: many appended at once.
-/
import Derived.Test.YtdlhaadnfmpldaaDoorV
set_option linter.unusedVariables false
namespace Go.Proofs.YtdlhaadnfmpldaaDoor
open Go.RowKit

theorem Av.congr {w : World} {base : Nat} {e : TypeId} {s n : Nat} {v : Value} {ps qs : Nat → Nat → Value} (h : Av w base e s v n ps) (hq : ∀ i, i < n → ∀ j, j < s → ps i j = qs i j) : Av w base e s v n qs := by
  rcases h with h | ⟨g, cap, cur, rfl, h1, h2, h3, h4, h5, h6⟩
  · exact .inl h
  · exact .inr ⟨g, cap, cur, rfl, h1, h2, h3, h4, h5, fun i hi j hj => by rw [h6 i hi j hj, hq i hi j hj]⟩
/-- The numbers of n elements in a row. -/
def flatV (s n : Nat) (f : Nat → Nat → Value) : List Value := (List.range (n * s)).map fun k => f (k / s) (k % s)
theorem flatV_len (s n : Nat) (f : Nat → Nat → Value) : (flatV s n f).length = n * s := by simp [flatV]
theorem flatV_at (s n : Nat) (f : Nat → Nat → Value) {i j : Nat} (hi : i < n) (hj : j < s) : (flatV s n f)[i * s + j]? = some (f i j) := by
  have h1 : i * s + j < n * s := by
    have : (i + 1) * s ≤ n * s := Nat.mul_le_mul_right _ (by omega)
    rw [Nat.add_mul, Nat.one_mul] at this; omega
  have h2 : (i * s + j) / s = i := by rw [Nat.add_comm, Nat.add_mul_div_right _ _ (by omega), Nat.div_eq_of_lt hj, Nat.zero_add]
  have h3 : (i * s + j) % s = j := by rw [Nat.add_comm, Nat.add_mul_mod_self_right, Nat.mod_eq_of_lt hj]
  simp [flatV, h1, h2, h3]
theorem flatV_one (s n : Nat) (hs : 0 < s) (f : Nat → Nat → Value) (h1 : ∀ i, i < n → ∀ j, j < s → (f i j).oneCell' = true) : ∀ u ∈ flatV s n f, u.oneCell' = true := fun u hu => by
  unfold flatV at hu; rw [List.mem_map] at hu; obtain ⟨k, hk, rfl⟩ := hu; rw [List.mem_range] at hk; exact h1 _ (Nat.div_lt_of_lt_mul (by rw [Nat.mul_comm]; exact hk)) _ (Nat.mod_lt _ hs)
theorem flatV_get (s n : Nat) (hs : 0 < s) (f : Nat → Nat → Value) {k : Nat} {u : Value} (h : (flatV s n f)[k]? = some u) : k / s < n ∧ k % s < s ∧ u = f (k / s) (k % s) := by
  have hk : k < n * s := by
    by_cases h0 : k < (flatV s n f).length
    · rwa [flatV_len] at h0
    · rw [List.getElem?_eq_none (by omega)] at h; cases h
  refine ⟨Nat.div_lt_of_lt_mul (by rw [Nat.mul_comm]; exact hk), Nat.mod_lt _ hs, ?_⟩
  simp [flatV, hk] at h
  exact h.symm
theorem Av.src {P : Program} {t e : TypeId} (ht : P.underlying t = some (.slice e)) {w : World} {base s n : Nat} {v : Value} {ps : Nat → Nat → Value} (hs : 0 < s) (h : Av w base e s v n ps) (h1c : ∀ i, i < n → ∀ j, j < s → (ps i j).oneCell' = true) : Src P s t v n (flatV s n ps) w := by
  rcases h with ⟨rfl, rfl⟩ | ⟨g, cap, cur, rfl, hb, hg, h1, h2, h3, h4⟩
  · have : flatV s 0 ps = [] := by simp [flatV]
    rw [this]
    exact Src.ofNil w ht 0
  · refine Src.ofSlice w ht ⟨g, 0, none⟩ n cap _ (flatV_len _ _ _) (fun j u hu => ?_) (flatV_one _ _ hs _ h1c)
    obtain ⟨q1, q2, rfl⟩ := flatV_get s n hs ps hu
    have := hg.cell (h4 _ q1 _ q2)
    rw [show j / s * s + j % s = j from Nat.div_add_mod' j s] at this
    by_cases h0 : j = 0
    · subst h0; simpa [Addr.add] using this
    · simpa [Addr.add, h0] using this

def catV (ps : Nat → Nat → Value) (n : Nat) (f : Nat → Nat → Value) : Nat → Nat → Value := fun a j => if a < n then ps a j else f (a - n) j
theorem catV_old (ps : Nat → Nat → Value) {n a : Nat} (f : Nat → Nat → Value) (j : Nat) (h : a < n) : catV ps n f a j = ps a j := if_pos h
theorem catV_new (ps : Nat → Nat → Value) {n a : Nat} (f : Nat → Nat → Value) (j : Nat) (h : ¬ a < n) : catV ps n f a j = f (a - n) j := if_neg h
/-- MANY ELEMENTS MORE. -/
theorem Av.appendN {P : Program} {t e : TypeId} {i : TypeInfo} {z : Value} {s bytes : Nat} (ht : P.underlying t = some (.slice e)) (hi : P.info? e = some i) (hz : i.zero = some z) (h1 : i.size = s) (h8 : i.bytes = bytes) (hzs : z.cells.size = s) (hs0 : 0 < s)
    {w : World} {base n m : Nat} {v x : Value} {ps f : Nat → Nat → Value} (h : Av w base e s v n ps) (hbase : base ≤ w.heap.size) (hsrc0 : Src P s t x m (flatV s m f) w) (hlen : (n + m) * bytes ≤ 140737488355328) (hlen2 : n + m ≤ 140737488355328) :
    ∃ v' w', (∀ ty, (Builtin.append_ #[t, t] ty #[v, x]).run P w = .ok v' w') ∧ Av w' base e s v' (n + m) (catV ps n f) ∧ w.grownBy w' v.ownBlock ∧ ∀ k, v'.ownBlock = some k → v.ownBlock = some k ∨ w.heap.size ≤ k := by
  obtain ⟨us, hus⟩ : ∃ us, us = flatV s m f := ⟨_, rfl⟩
  rw [← hus] at hsrc0
  have hul : us.length = m * s := by rw [hus, flatV_len]
  have hng : ∀ a, a < m → ∀ j, j < s → us[a * s + j]? = some (f a j) := fun a ha j hj => by rw [hus]; exact flatV_at s m f ha hj
  have hsrc : Src P i.size t x m us w := by rw [h1]; exact hsrc0
  have grow : ∀ (a : Option Addr) (cap : Nat) (olds : List Value), v = .slice a n cap → olds.length = n * s → (∀ i, i < n → ∀ j, j < s → olds[i * s + j]? = some (ps i j)) → (Builtin.firstCells i.size n (.slice a n cap)).run P w.drew = .ok olds.toArray w.drew → cap < n + m →
      ∃ v' w', (∀ ty, (Builtin.append_ #[t, t] ty #[v, x]).run P w = .ok v' w') ∧ Av w' base e s v' (n + m) (catV ps n f) ∧ w.grownBy w' v.ownBlock ∧ ∀ k, v'.ownBlock = some k → v.ownBlock = some k ∨ w.heap.size ≤ k := by
    rintro a cap olds rfl hol hog hold hg
    have hfit : Builtin.nextslicecap (n + m) cap * i.bytes ≤ 281474976710656 := growslice_fits (by omega) (by rw [h8]; exact hlen)
    have hr := fun ty => run_append_grow_src (w := w) t t ty e i z ht hi hz a n cap olds hold x m us hsrc hg (by omega) hfit
    have hge := grownCap_ge w (n + m) cap e
    have hmx := grownCap_le_maxLen w (n + m) cap e (by unfold maxLen; omega)
    refine ⟨_, _, hr, ?_, ?_⟩
    · refine .inr ⟨w.heap.size, grownCap w (n + m) cap e, _, rfl, hbase, Blk.new rfl, hge, hmx, ?_, ?_⟩
      · have e1 : (grownCap w (n + m) cap e - (n + m)) * s + (n * s + m * s) = grownCap w (n + m) cap e * s := by
          rw [← Nat.add_mul, ← Nat.add_mul]; congr 1; omega
        simp [size_zeroCells, hzs, hol, hul]; omega
      · intro a' ha c' hc
        have e2 : a' * s + c' < (olds ++ us).length := by
          have : (a' + 1) * s ≤ (n + m) * s := Nat.mul_le_mul_right _ (by omega)
          rw [Nat.add_mul, Nat.add_mul, Nat.one_mul] at this
          simp; omega
        rw [Array.getElem?_append_left (by simpa using e2), List.getElem?_toArray]
        by_cases hl : a' < n
        · have e3 : (a' + 1) * s ≤ n * s := Nat.mul_le_mul_right _ (by omega)
          rw [Nat.add_mul, Nat.one_mul] at e3
          rw [List.getElem?_append_left (by omega), catV_old _ _ _ hl]
          exact hog a' hl c' hc
        · have e3 : n * s ≤ a' * s := Nat.mul_le_mul_right _ (by omega)
          have e4 : a' * s + c' - olds.length = (a' - n) * s + c' := by rw [hol, Nat.sub_mul]; omega
          rw [List.getElem?_append_right (by omega), catV_new _ _ _ hl, e4]
          exact hng (a' - n) (by omega) c' hc
    · refine ⟨⟨rfl, rfl, rfl, ?_, fun k hk _ => ?_⟩, fun k hk => .inr (by simp [Value.ownBlock] at hk; omega)⟩
      · show w.heap.size ≤ (w.drew.alloc _).heap.size
        rw [show (w.drew.alloc (.cells ((olds ++ us).toArray ++ Builtin.zeroCells z.cells (grownCap w (n + m) cap e - (n + m))) e)).heap.size = w.drew.heap.size + 1 from by simp]
        exact Nat.le_succ _
      · show (w.drew.alloc _).heap[k]? = _
        exact Below.heap_alloc w.drew _ _ hk
  rcases h with ⟨rfl, rfl⟩ | ⟨g, cap, cur, rfl, hb, hg, hle, hmax, hsz, hcells⟩
  · by_cases hm0 : m = 0
    · subst hm0
      have hu0 : us = [] := by apply List.eq_nil_of_length_eq_zero; omega
      subst hu0
      refine ⟨_, w, fun ty => append_none ht hi hsrc ty, .inl ⟨rfl, rfl⟩, ⟨rfl, rfl, rfl, Nat.le_refl _, fun _ _ _ => rfl⟩, fun k hk => .inl hk⟩
    · exact grow none 0 [] rfl (by simp) (fun i hi => by omega) (by rw [run_firstCells_none]) (by omega)
  · by_cases hroom : n + m ≤ cap
    · have hcap : (n + m) * s ≤ cap * s := Nat.mul_le_mul_right _ hroom
      rw [Nat.add_mul] at hcap
      have hr := fun ty => run_append_room_src (w := w) t t ty e i ht hi g 0 n cap x m us hsrc hroom
        (fun j hj => by rw [h1, hg.cell (Array.getElem?_eq_getElem (show 0 + n * s + j < cur.size by omega))]; rfl)
        (fun j hj => hg.free _)
      rw [h1, Nat.zero_add] at hr
      obtain ⟨cur', hb', hs', hin, hout⟩ := hg.setCells us _ (n * s) _ (by omega)
      obtain ⟨q1, q2, q3, q4, q5⟩ := setCells_blocks g us w (n * s)
      refine ⟨_, _, hr, ?_, ?_⟩
      · refine .inr ⟨g, cap, cur', rfl, hb, hb', hroom, hmax, by omega, fun a' ha c' hc => ?_⟩
        by_cases hl : a' < n
        · have e3 : (a' + 1) * s ≤ n * s := Nat.mul_le_mul_right _ (by omega)
          rw [Nat.add_mul, Nat.one_mul] at e3
          rw [hout _ (.inl (by omega)), catV_old _ _ _ hl]
          exact hcells a' hl c' hc
        · have e3 : n * s ≤ a' * s := Nat.mul_le_mul_right _ (by omega)
          have e5 : (a' - n + 1) * s ≤ m * s := Nat.mul_le_mul_right _ (by omega)
          rw [Nat.add_mul, Nat.one_mul, Nat.sub_mul] at e5
          have e4 : a' * s + c' = n * s + ((a' - n) * s + c') := by rw [Nat.sub_mul]; omega
          rw [e4, hin ((a' - n) * s + c') (by rw [Nat.sub_mul]; omega), catV_new _ _ _ hl]
          exact hng (a' - n) (by omega) c' hc
      · exact ⟨⟨q1, q2, q3, by omega, fun k hk hn => q5 k (fun e => hn (by simp [Value.ownBlock, e]))⟩, fun k hk => .inl hk⟩
    · have hns : n * s ≤ cur.size := Nat.le_trans (Nat.mul_le_mul_right _ hle) hsz
      have htk : ∀ k, k < n * s → (cur.toList.take (n * s))[k]? = cur[k]? := fun k hk => by rw [List.getElem?_take_of_lt hk, Array.getElem?_toList]
      refine grow _ cap (cur.toList.take (n * s)) rfl (by simp; omega) (fun i hi j hj => ?_) ?_ (by omega)
      · have e3 : (i + 1) * s ≤ n * s := Nat.mul_le_mul_right _ (by omega)
        rw [Nat.add_mul, Nat.one_mul] at e3
        rw [htk _ (by omega)]
        exact hcells i hi j hj
      · rw [h1]
        refine run_firstCells_some (w := w.drew) s n ⟨g, 0, none⟩ n cap _ (by simp; omega) (fun j u hu => ?_)
        have hj : j < n * s := by
          by_cases h : j < n * s
          · exact h
          · rw [List.getElem?_eq_none (by simp; omega)] at hu; cases hu
        rw [htk j hj] at hu
        have hc : w.cell? ⟨g, j, none⟩ = some u := hg.cell hu
        show w.cell? _ = _
        by_cases h0 : j = 0
        · subst h0; simpa [Addr.add] using hc
        · simpa [Addr.add, h0] using hc
end Go.Proofs.YtdlhaadnfmpldaaDoor
