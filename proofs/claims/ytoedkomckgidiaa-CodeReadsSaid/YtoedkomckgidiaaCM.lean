/-
  Bytes as a slice; the program's reader: numbers, and structs of numbers.
-/
import Derived.Test.YtoedkomckgidiaaCL
import Derived.Laws.BytesArg
import Derived.Laws.Bits64b
set_option linter.unusedVariables false
namespace Go.Proofs.Ytoedkomckgidiaa
open Go Go.RowKit Go.BigFrame

/-- v is a slice of the bytes D. -/
def Bs (w : World) (v : Value) (D : List Nat) : Prop := ∃ a cap, v = .slice a D.length cap ∧ D.length ≤ cap ∧ (D = [] ∨ ∃ g off, a = some ⟨g, off, none⟩ ∧ g < w.heap.size ∧ ∀ j, j < D.length → w.cell? ⟨g, off + j, none⟩ = some (u8v (D.getD j 0)))
theorem Bs.form {w : World} {v : Value} {D : List Nat} (h : Bs w v D) : ∃ a c, v = .slice a D.length c := by obtain ⟨a, c, h, _⟩ := h; exact ⟨a, c, h⟩
theorem Bs.touch {w w' : World} {v : Value} {D S : List Nat} (h : Bs w v D) (ht : Touch S w w') (hs : ∀ k, v.ownBlock = some k → k ∉ S) : Bs w' v D := by
  obtain ⟨a, c, rfl, hc, h⟩ := h
  refine ⟨a, c, rfl, hc, ?_⟩
  rcases h with h | ⟨g, off, rfl, hg, hx⟩
  · exact .inl h
  · exact .inr ⟨g, off, rfl, Nat.lt_of_lt_of_le hg ht.size, fun j hj => by rw [World.cell?_of_block (w := w) (a := ⟨g, off + j, none⟩) (ht.block g hg (hs g rfl))]; exact hx j hj⟩
theorem Bs.nil (w : World) : Bs w (.slice none 0 0) [] := ⟨none, 0, rfl, Nat.le_refl _, .inl rfl⟩
theorem Bs.cut {w : World} {a : Option Addr} {n c k : Nat} {D : List Nat} (h : Bs w (.slice a n c) D) (hk : k ≤ D.length) : Bs w (.slice (if c = k then a else a.map (·.add k)) (n - k) (c - k)) (D.drop k) := by
  obtain ⟨a', c', he, hc, h⟩ := h
  cases he
  refine ⟨_, c - k, by rw [List.length_drop], by rw [List.length_drop]; omega, ?_⟩
  rcases h with h | ⟨g, off, rfl, hg, hx⟩
  · subst h; exact .inl (by simp)
  · by_cases hn : D.length = k
    · exact .inl (by rw [← hn]; exact List.drop_length)
    · refine .inr ⟨g, off + k, ?_, hg, fun j hj => ?_⟩
      · rw [if_neg (by omega)]
        by_cases h0 : k = 0
        · subst h0; simp [Addr.add]
        · simp [Addr.add, h0]
      · rw [List.length_drop] at hj
        rw [show off + k + j = off + (k + j) from by omega, hx (k + j) (by omega)]
        congr 2
        rw [List.getD_eq_getElem?_getD, List.getD_eq_getElem?_getD, List.getElem?_drop]
theorem Bs.first {w : World} {a : Option Addr} {n c k : Nat} {D : List Nat} (h : Bs w (.slice a n c) D) (hk : k ≤ D.length) : Bs w (.slice a k c) (D.take k) := by
  obtain ⟨a', c', he, hc, h⟩ := h
  cases he
  refine ⟨a, c, by rw [List.length_take, Nat.min_eq_left hk], by rw [List.length_take]; omega, ?_⟩
  rcases h with h | ⟨g, off, rfl, hg, hx⟩
  · subst h; exact .inl (by simp)
  · refine .inr ⟨g, off, rfl, hg, fun j hj => ?_⟩
    rw [List.length_take] at hj
    rw [hx j (by omega)]
    congr 2
    rw [List.getD_eq_getElem?_getD, List.getD_eq_getElem?_getD, List.getElem?_take, if_pos (by omega)]
theorem Bs.ix {w : World} {a : Option Addr} {n c : Nat} {D : List Nat} (h : Bs w (.slice a n c) D) {i : Nat} (hi : i < D.length) : ∃ g off, a = some ⟨g, off, none⟩ ∧ g < w.heap.size ∧ ∀ S w', Touch S w w' → g ∉ S → w'.cell? ⟨g, off + i, none⟩ = some (.int .u8 ((D.getD i 0 : Nat) : Int)) := by
  obtain ⟨a', c', he, hc, h⟩ := h
  cases he
  rcases h with h | ⟨g, off, rfl, hg, hx⟩
  · subst h; simp at hi
  · exact ⟨g, off, rfl, hg, fun S w' ht hs => by rw [World.cell?_of_block (w := w) (a := ⟨g, off + i, none⟩) (ht.block g hg hs)]; exact hx i hi⟩
theorem u8v_get (bs : List Nat) (j : Nat) (h : j < bs.length) : (bs.map u8v)[j]? = some (u8v (bs.getD j 0)) := by
  simp [h]
theorem Qb.bs {w : World} {base : Nat} {v : Value} {bs : List Nat} (h : Qb w base v bs) : Bs w v bs := by
  rcases h with ⟨rfl, h⟩ | ⟨g, off, cap, cur, rfl, hb, hg, h1, h2, h3, h4⟩
  · have : bs = [] := List.map_eq_nil_iff.1 h
    subst this
    exact Bs.nil w
  · simp only [List.length_map] at h1 h4
    refine ⟨_, cap, by simp, h1, .inr ⟨g, off, rfl, hg.lt, fun j hj => hg.cell ?_⟩⟩
    rw [h4 j hj]
    simp [hj, u8v]
/-- Bytes as a text. -/
def strB (D : List Nat) : ByteArray := strOfNums (D.map fun (n : Nat) => (n : Int))
theorem strB_inj {D E : List Nat} (hd : ∀ b ∈ D, b < 256) (he : ∀ b ∈ E, b < 256) (h : strB D = strB E) : D = E := by
  unfold strB strOfNums at h
  have h2 : (D.map fun (n : Nat) => (n : Int)).map (fun n => UInt8.ofNat n.toNat) = (E.map fun (n : Nat) => (n : Int)).map (fun n => UInt8.ofNat n.toNat) := by
    have := congrArg (fun s : ByteArray => s.data.toList) h
    simpa using this
  rw [List.map_map, List.map_map] at h2
  have h3 : ∀ (l : List Nat), (∀ b ∈ l, b < 256) → (l.map ((fun n : Int => UInt8.ofNat n.toNat) ∘ fun (n : Nat) => (n : Int))).map UInt8.toNat = l := by
    intro l hl
    rw [List.map_map]
    conv => rhs; rw [← List.map_id l]
    apply List.map_congr_left
    intro b hb
    have := hl b hb
    simp [Nat.mod_eq_of_lt this]
  rw [← h3 D hd, ← h3 E he, h2]
theorem Bs.str {w : World} {a : Option Addr} {n c : Nat} {D : List Nat} (h : Bs w (.slice a n c) D) : (convert 32 9 (.slice a n c)).run Try.prog w = .ok (.string (strB D)) w := by
  obtain ⟨a', c', he, hc, h⟩ := h
  cases he
  rcases h with h | ⟨g, off, rfl, hg, hx⟩
  · subst h
    cases a with
    | none => exact run_convert_bytes_nil w 32 5 Try.underlying32 Try.underlying5 0 c 9 Try.underlying9
    | some ad =>
      have hl : (loadCells ad 0).run Try.prog w = .ok (([] : List Int).map (Value.int .u8)).toArray w := by simp [loadCells, loadCellsFrom, Sem.run_pure]
      exact (run_convert_bytes_string w 32 9 5 (some ad) 0 c Try.underlying32 Try.underlying5 Try.underlying9).trans (run_bytesToString w ad 0 c [] hl)
  · exact run_convert_bytes_arg w 32 5 Try.underlying32 Try.underlying5 g off D.length c _ (by simp) (fun i hi => by rw [hx i hi]; simp [u8v, hi]) 9 Try.underlying9

theorem own_addr (a : Option Addr) (n c n' c' : Nat) : (Value.slice a n c).ownBlock = (Value.slice a n' c').ownBlock := by cases a <;> rfl
set_option maxRecDepth 100000 in
theorem bcut_from (a : Option Addr) (n ca k : Nat) (hk : k ≤ n) (wx : World) : (Instr.slice 32 (.slice a n ca) (some (.int .i64 (k : Int))) none none).run Try.prog wx = .ok (.slice (if ca = k then a else a.map (·.add k)) (n - k) (ca - k)) wx := by
  have hsz : (sizeOf (Try.prog.elem 32)).run Try.prog wx = .ok 1 wx := by kernel_rfl
  rw [run_slice_l wx 32 a n ca Try.underlying32 .i64 (k : Int) (by omega) (by omega), hsz]
  simp [Result.andThen, sliced]
set_option maxRecDepth 100000 in
theorem bcut_to (a : Option Addr) (n ca k : Nat) (hk : k ≤ ca) (wx : World) : (Instr.slice 32 (.slice a n ca) none (some (.int .i64 (k : Int))) none).run Try.prog wx = .ok (.slice a k ca) wx := by
  have hsz : (sizeOf (Try.prog.elem 32)).run Try.prog wx = .ok 1 wx := by kernel_rfl
  rw [run_slice_h wx 32 a n ca Try.underlying32 .i64 (k : Int) (by omega) (by omega), hsz]
  cases a <;> simp [Result.andThen, sliced, Addr.add]

/-- The reader in block b: what is left are the bytes from o on, or it is bad. -/
def Rd (D : List Nat) (cl : Nat) (w : World) (b : Nat) : Option Nat → Prop
  | some o => o ≤ D.length ∧ ∃ v, Blk w b #[v, .int .i64 (cl : Int), .bool false] 70 ∧ Bs w v (D.drop o) ∧ ∀ k, v.ownBlock = some k → k < b
  | none => ∃ v R, Blk w b #[v, .int .i64 (cl : Int), .bool true] 70 ∧ Bs w v R ∧ R.length ≤ D.length ∧ ∀ k, v.ownBlock = some k → k < b
theorem Rd.touch {D : List Nat} {cl : Nat} {w w' : World} {b : Nat} {st : Option Nat} (h : Rd D cl w b st) (ht : Touch [] w w') : Rd D cl w' b st := by
  cases st with
  | some o => obtain ⟨h0, v, h1, h2, h3⟩ := h; exact ⟨h0, v, h1.touch ht (by simp), h2.touch ht (by simp), h3⟩
  | none => obtain ⟨v, R, h1, h2, h3, h4⟩ := h; exact ⟨v, R, h1.touch ht (by simp), h2.touch ht (by simp), h3, h4⟩
theorem Rd.lt {D : List Nat} {cl : Nat} {w : World} {b : Nat} {st : Option Nat} (h : Rd D cl w b st) : b < w.heap.size := by
  cases st with
  | some o => obtain ⟨h0, v, h1, h2, h3⟩ := h; exact h1.lt
  | none => obtain ⟨v, R, h1, h2, h3, h4⟩ := h; exact h1.lt
/-- n bytes more. -/
def go_ (D : List Nat) (n : Nat) : Option Nat → Option Nat
  | some o => if o + n ≤ D.length then some (o + n) else none
  | none => none
def un_ (D : List Nat) (n : Nat) : Option Nat → Nat
  | some o => if o + n ≤ D.length then valN ((D.drop o).take n) else 0
  | none => 0
def TakeP (D : List Nat) (cl b n : Nat) (st : Option Nat) (w : World) (e : Ending) (w' : World) : Prop :=
  ∃ v E, e = .returned v ∧ Bs w' v E ∧ E.length ≤ n ∧ valN E = un_ D n st ∧ Rd D cl w' b (go_ D n st) ∧ Touch [b] w w' ∧ ∀ x ∈ E, x ∈ D
set_option maxHeartbeats 8000000 in
theorem take_any (D : List Nat) (cl b n : Nat) (st : Option Nat) (w : World) (h : Rd D cl w b st) (hn : n ≤ 8) (hD : D.length ≤ 9223372036854775807) :
    Calls Try.prog 60 #[.pointer (some ⟨b, 0, none⟩), .int .i64 (n : Int)] w (TakeP D cl b n st w) := by
  cases st with
  | none =>
    obtain ⟨v, R, hb, hv, hl, ho⟩ := h
    obtain ⟨a, c, rfl⟩ := hv.form
    have HB := Lib.hid hb
    have x2 := hb.cell (i := 2) rfl
    have f2 := hb.free 2
    have hz : b < w.heap.size := hb.lt
    have HV := Lib.hid hv
    have HO := Lib.hid ho
    clear hb hv ho
    go_enter Try.func60, Try.ntmps60
    go_wp2
    go_ret
    have ht : Touch [b] w (w.setCell ⟨b, 2, none⟩ (.bool true)) := (Touch.refl [b] w).setCell (by simp) _
    exact ⟨_, [], rfl, Bs.nil _, by simp, rfl, ⟨_, R, HB.out.set 2 (.bool true), HV.out.touch ht (fun k hk => by have := HO.out k hk; simp; omega), hl, HO.out⟩, ht, by simp⟩
  | some o =>
    obtain ⟨ho, v, hb, hv, hown⟩ := h
    obtain ⟨a, c, rfl⟩ := hv.form
    have hlen : (D.drop o).length = D.length - o := List.length_drop
    rw [hlen] at hv hb hown
    obtain ⟨L, hL⟩ : ∃ L, D.length - o = L := ⟨_, rfl⟩
    rw [hL] at hv hb hown
    have HB := Lib.hid hb
    have x0 := hb.cell (i := 0) rfl
    have x2 := hb.cell (i := 2) rfl
    have f2 := hb.free 2
    have f0 := hb.free 0
    have hz : b < w.heap.size := hb.lt
    have HV := Lib.hid hv
    have HO := Lib.hid hown
    have hcap : L ≤ c := by
      obtain ⟨a', c', he, hc, _⟩ := hv
      cases he
      rw [hlen, hL] at hc; exact hc
    clear hb hv hown hlen
    by_cases hlt : L < n
    · have d0 : decide ((L : Int) < (n : Int)) = true := dT (by omega)
      have HU : Hid (go_ D n (some o) = none ∧ un_ D n (some o) = 0) := Lib.hid ⟨if_neg (by omega), if_neg (by omega)⟩
      go_enter Try.func60, Try.ntmps60
      go_wp2
      go_ret
      have ht : Touch [b] w (w.setCell ⟨b, 2, none⟩ (.bool true)) := (Touch.refl [b] w).setCell (by simp) _
      exact ⟨_, [], rfl, Bs.nil _, by simp, HU.out.2.symm, by rw [HU.out.1]; exact ⟨_, D.drop o, HB.out.set 2 (.bool true), HV.out.touch ht (fun k hk => by have := HO.out k hk; simp; omega), by simp, HO.out⟩, ht, by simp⟩
    · have d0 : decide ((L : Int) < (n : Int)) = false := dF (by omega)
      have HU : Hid (go_ D n (some o) = some (o + n) ∧ un_ D n (some o) = valN ((D.drop o).take n)) := Lib.hid ⟨if_pos (by omega), if_pos (by omega)⟩
      have HL : Hid (¬ L < n ∧ D.length - o = L) := Lib.hid ⟨hlt, hL⟩
      have HV2 := Lib.hid (HV.out.cut (k := n) (by rw [List.length_drop]; omega))
      have HV1 := Lib.hid (HV.out.first (k := n) (by rw [List.length_drop]; omega))
      rw [List.drop_drop] at HV2
      have HM : Hid (∀ x ∈ (D.drop o).take n, x ∈ D) := Lib.hid (fun x hx => List.mem_of_mem_drop (List.mem_of_mem_take hx))
      have HLN : Hid (((D.drop o).take n).length ≤ n) := Lib.hid (by rw [List.length_take]; omega)
      have HON : Hid (o + n ≤ D.length) := Lib.hid (by omega)
      by_cases hcn : c = n
      · subst hcn
        obtain rfl : L = c := by omega
        rw [if_pos rfl] at HV2
        go_enter Try.func60, Try.ntmps60
        go_wp2
        go_ret
        have ht : Touch [b] w (w.setCell ⟨b, 0, none⟩ (.slice a (L - L) (L - L))) := (Touch.refl [b] w).setCell (by simp) _
        have h1 := HB.out.set 0 (.slice a (L - L) (L - L))
        have h2 := HV2.out.touch ht (fun k hk => by have := HO.out k ((own_addr _ _ _ _ _).trans hk); simp; omega)
        have h3 := HV1.out.touch ht (fun k hk => by have := HO.out k hk; simp; omega)
        simp only [Nat.sub_self] at ht h1 h2 h3
        exact ⟨_, (D.drop o).take L, rfl, h3, HLN.out, HU.out.2.symm, by rw [HU.out.1]; exact ⟨HON.out, _, h1, h2, fun k hk => HO.out k ((own_addr _ _ _ _ _).trans hk)⟩, ht, HM.out⟩
      · rw [if_neg hcn] at HV2
        have HO2 : Hid (∀ k, (Value.slice (a.map (·.add n)) (L - n) (c - n)).ownBlock = some k → k < b) := Lib.hid (fun k hk => HO.out k (by
          cases a with
          | none => simp [Value.ownBlock] at hk
          | some ad =>
            simp only [Option.map_some, Value.ownBlock] at hk ⊢
            rw [← hk]; unfold Addr.add; split <;> rfl))
        go_enter Try.func60, Try.ntmps60
        go_wp2
        go_ret
        have ht : Touch [b] w (w.setCell ⟨b, 0, none⟩ (.slice (a.map (·.add n)) (L - n) (c - n))) := (Touch.refl [b] w).setCell (by simp) _
        exact ⟨_, (D.drop o).take n, rfl, HV1.out.touch ht (fun k hk => by have := HO.out k ((own_addr _ _ _ _ _).trans hk); simp; omega), HLN.out, HU.out.2.symm, by rw [HU.out.1]; exact ⟨HON.out, _, HB.out.set 0 _, HV2.out.touch ht (fun k hk => by have := HO2.out k hk; simp; omega), HO2.out⟩, ht, HM.out⟩
theorem or_add (a x k : Nat) (h : a < 256 ^ k) : a ||| (x * 256 ^ k) = a + 256 ^ k * x := by
  rw [show (256 : Nat) ^ k = 2 ^ (8 * k) from by rw [Nat.pow_mul]] at h ⊢
  rw [Nat.or_comm, Nat.mul_comm x, ← Nat.two_pow_add_eq_or_of_lt h]
  omega
theorem bits_or_u64 (q x k : Nat) (hk : k ≤ 8) (h1 : q < 256 ^ k) (h2 : 256 ^ k * x < 18446744073709551616) : bits .or .u64 (q : Int) ((x * 256 ^ k : Nat) : Int) = ((q + 256 ^ k * x : Nat) : Int) := by
  have hq : q < 18446744073709551616 := Nat.lt_of_lt_of_le h1 (by
    have : (256 : Nat) ^ k ≤ 256 ^ 8 := Nat.pow_le_pow_right (by omega) hk
    omega)
  rw [bits_or_u64_nat q (x * 256 ^ k) hq (by rw [Nat.mul_comm]; exact h2), or_add q x k h1]
theorem valN_snoc (l : List Nat) (k : Nat) (h : k < l.length) : valN (l.take (k + 1)) = valN (l.take k) + 256 ^ k * l.getD k 0 := by
  rw [List.take_add_one, List.getElem?_eq_getElem h, valN_append, List.length_take, Nat.min_eq_left (by omega)]
  simp [valN, List.getD_eq_getElem?_getD, h]
def UnP (D : List Nat) (cl b n : Nat) (st : Option Nat) (w : World) (e : Ending) (w' : World) : Prop :=
  e = .returned (.int .u64 ((un_ D n st : Nat) : Int)) ∧ Rd D cl w' b (go_ D n st) ∧ Touch [b] w w'
set_option maxHeartbeats 8000000 in
theorem un_any (D : List Nat) (cl b n : Nat) (st : Option Nat) (w : World) (h : Rd D cl w b st) (hn : n ≤ 8) (hD : D.length ≤ 9223372036854775807) (hDb : ∀ x ∈ D, x < 256) :
    Calls Try.prog 59 #[.pointer (some ⟨b, 0, none⟩), .int .i64 (n : Int)] w (UnP D cl b n st w) := by
  have HTK := Lib.hid (take_any D cl b n st w h hn hD)
  have HDB := Lib.hid hDb
  clear h hDb
  go_enter Try.func59, Try.ntmps59
  go_wp2_with fail
  refine HTK.out.mono ?_
  rintro e w1 ⟨v, E, rfl, hE, hEn, hval, hR, ht, hmem⟩
  obtain ⟨a, c, rfl⟩ := hE.form
  have HE := Lib.hid hE
  have HVAL := Lib.hid hval
  have HRD := Lib.hid hR
  have HT := Lib.hid ht
  have HEB : Hid (∀ x ∈ E, x < 256) := Lib.hid (fun x hx => HDB.out x (hmem x hx))
  obtain ⟨m, hm⟩ : ∃ m, E.length = m := ⟨_, rfl⟩
  rw [hm] at HE hEn
  have HM := Lib.hid hm
  rw [hm]
  clear hE hval hR ht hmem hm HTK
  go_wp2
  go_loopw [5, 12] (fun uv kv wr => ∃ k : Nat, k ≤ m ∧ kv = .int .i64 (k : Int) ∧ uv = .int .u64 ((valN (E.take k) : Nat) : Int) ∧ w1 = wr) (fun _ kv _ => m + 1 - (intOf kv).toNat)
  case atStart => exact ⟨0, by omega, rfl, by simp [valN], rfl⟩
  case round =>
    obtain ⟨k, hk, rfl, rfl, rfl⟩ := hrel
    by_cases hlt : k < m
    · obtain ⟨g, off, rfl, hg, hc⟩ := HE.out.ix (i := k) (by rw [HM.out]; exact hlt)
      have x0 := hc [] w1 (Touch.refl _ _) (by simp)
      have hx : E.getD k 0 < 256 := HEB.out _ (by
        rw [List.getD_eq_getElem?_getD, List.getElem?_eq_getElem (by rw [HM.out]; exact hlt)]
        exact List.getElem_mem _)
      have hsn := valN_snoc E k (by rw [HM.out]; exact hlt)
      have hvl : valN (E.take k) < 256 ^ k := by
        have := valN_lt (E.take k) (fun b hb => HEB.out b (List.mem_of_mem_take hb))
        rwa [List.length_take, HM.out, Nat.min_eq_left hk] at this
      obtain ⟨x, hxx⟩ : ∃ x, E.getD k 0 = x := ⟨_, rfl⟩
      obtain ⟨q, hq⟩ : ∃ q, valN (E.take k) = q := ⟨_, rfl⟩
      rw [hxx] at hsn hx x0
      rw [hq] at hsn hvl ⊢
      have hpk : 256 ^ k * x < 18446744073709551616 := by
        have h1 : (256 : Nat) ^ k ≤ 256 ^ 7 := Nat.pow_le_pow_right (by omega) (by omega)
        have h2 : 256 ^ k * x ≤ 256 ^ 7 * 255 := Nat.mul_le_mul h1 (by omega)
        omega
      have vO := bits_or_u64 q x k (by omega) hvl hpk
      obtain ⟨Q, hQ⟩ : ∃ Q, q + 256 ^ k * x = Q := ⟨_, rfl⟩
      obtain ⟨M, hMM⟩ : ∃ M, x * 256 ^ k = M := ⟨_, rfl⟩
      have vM : IntKind.wrap .u64 ((x : Int) * 2 ^ (8 * k)) = (M : Int) := by
        rw [← hMM, show (2 : Int) ^ (8 * k) = ((256 ^ k : Nat) : Int) from by rw [show (2 : Int) ^ (8 * k) = ((2 ^ (8 * k) : Nat) : Int) from by simp, Nat.pow_mul], uns_wrap, ← Int.natCast_mul, uns_nat _ (by rw [Nat.mul_comm]; exact hpk)]
      rw [hMM, hQ] at vO
      rw [hQ] at hsn
      have HS : Hid (valN (E.take (k + 1)) = Q) := Lib.hid hsn
      have v8 : IntKind.wrap .u64 (x : Int) = (x : Int) := by rw [uns_wrap, uns_nat _ (by omega)]
      have vk : IntKind.i64.wrap (8 * (k : Int)) = 8 * (k : Int) := IntWalk.i64_in _ (by omega)
      clear hc hsn hvl hpk hxx hq hQ hMM
      go_wp2
      go_roundw
      case rel => exact ⟨k + 1, by omega, by go_num, by rw [HS.out], trivial⟩
      case measure => simp [intOf]; omega
    · obtain rfl : m = k := by omega
      have hv2 : valN (E.take m) = un_ D n st := by rw [← HM.out, List.take_length]; exact HVAL.out
      rw [hv2]
      go_wp2
      go_ret
      exact ⟨rfl, HRD.out, HT.out⟩
def nv (D : List Nat) (st : Option Nat) : Int := sgn (un_ D 8 st)
def NmP (D : List Nat) (cl b : Nat) (st : Option Nat) (w : World) (e : Ending) (w' : World) : Prop :=
  e = .returned (.int .i64 (nv D st)) ∧ Rd D cl w' b (go_ D 8 st) ∧ Touch [b] w w'
theorem un_lt (D : List Nat) (n : Nat) (st : Option Nat) (hn : n ≤ 8) (hDb : ∀ x ∈ D, x < 256) : un_ D n st < 256 ^ n := by
  have hp : 0 < 256 ^ n := Nat.pow_pos (by omega)
  cases st with
  | none => exact hp
  | some o =>
    show (if o + n ≤ D.length then valN ((D.drop o).take n) else 0) < 256 ^ n
    by_cases h : o + n ≤ D.length
    · rw [if_pos h]
      have := valN_lt ((D.drop o).take n) (fun b hb => hDb b (List.mem_of_mem_drop (List.mem_of_mem_take hb)))
      rwa [List.length_take, List.length_drop, Nat.min_eq_left (by omega)] at this
    · rw [if_neg h]; exact hp
theorem num_any (D : List Nat) (cl b : Nat) (st : Option Nat) (w : World) (h : Rd D cl w b st) (hD : D.length ≤ 9223372036854775807) (hDb : ∀ x ∈ D, x < 256) :
    Calls Try.prog 42 #[.pointer (some ⟨b, 0, none⟩)] w (NmP D cl b st w) := by
  have HUN := Lib.hid (un_any D cl b 8 st w h (by omega) hD hDb)
  have hl := un_lt D 8 st (by omega) hDb
  obtain ⟨u, hu⟩ : ∃ u, un_ D 8 st = u := ⟨_, rfl⟩
  have HU := Lib.hid hu
  rw [hu] at hl
  have hw : IntKind.wrap .i64 (u : Int) = sgn u := sgn_wrap u (by omega)
  have HNV : Hid (nv D st = sgn u) := Lib.hid (by unfold nv; rw [hu])
  clear hu h
  go_enter Try.func42, Try.ntmps42
  go_wp2_with fail
  refine HUN.out.mono ?_
  rintro e w1 ⟨rfl, hR, ht⟩
  rw [HU.out]
  have HRD := Lib.hid hR
  have HT := Lib.hid ht
  clear hR ht HUN
  go_wp2
  go_ret
  exact ⟨by rw [HNV.out]; rfl, HRD.out, HT.out⟩
end Go.Proofs.Ytoedkomckgidiaa
