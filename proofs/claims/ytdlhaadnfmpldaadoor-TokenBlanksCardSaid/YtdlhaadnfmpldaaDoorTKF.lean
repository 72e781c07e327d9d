/-
  Word; the tokens as a slice of the call's own; the reader, and what is put behind the others.
-/
import Derived.Test.YtdlhaadnfmpldaaDoorTKE
import Derived.Test.YtdlhaadnfmpldaaDoorV2
import Derived.Deep.RegionHeld3
import Derived.Deep.RegionLaw
set_option linter.unusedVariables false
namespace Go.Proofs.YtdlhaadnfmpldaaDoor
open Go Go.RowKit

theorem zeroB7 (w : World) : (zeroValue 4).run Tryd.prog w = .ok (.bool false) w := by kernel_rfl
theorem wd_look {w : World} {mb n : Nat} (h : Mp Value.string w mb wdM n) (s : ByteArray) : (Instr.lookup 41 (.map (some mb)) (.string s) false).run Tryd.prog w = .ok (.bool (isWord s.data.toList)) w := by
  have := h.look (P := Tryd.prog) (T := 41) strKey Tryd.underlying41 Tryd.underlying9 (zeroB7 w) s
  rw [this]
  unfold wdM
  cases isWord s.data.toList <;> rfl
set_option maxHeartbeats 2000000 in
theorem word_any (s : ByteArray) (w : World) (hv : Vs w) : Calls Tryd.prog 13 #[.string s] w fun e w' => e = .returned (.bool (isWord s.data.toList)) ∧ Touch [] w w' := by
  have HW := Lib.hid (words_any w hv)
  clear hv
  go_enter Tryd.func13, Tryd.ntmps13
  go_wp2_with fail
  refine HW.out.mono ?_
  rintro e w2 ⟨mb, n, rfl, hm, _, ht⟩
  have hlk := wd_look hm s
  have HT := Lib.hid ht
  clear hm ht
  go_wp2_with fail
  go_ret
  exact ⟨rfl, HT.out⟩
/-- A token's cells. -/
def tkF (x : Tok) : Nat → Value
  | 0 => .int .i64 x.kind
  | 1 => .int .i64 x.pos
  | 2 => .int .i64 x.num
  | _ => .string ⟨x.text.toArray⟩
def tk0 : Tok := ⟨0, 0, 0, []⟩
/-- The tokens, a slice of the call's own. -/
def Tks (w : World) (base : Nat) (v : Value) (l : List Tok) : Prop := Av w base 38 4 v l.length (fun i j => tkF (l.getD i tk0) j)
theorem infoTk : ∃ i0 : TypeInfo, Tryd.prog.info? 38 = some i0 ∧ i0.zero = some (.agg #[.int .i64 0, .int .i64 0, .int .i64 0, .string ByteArray.empty]) ∧ i0.size = 4 ∧ i0.bytes = 40 :=
  info_parts (show (Tryd.prog.info? 38).map (fun i => (i.zero, i.size, i.bytes)) = some (some (.agg #[.int .i64 0, .int .i64 0, .int .i64 0, .string ByteArray.empty]), 4, 40) from by kernel_rfl)
theorem Tks.touch {w w' : World} {base : Nat} {v : Value} {l : List Tok} {S : List Nat} (h : Tks w base v l) (ht : Touch S w w') (hs : ∀ k, v.ownBlock = some k → k ∉ S) : Tks w' base v l := Av.touch h ht hs
theorem Tks.own {w : World} {base : Nat} {v : Value} {l : List Tok} (h : Tks w base v l) : ∀ k, v.ownBlock = some k → base ≤ k ∧ k < w.heap.size := Av.own h
theorem grown_tk {a b : World} {o : Option Nat} (hg : a.grownBy b o) : Touch o.toList a b := (Touch.refl _ a).grown hg (fun k hk _ => by subst hk; simp)
/-- A token is put behind the others. -/
theorem Tks.app {w : World} {base : Nat} {v : Value} {l : List Tok} (h : Tks w base v l) (hb : base ≤ w.heap.size) (x : Tok) (hl : l.length ≤ 100000) (ad : Addr) (hx : ∀ j, j < 4 → w.cell? (ad.add j) = some (tkF x j)) :
    ∃ v' w', (∀ ty, (Builtin.append_ #[26, 26] ty #[v, .slice (some ad) 1 1]).run Tryd.prog w = .ok v' w') ∧ Tks w' base v' (l ++ [x]) ∧ Touch v.ownBlock.toList w w' ∧ (∀ k, v'.ownBlock = some k → v.ownBlock = some k ∨ w.heap.size ≤ k) := by
  obtain ⟨i0, hi, hz, h5, h8⟩ := infoTk
  obtain ⟨v', w', hr, hA, hg, hn⟩ := Av.append (P := Tryd.prog) (t := 26) Tryd.underlying26 hi hz h5 h8 rfl h hb ad 1 (tkF x) hx (fun j hj => by
    rcases (by omega : j = 0 ∨ j = 1 ∨ j = 2 ∨ j = 3) with rfl | rfl | rfl | rfl <;> rfl) (by omega) (by omega)
  refine ⟨v', w', hr, ?_, grown_tk hg, hn⟩
  unfold Tks
  rw [List.length_append, List.length_singleton]
  refine hA.congr (fun i hi2 j hj => ?_)
  unfold addV
  by_cases e : i = l.length
  · subst e
    rw [if_pos rfl]
    simp
  · rw [if_neg e]
    show tkF (l.getD i tk0) j = _
    rw [List.getD_eq_getElem?_getD, List.getD_eq_getElem?_getD, List.getElem?_append_left (by omega)]
/-- The world that the reader is read against, and a block beside it (where the text is gone through). -/
structure Fr where
  w : World
  ib : Option Nat
  o : Option Obj
/-- The reader. -/
structure Rdr (w0 : Fr) (w : World) (rb mb : Nat) (s : ByteArray) (tv : Value) (l : List Tok) : Prop where
  obj : Blk w rb #[.string s, .map (some mb), tv] 44
  mp : ∃ n, Mp Value.string w mb wdM n
  tk : Tks w w0.w.heap.size tv l
  ne : rb ≠ mb
  nt : ∀ k, tv.ownBlock = some k → k ≠ rb ∧ k ≠ mb
  lo : w0.w.heap.size ≤ rb ∧ w0.w.heap.size ≤ mb
  t : Touch [] w0.w w
  it : ∀ k, w0.ib = some k → w.heap[k]? = w0.o ∧ k ≠ rb ∧ tv.ownBlock ≠ some k ∧ w0.w.heap.size ≤ k ∧ k < w.heap.size
theorem Rdr.touch {w0 : Fr} {w w' : World} {rb mb : Nat} {s : ByteArray} {tv : Value} {l : List Tok} (h : Rdr w0 w rb mb s tv l) (ht : Touch [] w w') : Rdr w0 w' rb mb s tv l := by
  obtain ⟨n, hm⟩ := h.mp
  exact ⟨h.obj.touch ht (by simp), ⟨n, hm.touch ht (by simp)⟩, h.tk.touch ht (fun _ _ => by simp), h.ne, h.nt, h.lo, h.t.trans ht, fun k hk => by
    obtain ⟨a1, a2, a3, a4, a5⟩ := h.it k hk
    exact ⟨by rw [ht.block k a5 (by simp)]; exact a1, a2, a3, a4, Nat.lt_of_lt_of_le a5 ht.size⟩⟩
/-- Behind a put: the tokens' slice is another one. -/
theorem Rdr.turn {w0 : Fr} {w w' : World} {rb mb : Nat} {s : ByteArray} {tv v' : Value} {l : List Tok} {x : Tok} (h : Rdr w0 w rb mb s tv l) (hk : Tks w' w0.w.heap.size v' (l ++ [x])) (ht : Touch tv.ownBlock.toList w w') (hn : ∀ k, v'.ownBlock = some k → tv.ownBlock = some k ∨ w.heap.size ≤ k) :
    Rdr w0 (w'.setCell ⟨rb, 2, none⟩ v') rb mb s v' (l ++ [x]) := by
  obtain ⟨n, hm⟩ := h.mp
  have ho := (h.obj.touch ht (fun hh => (h.nt rb (Option.mem_toList.1 hh)).1 rfl)).set 2 v'
  have hs : Touch [rb] w' (w'.setCell ⟨rb, 2, none⟩ v') := (Touch.refl _ _).setCell (by simp) _
  have hrl := h.obj.lt
  have hml := hm.lt
  have hnt : ∀ k, v'.ownBlock = some k → k ≠ rb ∧ k ≠ mb := fun k hk2 => by
    rcases hn k hk2 with h1 | h1
    · exact h.nt k h1
    · omega
  exact ⟨ho, ⟨n, (hm.touch ht (fun hh => (h.nt mb (Option.mem_toList.1 hh)).2 rfl)).touch hs (by have := h.ne; simp; omega)⟩, hk.touch hs (fun k hk2 => by have := (hnt k hk2).1; simpa using this), h.ne, hnt, h.lo,
    (h.t.transF ht (fun q hq hlt => by have := (h.tk.own q (Option.mem_toList.1 hq)).1; omega)).transF hs (fun q hq hlt => by have := List.mem_singleton.1 hq; have := h.lo; omega), fun k hk2 => by
    obtain ⟨a1, a2, a3, a4, a5⟩ := h.it k hk2
    refine ⟨?_, a2, fun e => ?_, a4, Nat.lt_of_lt_of_le a5 (Nat.le_trans ht.size hs.size)⟩
    · rw [hs.block k (Nat.lt_of_lt_of_le a5 ht.size) (by simp; exact a2), ht.block k a5 (fun hh => a3 (Option.mem_toList.1 hh))]; exact a1
    · rcases hn k e with h1 | h1
      · exact a3 h1
      · omega⟩
theorem step_append_run {P : Program} {ops : Array Oper} {o : Oper} {a : Act} {w : World} {K : Act → World → Prop} {Q : Exit → Act → World → Prop} {E : Prop} (hgd : o.guard = none) (s x : Operand) (t tx : TypeId)
    (ho : o.op = .call { callee := .builtin .append, args := #[s, x], argTypes := #[t, tx] }) (vs vx : Value) (hs : a.eval s = vs) (hx : a.eval x = vx) (v' : Value) (w' : World)
    (hr : (Builtin.append_ #[t, tx] o.type #[vs, vx]).run P w = .ok v' w') (h : K (a.put o.dst v') w') : if Region.wanted o (yielded ops a.tmps) = true then Oper.wp P o a w K Q else E := by
  have hw : Region.wanted o (yielded ops a.tmps) = true := by simp [Region.wanted, hgd]
  rw [if_pos hw]
  unfold Oper.wp execOp
  simp only [ho, resolve, invoke, builtin, Sem.run_bind, Sem.run_pure, Result.andThen_ok, List.map_toArray, List.map_cons, List.map_nil, hs, hx, hr]
  exact h
def PutP (w0 : Fr) (w : World) (rb mb : Nat) (s : ByteArray) (l : List Tok) (x : Tok) (n : Int) (e : Ending) (w' : World) : Prop := e = .returned (.int .i64 n) ∧ ∃ tv', Rdr w0 w' rb mb s tv' (l ++ [x])
set_option maxHeartbeats 8000000 in
set_option maxRecDepth 100000 in
theorem put_any (w0 : Fr) (w : World) (rb mb : Nat) (s : ByteArray) (tv : Value) (l : List Tok) (kind pos num : Int) (tx : List UInt8) (h : Rdr w0 w rb mb s tv l) (hl : l.length ≤ 5000) (hp : 0 ≤ pos ∧ pos ≤ 5000) (ht : tx.length ≤ 5000) :
    Calls Tryd.prog 29 #[.pointer (some ⟨rb, 0, none⟩), .agg #[.int .i64 kind, .int .i64 pos, .int .i64 num, .string ⟨tx.toArray⟩]] w (PutP w0 w rb mb s l ⟨kind, pos, num, tx⟩ (pos + (tx.length : Int))) := by
  have HR := Lib.hid h
  obtain ⟨ta, tc, htv, _⟩ := Av.form h.tk
  obtain ⟨TX, hTX⟩ : ∃ z : ByteArray, ⟨tx.toArray⟩ = z := ⟨_, rfl⟩
  have hsz : TX.size = tx.length := by rw [← hTX]; simp [ByteArray.size]
  have HTX := Lib.hid hTX
  subst htv
  rw [hTX]
  have nb : Blk (w.alloc (.cells #[.int .i64 kind, .int .i64 pos, .int .i64 num, .string TX] 38)) w.heap.size #[.int .i64 kind, .int .i64 pos, .int .i64 num, .string TX] 38 := Blk.new rfl
  have HR1 := Lib.hid (h.touch ((Touch.refl [] w).alloc (.cells #[.int .i64 kind, .int .i64 pos, .int .i64 num, .string TX] 38)))
  obtain ⟨W1, hW1⟩ : ∃ x, (w.alloc (.cells #[.int .i64 kind, .int .i64 pos, .int .i64 num, .string TX] 38)) = x := ⟨_, rfl⟩
  rw [hW1] at nb HR1
  have HW1 := Lib.hid hW1
  have HRB : Hid (w.heap.size ≠ rb) := Lib.hid (by have := HR.out.obj.lt; omega)
  have nt : Blk (World.drew (W1.alloc (.cells #[.int .i64 kind, .int .i64 pos, .int .i64 num, .string TX] 38))) W1.heap.size #[.int .i64 kind, .int .i64 pos, .int .i64 num, .string TX] 38 := Blk.drew (Blk.new rfl)
  have tX : Touch [] W1 (World.drew (W1.alloc (.cells #[.int .i64 kind, .int .i64 pos, .int .i64 num, .string TX] 38))) := ((Touch.refl [] W1).alloc _).drew
  have HRX := Lib.hid (HR1.out.touch tX)
  obtain ⟨v', w', hr, hk, htt, hn⟩ := HRX.out.tk.app HRX.out.t.size ⟨kind, pos, num, tx⟩ (by omega) ⟨W1.heap.size, 0, none⟩ (fun j hj => by
    rcases (by omega : j = 0 ∨ j = 1 ∨ j = 2 ∨ j = 3) with rfl | rfl | rfl | rfl
    · exact nt.cell (i := 0) rfl
    · exact nt.cell (i := 1) rfl
    · exact nt.cell (i := 2) rfl
    · show _ = some (Value.string ⟨tx.toArray⟩); rw [HTX.out]; exact nt.cell (i := 3) rfl)
  obtain ⟨ta', tc', htv', _⟩ := Av.form hk
  subst htv'
  have hlen : (l ++ [(⟨kind, pos, num, tx⟩ : Tok)]).length = l.length + 1 := by simp
  rw [hlen] at hr hk hn
  have HRN := Lib.hid (HRX.out.turn hk htt hn)
  have ob' := HRX.out.obj.touch htt (fun hh => (HRX.out.nt rb (Option.mem_toList.1 hh)).1 rfl)
  have bx' := (nb.touch tX (by simp)).touch htt (fun hh => by have h1 := (HRX.out.tk.own _ (Option.mem_toList.1 hh)).1; have h2 := HR.out.tk.own _ (Option.mem_toList.1 hh); omega)
  have bs' := bx'.other (a := ⟨rb, 2, none⟩) HRB.out (.slice ta' (l.length + 1) tc')
  have c2 := (HR1.out.obj).cell (i := 2) rfl
  have c2x := (HR1.out.obj.touch ((Touch.refl [] W1).alloc (.cells #[.int .i64 kind, .int .i64 pos, .int .i64 num, .string TX] 38)) (by simp)).cell (i := 2) rfl
  have c2f := ob'.free 2
  have c2c := ob'.cell (i := 2) rfl
  have j0 := nb.cell (i := 0) rfl
  have j1 := nb.cell (i := 1) rfl
  have j2 := nb.cell (i := 2) rfl
  have j3 := nb.cell (i := 3) rfl
  have k1 := bs'.cell (i := 1) rfl
  have k3 := bs'.cell (i := 3) rfl
  clear h nb hTX hW1 nt tX hk htt hn ob' bx' bs'
  go_enter Tryd.func29, Tryd.ntmps29
  go_wp2_with fail
  rw [HW1.out]
  go_region_law
    ((first
      | (refine step_append_run rfl _ _ _ _ rfl _ _ (by rfl) (by rfl) _ w' (hr _) ?_)))
  all_goals go_wp2_with fail
  all_goals go_ret
  all_goals exact ⟨rfl, _, HRN.out⟩
end Go.Proofs.YtdlhaadnfmpldaaDoor
