/-
  What is left, when some processes have completed: one completes.
-/
import Derived.Test.YtdonkecclebcdaaB4
set_option linter.unusedVariables false
namespace Go.Proofs.Ytdonkecclebcdaa
open Go.RowKit Go.BigFrame

theorem Mp.dropR {w : World} {b n : Nat} {m : Int → Option Value} (h : Mp (Value.int .i64) w b m n) (k : Int) : ∃ w', (∀ ty, (Builtin.delete_ #[48, 3] ty #[.map (some b), .int .i64 k]).run Try.prog w = .ok (.tuple #[]) w') ∧ (∃ c, Mp (Value.int .i64) w' b (dropM m k) c) ∧ Touch [b] w w' ∧ w'.heap.size = w.heap.size := by
  obtain ⟨w', h1, h2, h3, h4⟩ := h.drop intKey Try.underlying48 Try.underlying3 k
  exact ⟨w', h1, ⟨_, h2⟩, h3, h4⟩
def RstP (base M b bh ba : Nat) (va : Value) (n : Nat) (hs ds : List (List Int)) (W out : List Int) (w : World) (e : Ending) (w' : World) : Prop :=
  e = .returned (.tuple #[]) ∧ Rst w' base M b bh ba va n hs ds W out ∧ Touch (Sx va bh ba) w w'
set_option maxHeartbeats 8000000 in
theorem complete_q (base M b bh ba : Nat) (va : Value) (n : Nat) (hs ds : List (List Int)) (W out : List Int) (i0 : Int) (w : World) (h : Rst w base M b bh ba va n hs ds W out) (hf : freeB n out i0 = true) (l1 : W.length ≤ 1000) (l2 : (rw_ hs i0.toNat).length = W.length)
    (m1 : ∀ k, k < W.length → 0 ≤ W.getD k 0 ∧ W.getD k 0 ≤ 1000000) (m2 : ∀ k, k < W.length → 0 ≤ (rw_ hs i0.toNat).getD k 0 ∧ (rw_ hs i0.toNat).getD k 0 ≤ 1000) :
    Calls Try.prog 22 #[.pointer (some ⟨b, 0, none⟩), .int .i64 i0] w (RstP base M b bh ba va n hs ds (addW W (rw_ hs i0.toNat)) (out ++ [i0]) w) := by
  have HR := Lib.hid h
  obtain ⟨m, c, hm, hr⟩ := h.held
  obtain ⟨v, hv0, hq⟩ := (hr i0).1 hf
  have hk0 := hm.lookR i0
  rw [hv0] at hk0
  have hk : (Instr.lookup 48 (.map (some bh)) (.int .i64 i0) false).run Try.prog w = .ok v w := hk0
  clear hk0
  obtain ⟨ah, ch, hv2⟩ := hq.1.form
  subst hv2
  have HK := Lib.hid hq
  obtain ⟨a, cap, hv⟩ := h.av.form
  subst hv
  obtain ⟨L, hL⟩ : ∃ L, W.length = L := ⟨_, rfl⟩
  have HL := Lib.hid hL
  have HL2 := Lib.hid l2
  have M1 := Lib.hid m1
  have M2 := Lib.hid m2
  have x1 : w.cell? ⟨b, 1, none⟩ = some (.map (some bh)) := h.obj.cell (i := 1) rfl
  have HN := Lib.hid h.ne
  have HAV := Lib.hid h.avb
  have HO := Lib.hid h.obj
  rw [l2] at hk HK
  rw [hL] at hk HK HR M1 M2 HO HAV l1 ⊢
  clear h hm hr hq l2 m1 m2 hL hv0
  go_enter Try.func22, Try.ntmps22
  go_wp2_with fail
  go_loopw [13] (fun i wr => ∃ j : Nat, j ≤ L ∧ i = .int .i64 j ∧ Qu wr base 3 (.slice a L cap) ((partW W (rw_ hs i0.toNat) j).map (Value.int .i64)) ∧ Touch (Value.ownBlock (.slice a L cap)).toList w wr) (fun i _ => L + 1 - (intOf i).toNat)
  case atStart => exact ⟨0, by omega, rfl, by rw [partW_zero]; exact HR.out.av, Touch.refl _ _⟩
  case round =>
    obtain ⟨j, hj, rfl, hq, ht⟩ := hrel
    have HT := Lib.hid ht
    by_cases hjn : j < L
    · have hlt : (j : Int) < (L : Int) := by omega
      obtain ⟨g, off, c, he, hg, hgl, hfz, hc, hset⟩ := hq.setI j (by rw [partW_length, HL.out]; exact hjn)
      rw [partW_length, HL.out] at he
      cases he
      have hgb : g ≠ b := (HAV.out g rfl).1
      have hks := HK.out.1.touchL ht (fun h0 k hk hm => (HK.out.2 h0 k hk).1 (Sx_mem.2 (.inl (Option.mem_toList.1 hm))))
      obtain ⟨gh, oh, rfl, xh⟩ := hks.ix (q := j) (by rw [HL2.out, HL.out]; exact hjn)
      have x2 := xh _ (Touch.refl _ _)
      have x3 : wr.cell? ⟨b, 0, none⟩ = some (.slice (some ⟨g, off, none⟩) L cap) := (HO.out.touch ht (by simp [Value.ownBlock]; exact fun e => hgb e.symm)).cell (i := 0) rfl
      rw [partW_get _ _ _ (by rw [HL.out]; exact hjn)] at hc
      obtain ⟨y1, y2⟩ := M1.out j hjn
      obtain ⟨z1, z2⟩ := M2.out j hjn
      have HS : Hid (Qu (wr.setCell ⟨g, off + j, none⟩ (.int .i64 (W.getD j 0 + (rw_ hs i0.toNat).getD j 0))) base 3 (.slice (some ⟨g, off, none⟩) L cap) ((partW W (rw_ hs i0.toNat) (j + 1)).map (Value.int .i64))) := Lib.hid (by rw [← partW_set]; exact hset _)
      have HT2 : Hid (Touch (Value.ownBlock (.slice (some ⟨g, off, none⟩) L cap)).toList w (wr.setCell ⟨g, off + j, none⟩ (.int .i64 (W.getD j 0 + (rw_ hs i0.toNat).getD j 0)))) := Lib.hid (HT.out.setCell (by simp [Value.ownBlock]) _)
      obtain ⟨y, hy⟩ : ∃ x, W.getD j 0 = x := ⟨_, rfl⟩
      obtain ⟨z, hz⟩ : ∃ x, (rw_ hs i0.toNat).getD j 0 = x := ⟨_, rfl⟩
      rw [hy] at hc y1 y2 HS HT2
      rw [hz] at x2 z1 z2 HS HT2
      have hf2 := hfz (off + j)
      have v1 : IntKind.i64.wrap (y + z) = y + z := IntWalk.i64_in _ (by omega)
      clear xh ht hy hz hq hset hfz hks hk x1 hgb
      go_wp2
      go_roundw
      case rel => exact ⟨j + 1, by omega, by go_num, HS.out, HT2.out⟩
      case measure => simp [intOf]; omega
    · have hlt : ¬ (j : Int) < (L : Int) := by omega
      obtain rfl : j = L := by omega
      have HQ : Hid (Qu wr base 3 (.slice a j cap) ((addW W (rw_ hs i0.toNat)).map (Value.int .i64))) := Lib.hid (by rw [← partW_all, HL.out]; exact hq)
      clear hq
      obtain ⟨n2, n3, n6⟩ := HN.out
      have hb : ∀ k, k ∈ (Value.ownBlock (.slice a j cap)).toList → k ≠ b ∧ k ≠ bh ∧ k ≠ ba := fun k hk => by have := HAV.out k (Option.mem_toList.1 hk); exact ⟨this.1, this.2.1, this.2.2.1⟩
      have hx : ∀ k, k ∈ (Value.ownBlock (.slice a j cap)).toList → k ∈ Sx (.slice a j cap) bh ba := fun k hk => Sx_mem.2 (.inl (Option.mem_toList.1 hk))
      obtain ⟨m1, c1, h1, h2⟩ := HR.out.held
      obtain ⟨m2, c2, h3, h4⟩ := HR.out.asks
      have h1 := h1.touch ht (fun hm => (hb _ hm).2.1 rfl)
      have h3 := h3.touch ht (fun hm => (hb _ hm).2.2 rfl)
      have h2 := (h2.touch ht (fun k hk => .inl (hx k hk))).del i0
      have h4 := (h4.touch ht (fun k hk => .inl (hx k hk))).del i0
      obtain ⟨w1, hd1, ⟨c1', h1⟩, t1, _⟩ := h1.dropR i0
      have h3 := h3.touch t1 (by simpa using Ne.symm n6)
      obtain ⟨w2, hd2, ⟨c2', h3⟩, t2, _⟩ := h3.dropR i0
      have s1 : ∀ k, k ∈ [bh] → k ∈ Sx (.slice a j cap) bh ba ∨ M ≤ k := fun k hk => .inl (Sx_mem.2 (.inr (.inl (by simpa using hk))))
      have s2 : ∀ k, k ∈ [ba] → k ∈ Sx (.slice a j cap) bh ba ∨ M ≤ k := fun k hk => .inl (Sx_mem.2 (.inr (.inr (by simpa using hk))))
      have ho0 := HO.out.touch ht (fun hm => (hb _ hm).1 rfl)
      have y1 : wr.cell? ⟨b, 1, none⟩ = some (.map (some bh)) := ho0.cell (i := 1) rfl
      have ho1 := ho0.touch t1 (by simpa using n2)
      have y2 : w1.cell? ⟨b, 2, none⟩ = some (.map (some ba)) := ho1.cell (i := 2) rfl
      have HF : Hid (Rst w2 base M b bh ba (.slice a j cap) n hs ds (addW W (rw_ hs i0.toNat)) (out ++ [i0])) := Lib.hid
        ⟨ho1.touch t2 (by simpa using n3), (HQ.out.touch t1 (fun k hk => by have := HAV.out k hk; simp; omega)).touch t2 (fun k hk => by have := HAV.out k hk; simp; omega), HAV.out,
          ⟨_, _, h1.touch t2 (by simpa using n6), (h2.touch t1 s1).touch t2 s2⟩, ⟨_, _, h3, (h4.touch t1 s1).touch t2 s2⟩, HR.out.lo, HR.out.hi, HN.out⟩
      have HT2 : Hid (Touch (Sx (.slice a j cap) bh ba) w w2) := Lib.hid (((ht.mono hx).trans (t1.mono (fun k hk => Sx_mem.2 (.inr (.inl (by simpa using hk)))))).trans (t2.mono (fun k hk => Sx_mem.2 (.inr (.inr (by simpa using hk))))))
      clear ht h1 h2 h3 h4 t1 t2 ho0 ho1 n2 n3 n6 hk x1 hb hx s1 s2
      go_wp2
      go_end0
      exact ⟨rfl, HF.out, HT2.out⟩
end Go.Proofs.Ytdonkecclebcdaa
