/-
  The process table: one is taken out of a list.
-/
import Derived.Test.YtjcbcbhiophkfaaC
import Derived.Deep.RegionLaw
import Derived.Lib.SliceRun
set_option linter.unusedVariables false
namespace Go.Proofs.Ytjcbcbhiophkfaa
open Go.RowKit

/-- What deleting one leaves. -/
def DelP (g off cap : Nat) (xs : List Int) (base : Nat) (w : World) (e : Ending) (w' : World) : Prop :=
  e = .returned (.slice (some ⟨g, off, none⟩) xs.length cap) ∧ Qu w' base 3 (.slice (some ⟨g, off, none⟩) xs.length cap) (xs.map (Value.int .i64)) ∧ Touch [g] w w'
set_option maxHeartbeats 8000000 in
theorem delete_any (g off cap base k n : Nat) (xs : List Int) (w : World) (h : Qu w base 3 (.slice (some ⟨g, off, none⟩) n cap) (xs.map (Value.int .i64))) (hn : xs.length = n) (hk : k < n) (hl : n ≤ 100000) :
    Calls Try.prog 49 #[.slice (some ⟨g, off, none⟩) n cap, .int .i64 k, .int .i64 ((k : Int) + 1)] w (DelP g off cap (xs.eraseIdx k) base w) := by
  obtain ⟨i0, hi, hz0, hz1, hz2⟩ := infoI
  rcases h with ⟨h, _⟩ | ⟨g', off', cap', cur, hv, hbase, hb, hle, hmax, hsz, hcells⟩
  · cases h
  cases hv
  simp only [List.length_map] at hk hl hle hcells ⊢
  clear hn
  obtain ⟨n, hn⟩ : ∃ n, xs.length = n := ⟨_, rfl⟩
  rw [hn] at hk hl hle hcells ⊢
  have hel : (xs.eraseIdx k).length = n - 1 := by rw [List.length_eraseIdx_of_lt (by omega)]; omega
  obtain ⟨news, hnews⟩ : ∃ news, news = (xs.drop (k + 1)).map (Value.int .i64) := ⟨_, rfl⟩
  have hnl : news.length = n - (k + 1) := by rw [hnews]; simp; omega
  have hng : ∀ t, t < n - (k + 1) → news[t]? = some (.int .i64 (xs.getD (k + 1 + t) 0)) := fun t ht => by
    rw [hnews]
    have : k + 1 + t < xs.length := by omega
    simp [this]
  have hone : ∀ u ∈ news, u.oneCell' = true := fun u hu => by rw [hnews] at hu; exact ints_oneCell _ u hu
  have hcur : ∀ j, j < n → cur[off + j]? = some (.int .i64 (xs.getD j 0)) := fun j hj => by
    rw [hcells j (by omega)]
    have : j < xs.length := by omega
    simp [this]
  have hbd : Blk w.drew g cur 3 := hb.drew
  obtain ⟨cur1, hb1, hs1, hin1, hout1⟩ := hbd.setCells news _ (off + k) _ (by omega)
  obtain ⟨W1, hW1⟩ : ∃ W1, w.drew.setCells g (off + k) news = W1 := ⟨_, rfl⟩
  rw [hW1] at hb1
  have ht1 : Touch [g] w W1 := by
    obtain ⟨q1, q2, q3, q4, q5⟩ := setCells_blocks g news w.drew (off + k)
    rw [hW1] at q1 q2 q3 q4 q5
    exact ⟨q1, q2, q3, Nat.le_of_eq q4.symm, fun i _ hi => q5 i (by simpa using hi)⟩
  have hcl : ∀ ty, (Builtin.clear_ #[42] ty #[.slice (some ⟨g, off + (n - 1), none⟩) 1 (cap - (n - 1))]).run Try.prog W1 = .ok (.tuple #[]) (W1.setCells g (off + (n - 1)) (List.replicate 1 (.int .i64 0))) :=
    fun ty => Lib.run_clear_slice W1 _ _ ty (.int .i64 0) Try.underlying42 (fun w => by kernel_rfl) rfl rfl g (off + (n - 1)) _ _ (by omega) (fun t ht => by rw [hb1.cell (Array.getElem?_eq_getElem (show off + (n - 1) + t < cur1.size by omega))]; rfl) (fun t _ => hb1.free _)
  obtain ⟨cur2, hb2, hs2, hin2, hout2⟩ := hb1.setCells (List.replicate 1 (.int .i64 0)) _ (off + (n - 1)) _ (by simp; omega)
  have hq : Qu (W1.setCells g (off + (n - 1)) (List.replicate 1 (.int .i64 0))) base 3 (.slice (some ⟨g, off, none⟩) (xs.eraseIdx k).length cap) ((xs.eraseIdx k).map (Value.int .i64)) := by
    refine .inr ⟨g, off, cap, cur2, by simp, hbase, hb2, by simp only [List.length_map]; omega, hmax, by omega, fun j hj => ?_⟩
    simp only [List.length_map] at hj
    rw [hel] at hj
    have hje : j < (xs.eraseIdx k).length := by omega
    rw [List.getElem?_map, List.getElem?_eq_getElem hje]
    rw [hout2 (off + j) (.inl (by omega))]
    by_cases hjk : j < k
    · rw [hout1 (off + j) (.inl (by omega)), hcur j (by omega), List.getElem_eraseIdx_of_lt (h' := hjk)]
      have : j < xs.length := by omega
      simp [this]
    · have h1 := hin1 (j - k) (by omega)
      rw [show off + k + (j - k) = off + j from by omega, hng (j - k) (by omega)] at h1
      rw [h1, List.getElem_eraseIdx_of_ge (h' := by omega)]
      have : j + 1 < xs.length := by omega
      rw [show k + 1 + (j - k) = j + 1 from by omega]
      simp [this]
  have ht2 : Touch [g] w (W1.setCells g (off + (n - 1)) (List.replicate 1 (.int .i64 0))) := by
    obtain ⟨q1, q2, q3, q4, q5⟩ := setCells_blocks g (List.replicate 1 (Value.int .i64 0)) W1 (off + (n - 1))
    exact ht1.trans ⟨q1, q2, q3, Nat.le_of_eq q4.symm, fun i _ hi => q5 i (by simpa using hi)⟩
  have HQ := Lib.hid hq
  have HT := Lib.hid ht2
  have s1 : Hid (news.length = (n - (k + 1)) * 1) := Lib.hid (by omega)
  have s2 := Lib.hid hone
  have s3 : Hid (∀ t, t < news.length → (w.drew.cell? ⟨g, off + k * 1 + t, none⟩).isSome = true ∧ w.drew.frozen? ⟨g, off + k * 1 + t, none⟩ = false) := Lib.hid (fun t ht => by
    rw [Nat.mul_one]
    exact ⟨by rw [hbd.cell (Array.getElem?_eq_getElem (show off + k + t < cur.size by omega))]; rfl, hbd.free _⟩)
  have HW : Hid (w.drew.setCells g (off + k * 1) news = W1) := Lib.hid (by rw [Nat.mul_one]; exact hW1)
  have HEL := Lib.hid hel
  have hm := hmax
  unfold maxLen at hm
  have hsrc : ∀ A : Addr, (A = ⟨g, off + (k + 1), none⟩ ∨ n - (k + 1) = 0) → Hid (∀ t u, news[t]? = some u → w.drew.cell? (A.add t) = some u) := fun A hA => Lib.hid (fun t u hu => by
    have htl : t < news.length := (List.getElem?_eq_some_iff.1 hu).1
    rcases hA with rfl | h0
    · rw [hng t (by omega)] at hu
      cases hu
      have e1 := hbd.cell (hcur (k + 1 + t) (by omega))
      have e2 : (Addr.add ⟨g, off + (k + 1), none⟩ t) = ⟨g, off + (k + 1 + t), none⟩ := by rw [Addr.add_lit]; congr 1; omega
      rw [e2]; exact e1
    · omega)
  have HSRC := Lib.hid hsrc
  have hkn : (k : Int) + 1 ≤ (n : Int) := by omega
  have hkc : (k : Int) + 1 ≤ (cap : Int) := by omega
  have hne : ((k : Int) == (k : Int) + 1) = false := beqF (by omega)
  have hkc2 : k ≤ cap := by omega
  have hp1 : (0 : Int) ≤ (k : Int) + 1 := by omega
  have hp2 : (k : Int) ≤ (k : Int) + 1 := by omega
  have hkc3 : k + 1 ≤ cap := by omega
  have hk3 : k + (n - (k + 1)) = n - 1 := by omega
  have HK3 := Lib.hid hk3
  clear hnl hng hone hcur hbd hb1 hin1 hout1 hW1 ht1 hb2 hin2 hout2 hq ht2 hel hcells hb hsrc hnews hk3
  by_cases hcap : k + 1 = cap
  · have HS := HSRC.out ⟨g, off, none⟩ (.inr (by omega))
    have s1 : Hid (news.length = 0 * 1) := Lib.hid (by have := s1.out; omega)
    have HK3 : Hid (k + 0 = k) := Lib.hid (by omega)
    have hcl : ∀ ty, (Builtin.clear_ #[42] ty #[.slice (some ⟨g, off + k, none⟩) 1 1]).run Try.prog W1 = .ok (.tuple #[]) (W1.setCells g (off + k) (List.replicate 1 (.int .i64 0))) := by
      have h1 : n - 1 = k := by omega
      have h2 : cap - k = 1 := by omega
      rw [h1, h2] at hcl
      exact hcl
    have HQ1 : Hid (Qu (W1.setCells g (off + k) (List.replicate 1 (.int .i64 0))) base 3 (.slice (some ⟨g, off, none⟩) (xs.eraseIdx k).length cap) ((xs.eraseIdx k).map (Value.int .i64))) := Lib.hid (by have := HQ.out; rw [show n - 1 = k from by omega] at this; exact this)
    have HT1 : Hid (Touch [g] w (W1.setCells g (off + k) (List.replicate 1 (.int .i64 0)))) := Lib.hid (by have := HT.out; rw [show n - 1 = k from by omega] at this; exact this)
    have HE1 : Hid ((xs.eraseIdx k).length = k) := Lib.hid (by have := HEL.out; omega)
    have hnil : news = [] := List.eq_nil_of_length_eq_zero (by have := s1.out; omega)
    have hWd : W1 = w.drew := by rw [← HW.out, hnil]; rfl
    rw [hWd] at hcl HQ1 HT1
    clear hWd hnil
    obtain rfl : n = k + 1 := by omega
    obtain rfl : cap = k + 1 := by omega
    clear hcap
    go_enter Try.func49, Try.ntmps49
    go_wp2_with fail
    go_region
    go_wp2
    go_ret
    exact ⟨(by rw [HE1.out]; rfl), HQ1.out, HT1.out⟩
  · have HS := HSRC.out ⟨g, off + (k + 1), none⟩ (.inl rfl)
    have hc2 : ¬ cap = k + 1 := by omega
    have hcl : ∀ ty, (Builtin.clear_ #[42] ty #[.slice (some ⟨g, off + (n - 1), none⟩) (n - (n - 1)) (cap - (n - 1))]).run Try.prog W1 = .ok (.tuple #[]) (W1.setCells g (off + (n - 1)) (List.replicate 1 (.int .i64 0))) := by
      rw [show n - (n - 1) = 1 from by omega]; exact hcl
    go_enter Try.func49, Try.ntmps49
    go_wp2_with fail
    go_region_law ((refine step_append_room rfl (.tmp 22) (.tmp 25) 42 rfl 3 i0 1 Try.underlying42 hi hz1 g off k cap (by simp [Act.eval, Act.put]) ⟨g, off + (k + 1), none⟩ (n - (k + 1)) (cap - (k + 1)) news (by simp [Act.eval, Act.put]) s1.out HS.out s2.out (by omega) s3.out ?_; rw [HW.out, HK3.out]))
    go_wp2
    go_ret
    exact ⟨(by rw [HEL.out]; rfl), HQ.out, HT.out⟩
end Go.Proofs.Ytjcbcbhiophkfaa
