/-
  The reference's stack: a local; how many words are in use.
-/
import Derived.Test.YtgljkjjanffncaaT17
set_option linter.unusedVariables false
namespace Go.Proofs.Ytgljkjjanffncaa
open Go.RowKit Go.BigFrame

theorem Rf.drop {w : World} {base : Nat} {ps : Nat → Nat → Value} : ∀ {S : List Frm}, Rf w base ps S → ∀ k, Rf w base ps (S.drop k)
  | S, h, 0 => by simpa using h
  | [], _, k + 1 => trivial
  | F :: r, h, k + 1 => by simpa using Rf.drop h.1 k
theorem drop_next (S : List Frm) (j : Nat) (hj : j < S.length) : ∃ G, S.drop (S.length - (j + 1)) = G :: S.drop (S.length - j) := by
  have h : S.length - (j + 1) < S.length := by omega
  refine ⟨S[S.length - (j + 1)], ?_⟩
  rw [List.drop_eq_getElem_cons h, show S.length - (j + 1) + 1 = S.length - j from by omega]
theorem topS_next (G : Frm) (r : List Frm) : topS (G :: r) = if r.length = 0 then G.ops.length else topS r + G.loc.length + 2 + G.ops.length := by
  cases r with
  | nil => rfl
  | cons H r => rw [if_neg (by simp)]; rfl
theorem topS_drop : ∀ (S : List Frm) (k : Nat), topS (S.drop k) ≤ topS S
  | S, 0 => by simp
  | [], k + 1 => by simp
  | [F], k + 1 => by simp [topS]
  | F :: G :: r, k + 1 => by
    have := topS_drop (G :: r) k
    simp only [List.drop_succ_cons]
    have h : topS (F :: G :: r) = topS (G :: r) + F.loc.length + 2 + F.ops.length := rfl
    omega
section
variable (B : List Nat) (base t size : Nat) (S : List Frm) (v : Value) (ps : Nat → Nat → Value) (w : World)
set_option maxHeartbeats 4000000 in
theorem rlen_q (hn : S.length ≤ 1000000) (hm : topS S ≤ 1000000) (hne : S ≠ []) (h : Rz w B base t size v ps S) :
    Calls Try.prog 29 #[.pointer (some ⟨t, 0, none⟩)] w fun e w' => e = .returned (.int .i64 (topS S : Nat)) ∧ w = w' := by
  obtain ⟨F, r, hS⟩ : ∃ F r, S = F :: r := by
    cases S with
    | nil => exact absurd rfl hne
    | cons F r => exact ⟨F, r, rfl⟩
  obtain ⟨g, cap, hv, hg, hc1, hc2, _, _⟩ := (hS ▸ h : Rz w B base t size v ps (F :: r)).top
  have hlen : S.length = r.length + 1 := by rw [hS]; simp
  rw [← hlen] at hv hc1
  subst hv
  have HK := Lib.hid h
  have x1 := h.obj.cell (i := 1) rfl
  obtain ⟨n, hn'⟩ : ∃ n, S.length = n := ⟨_, rfl⟩
  have HN := Lib.hid hn'
  rw [hn'] at hn x1 hc1
  have HM := Lib.hid hm
  clear h hm hne hS hlen hn'
  go_enter Try.func29, Try.ntmps29
  go_wp2_with fail
  go_loopw [3, 4] (fun a i wr => ∃ j : Nat, j ≤ n ∧ i = .int .i64 j ∧ a = .int .i64 (topS (S.drop (n - j)) : Nat) ∧ w = wr) (fun _ i _ => n + 1 - (intOf i).toNat)
  case atStart => exact ⟨0, by omega, rfl, by rw [Nat.sub_zero, ← HN.out, List.drop_length]; rfl, rfl⟩
  case round =>
    obtain ⟨j, hj, rfl, rfl, rfl⟩ := hrel
    by_cases hjn : j < n
    · obtain ⟨G, hG⟩ := drop_next S j (by rw [HN.out]; exact hjn)
      rw [HN.out] at hG
      have hr := HK.out.fr.drop (n - (j + 1))
      rw [hG] at hr
      have hlj : (S.drop (n - j)).length = j := by rw [List.length_drop, HN.out]; omega
      obtain ⟨_, _, q1, q2⟩ := hr
      rw [hlj] at q1 q2
      have htn := topS_next G (S.drop (n - j))
      rw [hlj] at htn
      have hbd := topS_drop S (n - (j + 1))
      rw [hG] at hbd
      have hbm := HM.out
      obtain ⟨a1, c1, e1⟩ := Qu.form q1
      obtain ⟨a2, c2, e2⟩ := Qu.form q2
      obtain ⟨g', cap', he, _, _, _, _, hc, _⟩ := HK.out.fs.at (i := j) (by rw [HN.out]; exact hjn)
      have hgg : g' = g := by cases he; rfl
      subst hgg
      have y1 := hc 1 (by omega)
      have y2 := hc 2 (by omega)
      rw [e1] at y1
      rw [e2] at y2
      obtain ⟨T, hT⟩ : ∃ T, topS (S.drop (n - j)) = T := ⟨_, rfl⟩
      obtain ⟨l, hl⟩ : ∃ l, G.loc.length = l := ⟨_, rfl⟩
      obtain ⟨o, ho⟩ : ∃ o, G.ops.length = o := ⟨_, rfl⟩
      rw [hT, hl, ho] at htn
      rw [hl] at y1
      rw [ho] at y2
      rw [hT]
      have HX : Hid (topS (S.drop (n - (j + 1))) = if j = 0 then o else T + l + 2 + o) := Lib.hid (by rw [hG]; exact htn)
      rw [htn] at hbd
      have hTb := topS_drop S (n - j)
      rw [hT] at hTb
      have hT0 : j = 0 → T = 0 := fun h0 => by rw [← hT, h0, Nat.sub_zero, ← HN.out, List.drop_length]; rfl
      clear hc he q1 q2 e1 e2 hT hl ho htn hG hlj
      by_cases hj0 : j = 0
      · rw [if_pos hj0] at HX hbd
        have hTz : T = 0 := hT0 hj0
        clear hT0 hTb
        subst hTz
        subst hj0
        have v1 : IntKind.i64.wrap (o : Int) = (o : Int) := IntWalk.i64_in _ (by omega)
        go_wp2
        go_roundw
        case rel => exact ⟨1, by omega, by go_num, by first | (rw [HX.out]; done) | (rw [HX.out]; rfl), trivial⟩
        case measure => first | (simp [intOf]; done) | (simp [intOf]; omega)
      · rw [if_neg hj0] at HX hbd
        clear hT0
        have v1 : IntKind.i64.wrap ((T : Int) + (o : Int)) = (T : Int) + (o : Int) := IntWalk.i64_in _ (by omega)
        have v2 : IntKind.i64.wrap ((T : Int) + (o : Int) + 2) = (T : Int) + (o : Int) + 2 := IntWalk.i64_in _ (by omega)
        have v3 : IntKind.i64.wrap ((T : Int) + (o : Int) + 2 + (l : Int)) = (T : Int) + (o : Int) + 2 + (l : Int) := IntWalk.i64_in _ (by omega)
        have k1 : 0 < j := by omega
        go_wp2
        go_roundw
        case rel => exact ⟨j + 1, by omega, by go_num, by rw [HX.out]; exact congrArg (Value.int .i64) (by push_cast; omega), trivial⟩
        case measure => simp [intOf]; omega
    · have hj' : j = n := by omega
      subst hj'
      rw [Nat.sub_self, List.drop_zero]
      clear hjn hj
      go_wp2
      go_ret
      exact ⟨rfl, rfl⟩
end
end Go.Proofs.Ytgljkjjanffncaa
