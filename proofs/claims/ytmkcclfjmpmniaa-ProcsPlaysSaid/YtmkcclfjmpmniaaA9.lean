/-
  Both process tables: they are the same.
-/
import Derived.Test.YtmkcclfjmpmniaaZ8
import Derived.Deep.RegionHeld3
set_option linter.unusedVariables false
namespace Go.Proofs.Ytmkcclfjmpmniaa
open Go.RowKit Go.BigFrame

section
variable (b c : Nat) (F G : List Nat) (mo : Int) (n : Nat) (ps : Nat → Nat → Int) (live : List Int) (w : World)
def kidsN (ps : Nat → Nat → Int) (n : Nat) (p : Int) : Int := if p < 1 then 0 else ((upF n (kdF ps p)).length : Nat)
theorem kids_1 (p x : Int) (h : Pt w b F mo n ps live) (hk : Ok n ps live) (hn : n ≤ 9000) (hx : kidsN ps n p = x) : Calls Try.prog 27 #[.pointer (some ⟨b, 0, none⟩), .int .i64 p] w fun e w' => e = .returned (.int .i64 x) ∧ w = w' := by
  have hfew := hk.few
  subst hx
  unfold kidsN
  by_cases hp : p < 1
  · rw [if_pos hp]
    exact kids_low b w p hp
  · rw [if_neg hp, ← those_kd hk p]
    exact kids_any b F mo n ps live w p h (by omega) (by omega) (by omega)
theorem kids_2 (p x : Int) (h : Rt w c G mo n ps) (hn : n ≤ 9000) (hx : kidsN ps n p = x) : Calls Try.prog 43 #[.pointer (some ⟨c, 0, none⟩), .int .i64 p] w fun e w' => e = .returned (.int .i64 x) ∧ w = w' := by
  subst hx
  unfold kidsN
  by_cases hp : p < 1
  · rw [if_pos hp]
    exact rkids_low c G mo n ps w p h hn hp
  · rw [if_neg hp]
    exact rkids c G mo n ps w p h hn (by omega)
theorem rstate_q (p x : Int) (h : Rt w c G mo n ps) (hn : n ≤ 9000) (hx : fieldOf ps n p 0 = x) : Calls Try.prog 36 #[.pointer (some ⟨c, 0, none⟩), .int .i64 p] w fun e w' => e = .returned (.int .i64 x) ∧ w = w' := hx ▸ rstate c G mo n ps w p h (by omega)
theorem rparent_q (p x : Int) (h : Rt w c G mo n ps) (hq : Pos n ps) (hn : n ≤ 9000) (hx : fieldOf ps n p 1 = x) : Calls Try.prog 42 #[.pointer (some ⟨c, 0, none⟩), .int .i64 p] w fun e w' => e = .returned (.int .i64 x) ∧ w = w' := hx ▸ rparent c G mo n ps w p h (by omega) hq.ne
theorem rcode_q (p x : Int) (h : Rt w c G mo n ps) (hq : Pos n ps) (hn : n ≤ 9000) (hx : fieldOf ps n p 4 = x) : Calls Try.prog 41 #[.pointer (some ⟨c, 0, none⟩), .int .i64 p] w fun e w' => e = .returned (.int .i64 x) ∧ w = w' := hx ▸ rcode c G mo n ps w p h (by omega) hq.ne
theorem rwhy_q (p x y : Int) (h : Rt w c G mo n ps) (hq : Pos n ps) (hn : n ≤ 9000) (hx : fieldOf ps n p 2 = x) (hy : fieldOf ps n p 3 = y) : Calls Try.prog 40 #[.pointer (some ⟨c, 0, none⟩), .int .i64 p] w fun e w' => e = .returned (.agg #[.int .i64 x, .int .i64 y]) ∧ Touch [] w w' := hx ▸ hy ▸ rwhy c G mo n ps w p h (by omega) hq.ne
theorem rin_q (st : Int) (xs : List Int) (h : Rt w c G mo n ps) (hn : n ≤ 9000) (hx : upF n (stF ps st) = xs) : Calls Try.prog 39 #[.pointer (some ⟨c, 0, none⟩), .int .i64 st] w (Own xs w) := hx ▸ rin c G mo n ps w st h hn
theorem rlive_q (m : Nat) (h : Rt w c G mo n ps) (hn : n ≤ 9000) (hx : (upF n (lvF ps)).length = m) : Calls Try.prog 34 #[.pointer (some ⟨c, 0, none⟩)] w fun e w' => e = .returned (.int .i64 m) ∧ Touch [] w w' := hx ▸ rlive c G mo n ps w h hn
set_option maxRecDepth 100000 in
set_option maxHeartbeats 16000000 in
theorem same_any (hp : Pt w b F mo n ps live) (hr : Rt w c G mo n ps) (hf : Fine n ps live mo) (hn : n ≤ 9000) : Calls Try.prog 18 #[.pointer (some ⟨b, 0, none⟩), .pointer (some ⟨c, 0, none⟩)] w fun e w' => e = .returned (.bool true) ∧ Touch [] w w' := by
  have HP := Lib.hid hp
  have HR := Lib.hid hr
  have HF := Lib.hid hf
  have hfew := hf.ok.few
  obtain ⟨v, hv, _⟩ := hr
  obtain ⟨va, vc, rfl, _⟩ := hv.all.form
  have x1 := hv.obj.cell (i := 1) rfl
  have HV0 := Lib.hid hv
  obtain ⟨m, hm⟩ : ∃ m, live.length = m := ⟨_, rfl⟩
  have HM1 : Hid ((live.length : Int) = (m : Int)) := Lib.hid (by rw [hm])
  have HM2 : Hid ((upF n (lvF ps)).length = m) := Lib.hid (by rw [← live_eq hf.ok]; exact hm)
  obtain ⟨xs1, hx1⟩ : ∃ xs, upF n (stF ps 1) = xs := ⟨_, rfl⟩
  obtain ⟨xs2, hx2⟩ : ∃ xs, upF n (stF ps 2) = xs := ⟨_, rfl⟩
  have HX1 := Lib.hid hx1
  have HX2 := Lib.hid hx2
  have HT1 : Hid (those ps n 0 1 live = xs1) := Lib.hid (by rw [those_st hf.ok 1 (.inl rfl)]; exact hx1)
  have HT2 : Hid (those ps n 0 2 live = xs2) := Lib.hid (by rw [those_st hf.ok 2 (.inr rfl)]; exact hx2)
  have HL1 : Hid (xs1.length ≤ 1000000) := Lib.hid (by have := upF_len n (stF ps 1); rw [hx1] at this; omega)
  have HL2 : Hid (xs2.length ≤ 1000000) := Lib.hid (by have := upF_len n (stF ps 2); rw [hx2] at this; omega)
  have HL : Hid (live.length ≤ 100000) := Lib.hid (by omega)
  clear hp hf hv hm hx1 hx2 hfew
  go_enter Try.func18, Try.ntmps18
  go_wp2_with fail
  have HA := Lib.hid ((Touch.refl [] _).drew : Touch [] w (World.drew w))
  go_region_held3 (fun w' => w'.cell? ⟨c, 1, none⟩ = some (.slice va n vc)) (first | go_keep | exact (HV0.out.obj.touch HA.out (by simp)).cell (i := 1) rfl)
    ((first
      | (go_at_call 19; refine (live_q b F mo n ps live _ m (Pt.still HP.out HA.out) HM1.out).mono ?_; rintro e w' ⟨rfl, rfl⟩)
      | (go_at_call 34; refine (rlive_q c G mo n ps _ m (Rt.still HR.out HA.out) hn HM2.out).mono ?_; rintro e w' ⟨rfl, ht⟩; have HA := Lib.hid (HA.out.trans ht); clear ht)
      | (go_at_call 28; refine (count_q b F mo n ps live _ (Pt.still HP.out HA.out)).mono ?_; rintro e w' ⟨rfl, rfl⟩)
      | (go_at_call 20; refine (ready_q b F mo n ps live _ xs1 (Pt.still HP.out HA.out) (by omega) HL.out HT1.out).mono ?_; rintro e w' ⟨v, rfl, hv, ht⟩; have HA := Lib.hid (HA.out.trans ht); have HV := Lib.hid hv.sl; obtain ⟨va1, vc1, rfl⟩ := Qu.form hv; clear hv ht)
      | (go_at_call 25; refine (blocked_q b F mo n ps live _ xs2 (Pt.still HP.out HA.out) (by omega) HL.out HT2.out).mono ?_; rintro e w' ⟨v, rfl, hv, ht⟩; have HA := Lib.hid (HA.out.trans ht); have HV := Lib.hid hv.sl; obtain ⟨va3, vc3, rfl⟩ := Qu.form hv; clear hv ht)
      | (go_at_call_of 39 (Value.int .i64 1); refine (rin_q c G mo n ps _ 1 xs1 (Rt.still HR.out HA.out) hn HX1.out).mono ?_; rintro e w' ⟨v, rfl, hv, ht⟩; have HA := Lib.hid (HA.out.trans ht); have HV := Lib.hid (HV.out.touch ht (fun _ _ => by simp)); have HW := Lib.hid hv.sl; obtain ⟨va2, vc2, rfl⟩ := Qu.form hv; clear hv ht)
      | (go_at_call_of 39 (Value.int .i64 2); refine (rin_q c G mo n ps _ 2 xs2 (Rt.still HR.out HA.out) hn HX2.out).mono ?_; rintro e w' ⟨v, rfl, hv, ht⟩; have HA := Lib.hid (HA.out.trans ht); have HV := Lib.hid (HV.out.touch ht (fun _ _ => by simp)); have HW := Lib.hid hv.sl; obtain ⟨va4, vc4, rfl⟩ := Qu.form hv; clear hv ht)
      | (go_at_call 29; with_reducible refine (ints_eq _ _ xs1 _ HV.out HW.out HL1.out).mono ?_; rintro e w' ⟨rfl, ht⟩; have HA := Lib.hid (HA.out.trans ht); clear ht)
      | (go_at_call 29; with_reducible refine (ints_eq _ _ xs2 _ HV.out HW.out HL2.out).mono ?_; rintro e w' ⟨rfl, ht⟩; have HA := Lib.hid (HA.out.trans ht); clear ht)))
  clear x1
  go_wp2
  go_loopw [5] (fun i wr => ∃ (k : Nat) (p : Int), k ≤ n + 3 ∧ p = (k : Int) - 1 ∧ i = .int .i64 p ∧ Touch [] w wr) (fun i _ => (n : Int).toNat + 5 - (intOf i + 1).toNat)
  case atStart => exact ⟨0, -1, by omega, by omega, rfl, HA.out⟩
  case round =>
    clear HA
    obtain ⟨k, p, hk, hp, rfl, ht⟩ := hrel
    have HA := Lib.hid ht
    have HPk := Lib.hid hp
    have x1 := (HV0.out.obj.touch ht (by simp)).cell (i := 1) rfl
    have hp1 : -1 ≤ p := by omega
    have hp2 : p ≤ 9100 := by omega
    clear ht hp
    by_cases hkn : p ≤ (n : Int) + 1
    · obtain ⟨s0, hs0⟩ : ∃ s, fieldOf ps n p 0 = s := ⟨_, rfl⟩
      obtain ⟨s1, hs1⟩ : ∃ s, fieldOf ps n p 1 = s := ⟨_, rfl⟩
      obtain ⟨s2, hs2⟩ : ∃ s, fieldOf ps n p 2 = s := ⟨_, rfl⟩
      obtain ⟨s3, hs3⟩ : ∃ s, fieldOf ps n p 3 = s := ⟨_, rfl⟩
      obtain ⟨s4, hs4⟩ : ∃ s, fieldOf ps n p 4 = s := ⟨_, rfl⟩
      obtain ⟨s5, hs5⟩ : ∃ s, kidsN ps n p = s := ⟨_, rfl⟩
      have H0 := Lib.hid hs0
      have H1 := Lib.hid hs1
      have H2 := Lib.hid hs2
      have H3 := Lib.hid hs3
      have H4 := Lib.hid hs4
      have H5 := Lib.hid hs5
      clear hs0 hs1 hs2 hs3 hs4 hs5
      go_wp2_with fail
      refine (state_q b F mo n ps live _ p s0 (Pt.still HP.out HA.out) (by omega) H0.out).mono ?_
      rintro e v1 ⟨rfl, rfl⟩
      go_wp2_with fail
      refine (rstate_q c G mo n ps _ p s0 (Rt.still HR.out HA.out) hn H0.out).mono ?_
      rintro e v2 ⟨rfl, rfl⟩
      go_wp2_with fail
      refine (why_q b F mo n ps live _ p s2 s3 (Pt.still HP.out HA.out) (by omega) H2.out H3.out).mono ?_
      rintro e v3 ⟨rfl, ht⟩
      have HA := Lib.hid (HA.out.trans ht)
      clear ht
      go_wp2_with fail
      refine (rwhy_q c G mo n ps _ p s2 s3 (Rt.still HR.out HA.out) HF.out.pos hn H2.out H3.out).mono ?_
      rintro e v4 ⟨rfl, ht⟩
      have HA := Lib.hid (HA.out.trans ht)
      clear ht
      go_wp2_with fail
      refine (code_q b F mo n ps live _ p s4 (Pt.still HP.out HA.out) (by omega) H4.out).mono ?_
      rintro e v5 ⟨rfl, rfl⟩
      go_wp2_with fail
      refine (rcode_q c G mo n ps _ p s4 (Rt.still HR.out HA.out) HF.out.pos hn H4.out).mono ?_
      rintro e v6 ⟨rfl, rfl⟩
      go_wp2_with fail
      refine (parent_q b F mo n ps live _ p s1 (Pt.still HP.out HA.out) (by omega) H1.out).mono ?_
      rintro e v7 ⟨rfl, rfl⟩
      go_wp2_with fail
      refine (rparent_q c G mo n ps _ p s1 (Rt.still HR.out HA.out) HF.out.pos hn H1.out).mono ?_
      rintro e v8 ⟨rfl, rfl⟩
      go_wp2_with fail
      refine (kids_1 b F mo n ps live _ p s5 (Pt.still HP.out HA.out) HF.out.ok hn H5.out).mono ?_
      rintro e v9 ⟨rfl, rfl⟩
      go_wp2_with fail
      refine (kids_2 c G mo n ps _ p s5 (Rt.still HR.out HA.out) hn H5.out).mono ?_
      rintro e v10 ⟨rfl, rfl⟩
      go_wp2
      go_roundw
      case rel => exact ⟨k + 1, p + 1, by have := HPk.out; omega, by have := HPk.out; omega, by go_num, HA.out⟩
      case measure => simp [intOf]; omega
    · go_wp2
      go_ret
      exact ⟨rfl, HA.out⟩
end
end Go.Proofs.Ytmkcclfjmpmniaa
