/-
  Jobs as texts: the numbers of a line.
-/
import Derived.Test.YtnhbnggkaomfcaaDoorSG
import Derived.Test.YtnhbnggkaomfcaaDoorR
set_option linter.unusedVariables false
namespace Go.Proofs.YtnhbnggkaomfcaaDoor
open Go Go.RowKit

theorem app_int (w : World) (base : Nat) (v : Value) (xs : List Int) (x : Int) (h : Qu w base 3 v (xs.map (Value.int .i64))) (hb : base ≤ w.heap.size) (hn : xs.length ≤ 100000) :
    ∃ v' w', (∀ ty, (Builtin.append_ #[24, 24] ty #[v, .slice (some ⟨w.heap.size, 0, none⟩) 1 1]).run Tryd.prog (w.alloc (.cells #[.int .i64 x] 3)) = .ok v' w') ∧ Qu w' base 3 v' ((xs ++ [x]).map (Value.int .i64)) ∧ Touch v.ownBlock.toList w w' := by
  have ta : Touch [] w (w.alloc (.cells #[.int .i64 x] 3)) := (Touch.refl _ _).alloc _
  have hsz := ta.size
  obtain ⟨v', w2, r1, A2, g2, o2⟩ := Qu.appendI (Qu.alloc h (.cells #[.int .i64 x] 3)) (by omega) (show Sl (w.alloc (.cells #[.int .i64 x] 3)) (.slice (some ⟨w.heap.size, 0, none⟩) 1 1) [x] from ⟨_, 1, rfl, .inr ⟨w.heap.size, 0, rfl, by simp, row1 _ _ _ _ rfl⟩⟩) (by simp; omega)
  exact ⟨v', w2, r1, A2, ((Touch.refl v.ownBlock.toList w).alloc _).grown g2 (fun k hk _ => by simp [hk])⟩
/-- What is read of a line: its numbers in new memory, or none. -/
def NumsP (r : Option (List Int)) (w : World) (e : Ending) (w' : World) : Prop :=
  Touch [] w w' ∧ ((∃ v l, r = some l ∧ e = .returned (.tuple #[v, .bool true]) ∧ Qu w' w.heap.size 3 v (l.map (Value.int .i64))) ∨ (r = none ∧ e = .returned (.tuple #[.slice none 0 0, .bool false])))
theorem slnil (w : World) : Sl w (.slice none 0 0) [] := ⟨none, 0, rfl, .inl rfl⟩
def strLen : Value → Nat
  | .string s => s.size
  | _ => 0
theorem pre_of {s p : List UInt8} (h : Lib.hasPrefix s p = true) : s = p ++ Lib.trimPrefix s p := by
  unfold Lib.trimPrefix
  rw [if_pos h]
  have := List.isPrefixOf_iff_prefix.1 h
  obtain ⟨t, rfl⟩ := this
  simp
theorem pre_not {s p : List UInt8} (h : Lib.hasPrefix s p = false) : ¬ ∃ r, s = p ++ r := fun ⟨r, e⟩ => by
  subst e
  have : Lib.hasPrefix (p ++ r) p = true := List.isPrefixOf_iff_prefix.2 ⟨r, rfl⟩
  rw [h] at this; cases this
theorem ex_tail (c : UInt8) (q : List UInt8) : (mk (c :: q)).extract 1 (mk (c :: q)).size = mk q := bytes_eq (by rw [mk_size, mk_list]; simp [mk])
theorem ex_front (a r : List UInt8) : (mk (a ++ r)).extract 0 a.length = mk a := bytes_eq (by rw [mk_list]; simp [mk])
theorem ex_back (a r : List UInt8) : (mk (a ++ r)).extract a.length (mk (a ++ r)).size = mk r := bytes_eq (by rw [mk_size, mk_list]; simp [mk])
set_option maxHeartbeats 16000000 in
set_option maxRecDepth 100000 in
theorem numbers_any (text word : ByteArray) (w : World) (hv : Vs w) (ht : text.size ≤ 100000) (hw : word.size ≤ 1000) (hb : (32 : UInt8) ∉ word.data.toList) :
    Calls Tryd.prog 26 #[.string text, .string word] w (NumsP (lineN word.data.toList text.data.toList) w) := by
  have HV := Lib.hid hv
  obtain ⟨R, hR⟩ : ∃ R, lineN word.data.toList text.data.toList = R := ⟨_, rfl⟩
  have HR := Lib.hid hR
  rw [hR]
  obtain ⟨r, hr⟩ : ∃ r, Lib.trimPrefix text.data.toList word.data.toList = r := ⟨_, rfl⟩
  have htl : text.data.toList.length = text.size := by simp
  cases hp : Lib.hasPrefix text.data.toList word.data.toList with
  | false =>
    have HN : Hid (R = none) := Lib.hid (by rw [← hR]; exact lineN_not (fun ⟨r, e, _⟩ => pre_not hp ⟨r, e⟩))
    have HC : Hid (Calls Tryd.prog 33 #[.string text, .string word] w fun e w' => e = .returned (.tuple #[.string (mk r), .bool false]) ∧ w' = w) := Lib.hid (by have := Tryd.strings_CutPrefix text word w; rw [hp, hr] at this; exact this)
    clear hp hr hb hR hv htl
    go_enter Tryd.func26, Tryd.ntmps26
    go_wp2_with fail
    refine HC.out.mono ?_
    rintro e w' ⟨rfl, rfl⟩
    go_wp2_with fail
    go_ret2
    exact ⟨Touch.refl _ _, .inr ⟨HN.out, rfl⟩⟩
  | true =>
    have hs := pre_of hp
    rw [hr] at hs
    have HC : Hid (Calls Tryd.prog 33 #[.string text, .string word] w fun e w' => e = .returned (.tuple #[.string (mk r), .bool true]) ∧ w' = w) := Lib.hid (by have := Tryd.strings_CutPrefix text word w; rw [hp, hr] at this; exact this)
    have hrl : r.length ≤ text.size := by have := congrArg List.length hs; rw [List.length_append] at this; omega
    clear hp hr
    by_cases hbad : ∃ c q, r = c :: q ∧ c ≠ 32
    · obtain ⟨c, q, rfl, hc⟩ := hbad
      have HN : Hid (R = none) := Lib.hid (by
        rw [← hR]
        refine lineN_not (fun ⟨r', e, h⟩ => ?_)
        have : r' = c :: q := List.append_cancel_left (e.symm.trans hs)
        subst this
        rcases h with h | ⟨q', h⟩
        · cases h
        · cases h; exact hc rfl)
      obtain ⟨S, hS⟩ : ∃ S, mk (c :: q) = S := ⟨_, rfl⟩
      have hsz : 0 < S.size := by rw [← hS, mk_size]; simp
      have hget : S[0]'hsz = c := by subst hS; rfl
      have hb0 : ((c.toNat : Int) == 32) = false := u8F (n := 32) (by omega) rfl (by simpa using hc)
      have hem := emF (s := S) (by intro e; rw [e] at hsz; simp at hsz)
      have hnl := nlF (s := S) (by intro e; rw [e] at hsz; simp at hsz)
      rw [hS] at HC
      clear hs hb hR hv hS hc htl hrl
      go_enter Tryd.func26, Tryd.ntmps26
      go_wp2_with fail
      refine HC.out.mono ?_
      rintro e w' ⟨rfl, rfl⟩
      go_wp2_with fail
      all_goals go_ret2
      all_goals exact ⟨Touch.refl _ _, .inr ⟨HN.out, rfl⟩⟩
    have hgood : r = [] ∨ ∃ q, r = 32 :: q := by
      cases r with
      | nil => exact .inl rfl
      | cons c q =>
        right
        refine ⟨q, ?_⟩
        by_cases hc : c = 32
        · rw [hc]
        · exact absurd ⟨c, q, rfl, hc⟩ hbad
    have HAT : Hid (NumAt R r []) := Lib.hid (by rw [← hR, hs]; exact numAt_start hb hgood)
    clear hbad hs hb hR hv htl
    rcases hgood with rfl | ⟨q0, rfl⟩
    case' inl =>
      have e0 : mk [] = ⟨#[]⟩ := rfl
      rw [e0] at HC
      have HS0 : Hid (⟨#[]⟩ = mk []) := Lib.hid rfl
      clear e0
      go_enter Tryd.func26, Tryd.ntmps26
      go_wp2_with fail
      refine HC.out.mono ?_
      rintro e w' ⟨rfl, rfl⟩
      go_wp2_with fail
    case' inr =>
      obtain ⟨S, hS⟩ : ∃ S, mk (32 :: q0) = S := ⟨_, rfl⟩
      have hsz : 0 < S.size := by rw [← hS, mk_size]; simp
      have hget : S[0]'hsz = 32 := by subst hS; rfl
      have hem := emF (s := S) (by intro e; rw [e] at hsz; simp at hsz)
      have hnl := nlF (s := S) (by intro e; rw [e] at hsz; simp at hsz)
      have HS0 : Hid (S = mk (32 :: q0)) := Lib.hid hS.symm
      rw [hS] at HC
      clear hS
      go_enter Tryd.func26, Tryd.ntmps26
      go_wp2_with fail
      refine HC.out.mono ?_
      rintro e w' ⟨rfl, rfl⟩
      go_wp2_with fail
      clear hsz hget hem hnl
    all_goals
      go_loopw [6, 8] (fun rv lv wr => ∃ (rest : List UInt8) (l : List Int), rv = .string (mk rest) ∧ NumAt R rest l ∧ l.length + rest.length ≤ text.size ∧ Qu wr w'.heap.size 3 lv (l.map (Value.int .i64)) ∧ Touch [] w' wr) (fun rv _ _ => strLen rv)
      case atStart => exact ⟨_, [], by rw [HS0.out], HAT.out, (Nat.le_trans (Nat.le_of_eq (Nat.zero_add _)) hrl), Qu.nil _ _ _, Touch.refl _ _⟩
      case round =>
        obtain ⟨rest, l, rfl, hat, hle, hq, ht2⟩ := hrel
        have HA := Lib.hid hat
        have HQ := Lib.hid hq
        have HT := Lib.hid ht2
        obtain ⟨la, lc, hform, _⟩ := Qu.shape hq
        rw [List.length_map] at hform
        subst hform
        rcases hat.1 with rfl | ⟨q, rfl⟩
        · clear hq ht2 hat
          have e0 : mk [] = ⟨#[]⟩ := rfl
          rw [e0]
          clear e0
          go_wp2_with fail
          go_ret2
          exact ⟨HT.out, .inl ⟨_, l, numAt_end HA.out, rfl, HQ.out⟩⟩
        · clear hq ht2 hat
          obtain ⟨S, hS⟩ : ∃ S, mk (32 :: q) = S := ⟨_, rfl⟩
          have hsz : 1 ≤ S.size := by rw [← hS, mk_size]; simp
          have HSZ : Hid (S.size = q.length + 1) := Lib.hid (by rw [← hS, mk_size]; simp)
          have hem := emF (s := S) (by intro e; rw [e] at hsz; simp at hsz)
          have hnl := nlF (s := S) (by intro e; rw [e] at hsz; simp at hsz)
          have HLE := Lib.hid hle
          clear hle
          rcases ixb q 32 with ⟨h1, h2⟩ | ⟨a, r', rfl, h2, h3⟩
          · have HX : Hid (S.extract 1 S.size = mk q) := Lib.hid (by rw [← hS]; exact ex_tail 32 q)
            have HIX : Hid (Lib.indexByte (mk q).data.toList (Int.toNat 32).toUInt8 = -1) := Lib.hid (by rw [mk_list]; exact h1)
            have HNM := Lib.hid (numAt_last h2 HA.out)
            rw [hS]
            clear hS h1 h2
            go_wp2_with fail
            rw [HX.out]
            refine (Tryd.strings_IndexByte (mk q) 32 _).mono ?_
            rintro e w2 ⟨rfl, rfl⟩
            rw [HIX.out]
            go_wp2_with fail
            have hpl : (mk q).size ≤ 1000000 := by have h1 := HLE.out; rw [mk_size]; simp at h1 ⊢; omega
            cases hnp : numL (q) with
            | none =>
              have HN : Hid (R = none) := Lib.hid (HNM.out.1 hnp)
              by_cases hok : ∃ x, Lib.atoiAll (q) = .ok x
              · obtain ⟨x, hx⟩ := hok
                have HXI : Hid (InI x) := Lib.hid (Lib.atoiAll_bounds hx)
                have hne : ¬ mk (Lib.itoa x) = mk (q) := fun e => by
                  have e2 := congrArg (fun s : ByteArray => s.data.toList) e
                  simp only [mk_list] at e2
                  have := numL_of_ok hx
                  rw [if_pos e2, hnp] at this
                  cases this
                refine (atoi_ok (mk (q)) hpl x (by rw [mk_list]; exact hx) _).mono ?_
                rintro e w3 ⟨rfl, ht3⟩
                have HT3 := Lib.hid (HT.out.trans ht3)
                clear hx hnp ht3
                obtain ⟨A, hA⟩ : ∃ A, mk (Lib.itoa x) = A := ⟨_, rfl⟩
                obtain ⟨PB, hPB⟩ : ∃ P, mk (q) = P := ⟨_, rfl⟩
                have HA2 := Lib.hid hA
                rw [hA, hPB] at hne
                rw [hPB]
                have hnt := notT hne
                clear hA hPB hne
                go_wp2_with fail
                refine (itoa_any x HXI.out w3 (HV.out.touch HT3.out)).mono ?_
                rintro e w4 ⟨rfl, ht4⟩
                rw [HA2.out]
                have HT4 := Lib.hid (HT3.out.trans ht4)
                clear ht4
                go_wp2_with fail
                go_ret2
                exact ⟨HT4.out, .inr ⟨HN.out, rfl⟩⟩
              · refine (atoi_bad (mk (q)) hpl (by rw [mk_list]; exact fun x hx => hok ⟨x, hx⟩) _ (HV.out.touch HT.out)).mono ?_
                rintro e w3 ⟨v3, N3, t3, rfl, ht3⟩
                have HT3 := Lib.hid (HT.out.trans ht3)
                clear hok hnp ht3
                go_wp2_with fail
                go_ret2
                exact ⟨HT3.out, .inr ⟨HN.out, rfl⟩⟩
            | some x =>
              have HXI : Hid (InI x) := Lib.hid (numL_some hnp).1
              have HXE : Hid (mk (Lib.itoa x) = mk (q)) := Lib.hid (by rw [(numL_some hnp).2])
              have HAN : Hid (NumAt R ([]) (l ++ [x])) := Lib.hid (HNM.out.2 x hnp)
              refine (atoi_ok (mk (q)) hpl x (by rw [mk_list]; exact numL_ok hnp) _).mono ?_
              rintro e w3 ⟨rfl, ht3⟩
              have HT3 := Lib.hid (HT.out.trans ht3)
              have HQ3 := Lib.hid (Qu.touch HQ.out ht3 (fun _ _ => by simp))
              clear hnp ht3
              obtain ⟨PB, hPB⟩ : ∃ P, mk (q) = P := ⟨_, rfl⟩
              rw [hPB]
              rw [hPB] at HXE
              have hnf : (!PB.toList == PB.toList) = false := notF rfl
              clear hPB
              go_wp2_with fail
              refine (itoa_any x HXI.out w3 (HV.out.touch HT3.out)).mono ?_
              rintro e w4 ⟨rfl, ht4⟩
              rw [HXE.out]
              have HT4 := Lib.hid (HT3.out.trans ht4)
              obtain ⟨v5, w5, hr5, hA5, ht5⟩ := app_int w4 w'.heap.size _ l x (Qu.touch HQ3.out ht4 (fun _ _ => by simp)) HT4.out.size (by have h1 := HLE.out; omega)
              have HA5 := Lib.hid hA5
              have HT5 : Hid (Touch [] w' w5) := Lib.hid (HT4.out.transF ht5 (fun k hk hlt => by have := (Qu.own HQ3.out k (by simpa using hk)).1; omega))
              clear ht4 hA5 ht5
              go_wp2_with (at_builtin; refine Lib.wpList_append_run _ rfl _ _ _ _ rfl _ _ rfl rfl _ _ (hr5 _) ?_; clear hr5)
              go_roundw
              case rel => exact ⟨[], l ++ [x], rfl, HAN.out, by have h1 := HLE.out; simp at h1 ⊢; omega, HA5.out, HT5.out⟩
              case measure => show (0 : Nat) < S.size; omega
          · have HX : Hid (S.extract 1 S.size = mk (a ++ 32 :: r')) := Lib.hid (by rw [← hS]; exact ex_tail 32 _)
            have HIX : Hid (Lib.indexByte (mk (a ++ 32 :: r')).data.toList (Int.toNat 32).toUInt8 = (a.length : Int)) := Lib.hid (by rw [mk_list]; exact h3)
            have HNM := Lib.hid (numAt_mid h2 HA.out)
            obtain ⟨P, hP⟩ : ∃ P, mk (a ++ 32 :: r') = P := ⟨_, rfl⟩
            have HXA : Hid (P.extract 0 a.length = mk a) := Lib.hid (by rw [← hP]; exact ex_front _ _)
            have HXB : Hid (P.extract a.length P.size = mk (32 :: r')) := Lib.hid (by rw [← hP]; exact ex_back _ _)
            have hps : a.length ≤ P.size := by rw [← hP, mk_size]; simp
            have hps2 : (a.length : Int) ≤ (P.size : Int) := by omega
            have hps0 : (0 : Int) ≤ (a.length : Int) := by omega
            have HPS : Hid (P.size = a.length + 1 + r'.length) := Lib.hid (by rw [← hP, mk_size]; simp; omega)
            rw [hP] at HX HIX
            obtain ⟨k, hk⟩ : ∃ k, a.length = k := ⟨_, rfl⟩
            have HK := Lib.hid hk
            rw [hk] at HIX HXA HXB hps hps2 hps0 HPS
            rw [hS]
            clear hS h2 h3 hP hk
            go_wp2_with fail
            rw [HX.out]
            refine (Tryd.strings_IndexByte P 32 _).mono ?_
            rintro e w2 ⟨rfl, rfl⟩
            rw [HIX.out]
            go_wp2_with fail
            refine wp_region_later (by kernel_rfl) (by kernel_rfl) ?_
            repeat (first
              | (go_big_quiet_step ((with_reducible rfl)))
              | (quiet_step (fail)))
            refine wpQuiet_nil ?_
            intro wq hw'
            obtain ⟨⟨wq', hwq⟩, hwe⟩ := hw'
            have hwe : wq = wq' := hwe
            subst hwe
            replace HQ := Lib.hid (Qu.touch HQ.out hwq (fun _ _ => by simp))
            replace HT := Lib.hid (HT.out.trans hwq)
            clear hwe hwq
            go_wp2_with fail
            rw [HXA.out]
            have hpl : (mk a).size ≤ 1000000 := by have h1 := HLE.out; rw [mk_size]; simp at h1 ⊢; omega
            cases hnp : numL (a) with
            | none =>
              have HN : Hid (R = none) := Lib.hid (HNM.out.1 hnp)
              by_cases hok : ∃ x, Lib.atoiAll (a) = .ok x
              · obtain ⟨x, hx⟩ := hok
                have HXI : Hid (InI x) := Lib.hid (Lib.atoiAll_bounds hx)
                have hne : ¬ mk (Lib.itoa x) = mk (a) := fun e => by
                  have e2 := congrArg (fun s : ByteArray => s.data.toList) e
                  simp only [mk_list] at e2
                  have := numL_of_ok hx
                  rw [if_pos e2, hnp] at this
                  cases this
                refine (atoi_ok (mk (a)) hpl x (by rw [mk_list]; exact hx) _).mono ?_
                rintro e w3 ⟨rfl, ht3⟩
                have HT3 := Lib.hid (HT.out.trans ht3)
                clear hx hnp ht3
                obtain ⟨A, hA⟩ : ∃ A, mk (Lib.itoa x) = A := ⟨_, rfl⟩
                obtain ⟨PB, hPB⟩ : ∃ P, mk (a) = P := ⟨_, rfl⟩
                have HA2 := Lib.hid hA
                rw [hA, hPB] at hne
                rw [hPB]
                have hnt := notT hne
                clear hA hPB hne
                go_wp2_with fail
                refine (itoa_any x HXI.out w3 (HV.out.touch HT3.out)).mono ?_
                rintro e w4 ⟨rfl, ht4⟩
                rw [HA2.out]
                have HT4 := Lib.hid (HT3.out.trans ht4)
                clear ht4
                go_wp2_with fail
                go_ret2
                exact ⟨HT4.out, .inr ⟨HN.out, rfl⟩⟩
              · refine (atoi_bad (mk (a)) hpl (by rw [mk_list]; exact fun x hx => hok ⟨x, hx⟩) _ (HV.out.touch HT.out)).mono ?_
                rintro e w3 ⟨v3, N3, t3, rfl, ht3⟩
                have HT3 := Lib.hid (HT.out.trans ht3)
                clear hok hnp ht3
                go_wp2_with fail
                go_ret2
                exact ⟨HT3.out, .inr ⟨HN.out, rfl⟩⟩
            | some x =>
              have HXI : Hid (InI x) := Lib.hid (numL_some hnp).1
              have HXE : Hid (mk (Lib.itoa x) = mk (a)) := Lib.hid (by rw [(numL_some hnp).2])
              have HAN : Hid (NumAt R (32 :: r') (l ++ [x])) := Lib.hid (HNM.out.2 x hnp)
              refine (atoi_ok (mk (a)) hpl x (by rw [mk_list]; exact numL_ok hnp) _).mono ?_
              rintro e w3 ⟨rfl, ht3⟩
              have HT3 := Lib.hid (HT.out.trans ht3)
              have HQ3 := Lib.hid (Qu.touch HQ.out ht3 (fun _ _ => by simp))
              clear hnp ht3
              obtain ⟨PB, hPB⟩ : ∃ P, mk (a) = P := ⟨_, rfl⟩
              rw [hPB]
              rw [hPB] at HXE
              have hnf : (!PB.toList == PB.toList) = false := notF rfl
              clear hPB
              go_wp2_with fail
              refine (itoa_any x HXI.out w3 (HV.out.touch HT3.out)).mono ?_
              rintro e w4 ⟨rfl, ht4⟩
              rw [HXE.out]
              have HT4 := Lib.hid (HT3.out.trans ht4)
              obtain ⟨v5, w5, hr5, hA5, ht5⟩ := app_int w4 w'.heap.size _ l x (Qu.touch HQ3.out ht4 (fun _ _ => by simp)) HT4.out.size (by have h1 := HLE.out; omega)
              have HA5 := Lib.hid hA5
              have HT5 : Hid (Touch [] w' w5) := Lib.hid (HT4.out.transF ht5 (fun k hk hlt => by have := (Qu.own HQ3.out k (by simpa using hk)).1; omega))
              clear ht4 hA5 ht5
              go_wp2_with (at_builtin; refine Lib.wpList_append_run _ rfl _ _ _ _ rfl _ _ rfl rfl _ _ (hr5 _) ?_; clear hr5)
              go_roundw
              case rel => exact ⟨32 :: r', l ++ [x], by rw [HXB.out], HAN.out, by have h1 := HLE.out; simp at h1 ⊢; omega, HA5.out, HT5.out⟩
              case measure => have h5 := HSZ.out; simp [strLen, HXB.out, mk_size]; simp at h5; omega
end Go.Proofs.YtnhbnggkaomfcaaDoor
