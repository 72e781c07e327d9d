/-
  Two lists of tokens: whether they are alike.
-/
import Derived.Test.YtdlhaadnfmpldaaDoorTKP
import Derived.Test.YtdlhaadnfmpldaaDoorR
import Derived.Laws.StructEq
set_option linter.unusedVariables false
namespace Go.Proofs.YtdlhaadnfmpldaaDoor
open Go Go.RowKit

theorem Tks.at {w : World} {base : Nat} {a : Option Addr} {n cap : Nat} {l : List Tok} (h : Tks w base (.slice a n cap) l) {i : Nat} (hi : i < l.length) : ∃ g, a = some ⟨g, 0, none⟩ ∧ ∀ w', Touch [] w w' →
    w'.cell? ⟨g, i * 4, none⟩ = some (.int .i64 (l.getD i tk0).kind) ∧ w'.cell? ⟨g, i * 4 + 1, none⟩ = some (.int .i64 (l.getD i tk0).pos) ∧ w'.cell? ⟨g, i * 4 + 2, none⟩ = some (.int .i64 (l.getD i tk0).num) ∧ w'.cell? ⟨g, i * 4 + 3, none⟩ = some (.string ⟨(l.getD i tk0).text.toArray⟩) := by
  obtain ⟨g, cap', he, _, hg, _, _, hc, _⟩ := Av.at h hi
  cases he
  refine ⟨g, rfl, fun w' ht => ?_⟩
  have hc' : ∀ j, j < 4 → w'.cell? ⟨g, i * 4 + j, none⟩ = some (tkF (l.getD i tk0) j) := fun j hj => by
    rw [World.cell?_of_block (w := w) (a := ⟨g, i * 4 + j, none⟩) (ht.block g hg (by simp))]; exact hc j hj
  exact ⟨hc' 0 (by omega), hc' 1 (by omega), hc' 2 (by omega), hc' 3 (by omega)⟩
theorem Tks.form {w : World} {base : Nat} {v : Value} {l : List Tok} (h : Tks w base v l) : ∃ a c, v = .slice a l.length c := by
  obtain ⟨a, c, h, _⟩ := Av.form h
  exact ⟨a, c, h⟩
def eqT (l m : List Tok) (n : Nat) : Prop := ∀ i, i < n → l.getD i tk0 = m.getD i tk0
theorem eqT_all {l m : List Tok} (hl : l.length = m.length) (h : eqT l m l.length) : l = m := by
  apply List.ext_getElem hl
  intro i h1 h2
  have := h i h1
  rwa [List.getD_eq_getElem?_getD, List.getD_eq_getElem?_getD, List.getElem?_eq_getElem h1, List.getElem?_eq_getElem h2] at this
theorem tok_eq {x y : Tok} (h0 : x.kind = y.kind) (h1 : x.pos = y.pos) (h2 : x.num = y.num) (h3 : x.text = y.text) : x = y := by
  cases x; cases y; simp at h0 h1 h2 h3; simp [h0, h1, h2, h3]
theorem txt_inj {x y : List UInt8} (h : (⟨x.toArray⟩ : ByteArray) = ⟨y.toArray⟩) : x = y := by
  have := congrArg (fun b : ByteArray => b.data.toList) h
  simpa using this
def BoolP (b : Bool) (w : World) (e : Ending) (w' : World) : Prop := e = .returned (.bool b) ∧ Touch [] w w'
set_option maxHeartbeats 32000000 in
set_option maxRecDepth 100000 in
theorem tokens_any (v u : Value) (b1 b2 : Nat) (l m : List Tok) (w : World) (hv : Tks w b1 v l) (hu : Tks w b2 u m) (hl : l.length ≤ 1000000) (hm : m.length ≤ 1000000) : Calls Tryd.prog 9 #[v, u] w (BoolP (decide (l = m)) w) := by
  obtain ⟨va, vc, rfl⟩ := hv.form
  obtain ⟨ua, uc, rfl⟩ := hu.form
  have HV := Lib.hid hv
  have HU := Lib.hid hu
  obtain ⟨n, hn⟩ : ∃ n, l.length = n := ⟨_, rfl⟩
  obtain ⟨n2, hn2⟩ : ∃ n, m.length = n := ⟨_, rfl⟩
  have HN := Lib.hid hn
  have HM := Lib.hid hn2
  rw [hn] at HV hl ⊢
  rw [hn2] at HU hm ⊢
  clear hv hu hn hn2
  by_cases hnm : n = n2
  · subst hnm
    have hne : ((n : Int) != (n : Int)) = false := bneF rfl
    go_enter Tryd.func9, Tryd.ntmps9
    go_wp2
    go_loopw [5] (fun kv wr => ∃ k : Nat, k ≤ n ∧ kv = .int .i64 (k : Int) ∧ Touch [] w wr ∧ eqT l m k) (fun kv _ => n + 1 - (intOf kv).toNat)
    case atStart => exact ⟨0, by omega, rfl, Touch.refl _ _, fun i hi => by omega⟩
    case round =>
      obtain ⟨k, hk, rfl, ht, heq⟩ := hrel
      have HT := Lib.hid ht
      have HE := Lib.hid heq
      clear ht heq
      by_cases hlt : k < n
      · have dlt : decide ((k : Int) < (n : Int)) = true := dT (by omega)
        obtain ⟨g, hga, hc⟩ := HV.out.at (i := k) (by rw [HN.out]; omega)
        obtain ⟨g2, hgb, hd⟩ := HU.out.at (i := k) (by rw [HM.out]; omega)
        subst hga
        subst hgb
        obtain ⟨X, hX⟩ : ∃ x, l.getD k tk0 = x := ⟨_, rfl⟩
        obtain ⟨Y, hY⟩ : ∃ x, m.getD k tk0 = x := ⟨_, rfl⟩
        rw [hX] at hc
        rw [hY] at hd
        have HX := Lib.hid hX
        have HY := Lib.hid hY
        clear hX hY
        obtain ⟨a0, a1, a2, at'⟩ := X
        obtain ⟨b0, b1, b2, bt'⟩ := Y
        dsimp only at hc hd
        obtain ⟨a3, ha3⟩ : ∃ z : ByteArray, ⟨at'.toArray⟩ = z := ⟨_, rfl⟩
        obtain ⟨b3, hb3⟩ : ∃ z : ByteArray, ⟨bt'.toArray⟩ = z := ⟨_, rfl⟩
        rw [ha3] at hc
        rw [hb3] at hd
        have HC := Lib.hid hc
        have HD := Lib.hid hd
        have x0 : ∀ q : Later wr, q.world.cell? ⟨g, k * 4, none⟩ = some (.int .i64 a0) := fun q => (HC.out _ (HT.out.trans q.ok)).1
        have x1 : ∀ q : Later wr, q.world.cell? ⟨g, k * 4 + 1, none⟩ = some (.int .i64 a1) := fun q => (HC.out _ (HT.out.trans q.ok)).2.1
        have x2 : ∀ q : Later wr, q.world.cell? ⟨g, k * 4 + 2, none⟩ = some (.int .i64 a2) := fun q => (HC.out _ (HT.out.trans q.ok)).2.2.1
        have x3 : ∀ q : Later wr, q.world.cell? ⟨g, k * 4 + 3, none⟩ = some (.string a3) := fun q => (HC.out _ (HT.out.trans q.ok)).2.2.2
        have y0 : ∀ q : Later wr, q.world.cell? ⟨g2, k * 4, none⟩ = some (.int .i64 b0) := fun q => (HD.out _ (HT.out.trans q.ok)).1
        have y1 : ∀ q : Later wr, q.world.cell? ⟨g2, k * 4 + 1, none⟩ = some (.int .i64 b1) := fun q => (HD.out _ (HT.out.trans q.ok)).2.1
        have y2 : ∀ q : Later wr, q.world.cell? ⟨g2, k * 4 + 2, none⟩ = some (.int .i64 b2) := fun q => (HD.out _ (HT.out.trans q.ok)).2.2.1
        have y3 : ∀ q : Later wr, q.world.cell? ⟨g2, k * 4 + 3, none⟩ = some (.string b3) := fun q => (HD.out _ (HT.out.trans q.ok)).2.2.2
        clear hc hd
        by_cases heq : a0 = b0 ∧ a1 = b1 ∧ a2 = b2 ∧ a3 = b3
        · obtain ⟨e0, e1, e2, e3⟩ := heq
          have HES : Hid (eqT l m (k + 1)) := Lib.hid (fun i hi => by
            rcases Nat.lt_or_ge i k with h | h
            · exact HE.out i h
            · obtain rfl : i = k := by omega
              rw [HX.out, HY.out]
              exact tok_eq e0 e1 e2 (txt_inj (by rw [ha3, hb3, e3])))
          clear ha3 hb3 HX HY
          subst e0; subst e1; subst e2; subst e3
          go_wp2_with fail
          refine wp_region_later (by kernel_rfl) (by kernel_rfl) ?_
          repeat (first
            | (go_big_quiet_step ((with_reducible rfl)))
            | (quiet_step (fail)))
          refine wpQuiet_nil ?_
          intro wq hw'
          obtain ⟨⟨wq', hwq⟩, hwe⟩ := hw'
          have hwe : wq = wq' := hwe
          subst hwe
          have HTn := Lib.hid (HT.out.trans hwq)
          clear hwe hwq x0 x1 x2 x3 y0 y1 y2 y3
          go_wp2
          go_roundw
          case rel => exact ⟨k + 1, by omega, by go_num, HTn.out, HES.out⟩
          case measure => simp [intOf] <;> omega
        · have HQ : Hid (decide (l = m) = false) := Lib.hid (decide_eq_false (fun h => heq (by
            have e : (⟨a0, a1, a2, at'⟩ : Tok) = ⟨b0, b1, b2, bt'⟩ := by rw [← HX.out, ← HY.out, h]
            simp at e
            exact ⟨e.1, e.2.1, e.2.2.1, by rw [← ha3, ← hb3, e.2.2.2]⟩)))
          clear ha3 hb3 HX HY
          rcases (by
            by_cases e0 : a0 = b0
            · by_cases e1 : a1 = b1
              · by_cases e2 : a2 = b2
                · exact .inr (.inr (.inr ⟨e0, e1, e2, strF (fun e3 => heq ⟨e0, e1, e2, e3⟩)⟩))
                · exact .inr (.inr (.inl ⟨e0, e1, beqF e2⟩))
              · exact .inr (.inl ⟨e0, beqF e1⟩)
            · exact .inl (beqF e0) : (a0 == b0) = false ∨ (a0 = b0 ∧ (a1 == b1) = false) ∨ (a0 = b0 ∧ a1 = b1 ∧ (a2 == b2) = false) ∨ (a0 = b0 ∧ a1 = b1 ∧ a2 = b2 ∧ (a3.toList == b3.toList) = false)) with h0 | ⟨rfl, h1⟩ | ⟨rfl, rfl, h2⟩ | ⟨rfl, rfl, rfl, h3⟩
          all_goals
            clear heq
            go_wp2_with fail
            refine wp_region_later (by kernel_rfl) (by kernel_rfl) ?_
            repeat (first
              | (go_big_quiet_step ((with_reducible rfl)))
              | (quiet_step (fail)))
            refine wpQuiet_nil ?_
            intro wq hw'
            obtain ⟨⟨wq', hwq⟩, hwe⟩ := hw'
            have hwe : wq = wq' := hwe
            subst hwe
            have HTn := Lib.hid (HT.out.trans hwq)
            clear hwe hwq x0 x1 x2 x3 y0 y1 y2 y3
            go_wp2
            go_ret
            exact ⟨by rw [HQ.out]; rfl, HTn.out⟩
      · obtain rfl : k = n := by omega
        have dlt : decide ((k : Int) < (k : Int)) = false := dF (by omega)
        have HQ : Hid (decide (l = m) = true) := Lib.hid (decide_eq_true (eqT_all (by rw [HN.out, HM.out]) (by rw [HN.out]; exact HE.out)))
        go_wp2
        go_ret
        exact ⟨by rw [HQ.out]; rfl, HT.out⟩
  · have HQ : Hid (decide (l = m) = false) := Lib.hid (decide_eq_false (fun h => hnm (by rw [← HN.out, ← HM.out, h])))
    have hne : ((n : Int) != (n2 : Int)) = true := bneT (by omega)
    clear hnm
    go_enter Tryd.func9, Tryd.ntmps9
    go_wp2
    go_ret
    exact ⟨by rw [HQ.out]; rfl, Touch.refl _ _⟩
end Go.Proofs.YtdlhaadnfmpldaaDoor
