/-
  Critical regions: step by step as the reference's.
-/
import Derived.Test.YtbbjnojipfnkoaaF
import Derived.Test.YtbbjnojipfnkoaaO
import Derived.Deep.RegionHeld3
import Derived.Deep.Cut
import Derived.Deep.CutBlock
set_option linter.unusedVariables false
namespace Go.Proofs.Ytbbjnojipfnkoaa
open Go.RowKit

/-- Who is in it, who wants to enter, who waits. -/
structure St where
  occ : Int
  es : List Int
  ws : List Int
def enterS (s : St) (p : Int) : St := if 1 ≤ p then (if s.occ = 0 then ⟨p, s.es, s.ws⟩ else ⟨s.occ, s.es ++ [p], s.ws⟩) else s
def enterB (s : St) (p : Int) : Bool := decide (1 ≤ p ∧ s.occ = 0)
def inB (s : St) (p : Int) : Bool := decide (0 < p ∧ s.occ = p)
def failS (s : St) (p : Int) : St := if 0 < p ∧ s.occ = p then ⟨hd s.es, s.es.tail, s.ws ++ [p]⟩ else s
def failX (s : St) (p : Int) : Int := if 0 < p ∧ s.occ = p then hd s.es else 0
def leaveS (s : St) (p : Int) : St := if 0 < p ∧ s.occ = p then ⟨hd (s.ws ++ s.es), (s.ws ++ s.es).tail, []⟩ else s
def leaveX (s : St) (p : Int) : Int := if 0 < p ∧ s.occ = p then hd (s.ws ++ s.es) else 0
def many (s : St) : Nat := s.es.length + s.ws.length
theorem enter_many (s : St) (p : Int) : many (enterS s p) ≤ many s + 1 := by
  unfold many enterS; split
  · split
    · simp
    · simp; omega
  · omega
theorem fail_many (s : St) (p : Int) : many (failS s p) ≤ many s + 1 := by
  unfold many failS; split
  · simp; omega
  · omega
theorem leave_many (s : St) (p : Int) : many (leaveS s p) ≤ many s + 1 := by
  unfold many leaveS; split
  · simp; omega
  · omega
/-- The region's state, in memory. -/
def Rs (T : TypeId) (w : World) (b : Nat) (F : List Nat) (s : St) : Prop := Rg T w b F s.occ s.es s.ws
def RsP (T : TypeId) (b : Nat) (F : List Nat) (s : St) (r : Value) (w : World) (e : Ending) (w' : World) : Prop := RgP T b F s.occ s.es s.ws r w e w'
theorem RsP.same {T : TypeId} {b : Nat} {F : List Nat} {s : St} {r : Value} {w : World} {e : Ending} {w' : World} (h : Rs T w b F s) (he : e = .returned r ∧ w = w') : RsP T b F s r w e w' := by
  obtain ⟨rfl, rfl⟩ := he
  exact ⟨F, rfl, h, Fr.same (Touch.refl _ _) h.lt⟩

theorem enter_s (b : Nat) (F : List Nat) (s : St) (w : World) (p : Int) (h : Rs 46 w b F s) (hl : many s ≤ 1000) :
    Calls Try.prog 9 #[.pointer (some ⟨b, 0, none⟩), .int .i64 p] w (RsP 46 b F (enterS s p) (.bool (enterB s p)) w) := by
  unfold many at hl
  by_cases h1 : 1 ≤ p
  · by_cases h2 : s.occ = 0
    · rw [show enterS s p = ⟨p, s.es, s.ws⟩ from by unfold enterS; rw [if_pos h1, if_pos h2], show enterB s p = true from dT ⟨h1, h2⟩]
      exact enter_free b F s.es s.ws w p h1 (by have := h; unfold Rs at this; rw [h2] at this; exact this)
    · rw [show enterS s p = ⟨s.occ, s.es ++ [p], s.ws⟩ from by unfold enterS; rw [if_pos h1, if_neg h2], show enterB s p = false from dF (fun h => h2 h.2)]
      exact enter_full b F s.occ s.es s.ws w p h1 h2 h (by omega)
  · rw [show enterS s p = s from by unfold enterS; rw [if_neg h1], show enterB s p = false from dF (fun h => h1 h.1)]
    exact (enter_low b w p (by omega)).mono fun e w' he => RsP.same h he
theorem fail_s (b : Nat) (F : List Nat) (s : St) (w : World) (p : Int) (h : Rs 46 w b F s) (hl : many s ≤ 1000) :
    Calls Try.prog 11 #[.pointer (some ⟨b, 0, none⟩), .int .i64 p] w (RsP 46 b F (failS s p) (.tuple #[.int .i64 (failX s p), .bool (inB s p)]) w) := by
  unfold many at hl
  by_cases h1 : 0 < p ∧ s.occ = p
  · rw [show failS s p = ⟨hd s.es, s.es.tail, s.ws ++ [p]⟩ from if_pos h1, show failX s p = hd s.es from if_pos h1, show inB s p = true from dT h1]
    obtain ⟨h2, rfl⟩ := h1
    exact fail_yes b F s.occ s.es s.ws w h h2 (by omega) (by omega)
  · rw [show failS s p = s from if_neg h1, show failX s p = 0 from if_neg h1, show inB s p = false from dF h1]
    exact (fail_no b F s.occ s.es s.ws w p h h1).mono fun e w' he => RsP.same h he
theorem leave_s (b : Nat) (F : List Nat) (s : St) (w : World) (p : Int) (h : Rs 46 w b F s) (hl : many s ≤ 1000) :
    Calls Try.prog 13 #[.pointer (some ⟨b, 0, none⟩), .int .i64 p] w (RsP 46 b F (leaveS s p) (.tuple #[.int .i64 (leaveX s p), .bool (inB s p)]) w) := by
  unfold many at hl
  by_cases h1 : 0 < p ∧ s.occ = p
  · rw [show leaveS s p = ⟨hd (s.ws ++ s.es), (s.ws ++ s.es).tail, []⟩ from if_pos h1, show leaveX s p = hd (s.ws ++ s.es) from if_pos h1, show inB s p = true from dT h1]
    obtain ⟨h2, rfl⟩ := h1
    exact leave_yes b F s.occ s.es s.ws w h h2 (by omega) (by omega)
  · rw [show leaveS s p = s from if_neg h1, show leaveX s p = 0 from if_neg h1, show inB s p = false from dF h1]
    exact (leave_no b F s.occ s.es s.ws w p h h1).mono fun e w' he => RsP.same h he

theorem renter_s (b : Nat) (F : List Nat) (s : St) (w : World) (p : Int) (h : Rs 29 w b F s) (hl : many s ≤ 1000) :
    Calls Try.prog 10 #[.pointer (some ⟨b, 0, none⟩), .int .i64 p] w (RsP 29 b F (enterS s p) (.bool (enterB s p)) w) := by
  unfold many at hl
  by_cases h1 : 1 ≤ p
  · by_cases h2 : s.occ = 0
    · rw [show enterS s p = ⟨p, s.es, s.ws⟩ from by unfold enterS; rw [if_pos h1, if_pos h2], show enterB s p = true from dT ⟨h1, h2⟩]
      exact renter_free b F s.es s.ws w p h1 (by have := h; unfold Rs at this; rw [h2] at this; exact this)
    · rw [show enterS s p = ⟨s.occ, s.es ++ [p], s.ws⟩ from by unfold enterS; rw [if_pos h1, if_neg h2], show enterB s p = false from dF (fun h => h2 h.2)]
      exact renter_full b F s.occ s.es s.ws w p h1 h2 h (by omega)
  · rw [show enterS s p = s from by unfold enterS; rw [if_neg h1], show enterB s p = false from dF (fun h => h1 h.1)]
    exact (renter_low b w p (by omega)).mono fun e w' he => RsP.same h he
theorem rfail_s (b : Nat) (F : List Nat) (s : St) (w : World) (p : Int) (h : Rs 29 w b F s) (hl : many s ≤ 1000) :
    Calls Try.prog 12 #[.pointer (some ⟨b, 0, none⟩), .int .i64 p] w (RsP 29 b F (failS s p) (.tuple #[.int .i64 (failX s p), .bool (inB s p)]) w) := by
  unfold many at hl
  by_cases h1 : 0 < p ∧ s.occ = p
  · rw [show failS s p = ⟨hd s.es, s.es.tail, s.ws ++ [p]⟩ from if_pos h1, show failX s p = hd s.es from if_pos h1, show inB s p = true from dT h1]
    obtain ⟨h2, rfl⟩ := h1
    exact rfail_yes b F s.occ s.es s.ws w h h2 (by omega) (by omega)
  · rw [show failS s p = s from if_neg h1, show failX s p = 0 from if_neg h1, show inB s p = false from dF h1]
    exact (rfail_no b F s.occ s.es s.ws w p h h1).mono fun e w' he => RsP.same h he
theorem rleave_s (b : Nat) (F : List Nat) (s : St) (w : World) (p : Int) (h : Rs 29 w b F s) (hl : many s ≤ 1000) :
    Calls Try.prog 14 #[.pointer (some ⟨b, 0, none⟩), .int .i64 p] w (RsP 29 b F (leaveS s p) (.tuple #[.int .i64 (leaveX s p), .bool (inB s p)]) w) := by
  unfold many at hl
  by_cases h1 : 0 < p ∧ s.occ = p
  · rw [show leaveS s p = ⟨hd (s.ws ++ s.es), (s.ws ++ s.es).tail, []⟩ from if_pos h1, show leaveX s p = hd (s.ws ++ s.es) from if_pos h1, show inB s p = true from dT h1]
    obtain ⟨h2, rfl⟩ := h1
    exact rleave_yes b F s.occ s.es s.ws w h h2 (by omega) (by omega)
  · rw [show leaveS s p = s from if_neg h1, show leaveX s p = 0 from if_neg h1, show inB s p = false from dF h1]
    exact (rleave_no b F s.occ s.es s.ws w p h h1).mono fun e w' he => RsP.same h he

/-- Both of them, in one world. -/
def TwoR (w0 w : World) (b b' : Nat) (s : St) : Prop := ∃ F G, Rs 46 w b F s ∧ Rs 29 w b' G s ∧ Apt w0 F G w
theorem TwoR.touch {w0 w w' : World} {b b' : Nat} {s : St} (h : TwoR w0 w b b' s) (ht : Touch [] w w') : TwoR w0 w' b b' s := by
  obtain ⟨F, G, h1, h2, h3⟩ := h
  exact ⟨F, G, Rg.still h1 ht, Rg.still h2 ht, h3.touch ht⟩
theorem TwoR.t {w0 w : World} {b b' : Nat} {s : St} (h : TwoR w0 w b b' s) : Touch [] w0 w := by
  obtain ⟨F, G, h1, h2, h3⟩ := h; exact h3.t

set_option maxRecDepth 100000 in
set_option maxHeartbeats 4000000 in
theorem plays_long (a : Option Addr) (L cap : Nat) (w : World) (hL : L ≤ 9223372036854775807) (h : 120 < L) :
    Calls Try.prog 3 #[.slice a L cap] w fun e w' => e = .returned (.bool true) ∧ Below w.heap.size w w' := by
  have d : decide ((120 : Int) < (L : Int)) = true := dT (by omega)
  go_enter Try.func3, Try.ntmps3
  go_wp2_with fail
  refine (awake_any _).mono ?_
  rintro e w1 ⟨rfl, ht⟩
  go_wp2
  go_ret
  exact ⟨rfl, ht.below (Nat.le_refl _) (by simp)⟩

set_option maxRecDepth 100000 in
set_option maxHeartbeats 32000000 in
theorem plays_in (a : Option Addr) (L cap : Nat) (z : Nat → Nat → Int) (w : World) (hL : L ≤ 120) (hs : Slr w (.slice a L cap) L 2 z) :
    Calls Try.prog 3 #[.slice a L cap] w fun e w' => e = .returned (.bool true) ∧ Below w.heap.size w w' := by
  have HSl := Lib.hid hs
  clear hs
  have d : decide ((120 : Int) < (L : Int)) = false := dF (by omega)
  go_enter Try.func3, Try.ntmps3
  go_wp2_with fail
  refine (new_any _).mono ?_
  rintro e w1 ⟨b, rfl, h1, hb, ht⟩
  have HB0 : Hid (TwoR w (w1.alloc (.cells #[.int .i64 0, .slice none 0 0, .slice none 0 0] 29)) b w1.heap.size ⟨0, [], []⟩) := Lib.hid (by
    have hlt := h1.lt
    have hsz := ht.size
    have hl := hlt b (by simp)
    refine ⟨[b], [w1.heap.size], h1.still ((Touch.refl _ _).alloc _), Rg.fresh _, ⟨?_, ?_, ?_, ?_, ?_, ht.alloc _⟩⟩
    · intro k hk hk2; simp at hk hk2; omega
    · intro k hk; simp at hk; omega
    · intro k hk; simp at hk; omega
    · intro k hk; simp at hk ⊢; omega
    · intro k hk; simp at hk ⊢; omega)
  clear h1 hb ht
  go_wp2_with fail
  obtain ⟨b', hb'⟩ : ∃ b', w1.heap.size = b' := ⟨_, rfl⟩
  obtain ⟨wA, hwA⟩ : ∃ wA, w1.alloc (.cells #[.int .i64 0, .slice none 0 0, .slice none 0 0] 29) = wA := ⟨_, rfl⟩
  rw [hwA, hb'] at HB0
  rw [hwA, hb']
  clear hwA hb'
  go_loopw [5] (fun i wr => ∃ (j : Nat) (s : St), j ≤ L ∧ i = .int .i64 j ∧ many s ≤ j ∧ TwoR w wr b b' s) (fun i _ => L + 1 - (intOf i).toNat)
  case atStart => exact ⟨0, _, by omega, rfl, Nat.le_refl _, HB0.out⟩
  case round =>
    obtain ⟨j, s, hj, rfl, hm, F, G, hp, hr, hap⟩ := hrel
    have HMs := Lib.hid hm
    have HL : Hid (many s ≤ 1000) := Lib.hid (by omega)
    by_cases hjn : j < L
    · have hlt : (j : Int) < (L : Int) := by omega
      obtain ⟨a', cap', he, hz⟩ := HSl.out
      cases he
      rcases hz with h | ⟨g, off, rfl, hg, hc⟩
      · omega
      have c0 := hc j hjn 0 (by omega)
      have c1 := hc j hjn 1 (by omega)
      rw [← World.cell?_of_block (hap.t.block g hg (by simp)), ] at c0 c1
      rw [← Nat.add_assoc] at c1
      rw [Nat.add_zero] at c0
      clear hc
      generalize z j 0 = kd at *
      generalize z j 1 = p at *
      have HX : Hid (Blk (wr.alloc (.cells #[.int .i64 kd, .int .i64 p] 31)) wr.heap.size #[.int .i64 kd, .int .i64 p] 31) := Lib.hid (Blk.new rfl)
      have HXF : Hid (wr.heap.size ∉ F) := Lib.hid (fun h => by have := hap.fl _ h; omega)
      have HXG : Hid (wr.heap.size ∉ G) := Lib.hid (fun h => by have := hap.gl _ h; omega)
      have HP := Lib.hid (Rg.still hp ((Touch.refl [] wr).alloc (.cells #[.int .i64 kd, .int .i64 p] 31)))
      have HR := Lib.hid (Rg.still hr ((Touch.refl [] wr).alloc (.cells #[.int .i64 kd, .int .i64 p] 31)))
      have HAp := Lib.hid (hap.touch ((Touch.refl [] wr).alloc (.cells #[.int .i64 kd, .int .i64 p] 31)))
      clear hm hp hr hap
      by_cases k0 : kd = 0
      · subst k0
        obtain ⟨W, hW⟩ : ∃ W, wr.alloc (.cells #[.int .i64 0, .int .i64 p] 31) = W := ⟨_, rfl⟩
        obtain ⟨X, hXe⟩ : ∃ X, wr.heap.size = X := ⟨_, rfl⟩
        rw [hW, hXe] at HX
        rw [hXe] at HXF HXG
        rw [hW] at HP HR HAp
        have x0 := HX.out.cell (i := 1) rfl
        have x00 := HX.out.cell (i := 0) rfl
        go_upto_region 14 with fail
        clear hW hXe x00 c0 c1
        go_wp2_with fail
        have HA := Lib.hid ((Touch.refl [] _).drew : Touch [] W (World.drew W))
        go_region_held3 (fun w' => w'.cell? ⟨X, 1, none⟩ = some (.int .i64 p)) (first | go_keep | exact (HX.out.drew).cell (i := 1) rfl | exact (HX1.out).cell (i := 1) rfl | exact (HX2.out).cell (i := 1) rfl)
          ((first
            | (go_at_call 9; refine (enter_s b F s _ p (Rg.still HP.out HA.out) HL.out).mono ?_; rintro e w1 ⟨F2, rfl, h1, h2⟩; have H1 := Lib.hid h1; have H2 := Lib.hid h2; have HX1 := Lib.hid (HX.out.drew.touch h2.t HXF.out); have HA1 := Lib.hid ((HAp.out.touch HA.out).one h2); clear h1 h2)
            | (go_at_call 10; refine (renter_s b' G s _ p ((Rg.still HR.out HA.out).touch H2.out.t (fun k hk hk2 => HAp.out.d k hk2 hk)) HL.out).mono ?_; rintro e w2 ⟨G2, rfl, h3, h4⟩; have HX2 := Lib.hid (HX1.out.touch h4.t HXG.out); have HB : Hid (TwoR w w2 b b' (enterS s p)) := Lib.hid ⟨F2, G2, Rg.touch H1.out h4.t (fun k hk hk2 => HA1.out.d k hk hk2), h3, HA1.out.two h4⟩; clear h3 h4)))
        clear x0
        have HM := Lib.hid (Nat.le_trans (enter_many s p) (Nat.succ_le_succ HMs.out))
        have LE : Hid ((enterS s p).es.length ≤ 1000000) := Lib.hid (by have := HM.out; unfold many at this; omega)
        have LW : Hid ((enterS s p).ws.length ≤ 1000000) := Lib.hid (by have := HM.out; unfold many at this; omega)
        obtain ⟨s2, hs2⟩ : ∃ s2, (enterS s p) = s2 := ⟨_, rfl⟩
        rw [hs2] at HB HM LE LW
        clear hs2
        go_wp2_with fail
        obtain ⟨F2, G2, hp2, ⟨ve, vw, hr2, rfl⟩, ha2⟩ := HB.out
        have HP := Lib.hid hp2
        have HR := Lib.hid hr2
        have HE := Lib.hid hr2.qe.sl
        have HW := Lib.hid hr2.qw.sl
        have y0 := hr2.obj.cell (i := 0) rfl
        have y1 := hr2.obj.cell (i := 1) rfl
        have y2 := hr2.obj.cell (i := 2) rfl
        obtain ⟨ea, ec, rfl⟩ := Qu.form hr2.qe
        obtain ⟨wa, wc, rfl⟩ := Qu.form hr2.qw
        clear hp2 hr2 ha2
        have HA := Lib.hid ((Touch.refl [] _).drew : Touch [] w2 (World.drew w2))
        go_region_held3 (fun w' => w'.cell? ⟨b', 0, none⟩ = some (.int .i64 s2.occ) ∧ w'.cell? ⟨b', 1, none⟩ = some (.slice ea s2.es.length ec) ∧ w'.cell? ⟨b', 2, none⟩ = some (.slice wa s2.ws.length wc)) (first | go_keep | exact ⟨(HR.out.obj.touch HA.out (by simp)).cell (i := 0) rfl, (HR.out.obj.touch HA.out (by simp)).cell (i := 1) rfl, (HR.out.obj.touch HA.out (by simp)).cell (i := 2) rfl⟩)
          ((first
            | (go_at_call 15; refine (occ_any b _ _ _ _ _ (Rg.still HP.out HA.out)).mono ?_; rintro e w' ⟨rfl, rfl⟩)
            | (go_at_call 17; refine (entry_any b _ _ _ _ _ (Rg.still HP.out HA.out) LE.out).mono ?_; rintro e w' ⟨v, rfl, hv, ht⟩; have HV := Lib.hid hv.sl; have HA := Lib.hid (HA.out.trans ht); obtain ⟨va, vc, rfl⟩ := Qu.form hv; clear hv ht)
            | (go_at_call 18; refine (waits_any b _ _ _ _ _ (Rg.still HP.out HA.out) LW.out).mono ?_; rintro e w' ⟨v, rfl, hv, ht⟩; have HV := Lib.hid hv.sl; have HA := Lib.hid (HA.out.trans ht); obtain ⟨va, vc, rfl⟩ := Qu.form hv; clear hv ht)
            | (go_at_call_of 16 (Value.slice ea s2.es.length ec); refine (ints_eq _ _ s2.es _ HV.out (HE.out.touch HA.out (by simp)) LE.out).mono ?_; rintro e w' ⟨rfl, ht⟩; have HA := Lib.hid (HA.out.trans ht); clear ht)
            | (go_at_call_of 16 (Value.slice wa s2.ws.length wc); refine (ints_eq _ _ s2.ws _ HV.out (HW.out.touch HA.out (by simp)) LW.out).mono ?_; rintro e w' ⟨rfl, ht⟩; have HA := Lib.hid (HA.out.trans ht); clear ht)))
        have HB3 := Lib.hid (HB.out.touch HA.out)
        clear y0 y1 y2
        go_wp2
        go_roundw
        case rel => exact ⟨j + 1, _, by omega, by go_num, by have := HM.out; omega, HB3.out⟩
        case measure => simp [intOf]; omega
      · have k0b : (kd == 0) = false := beqF k0
        by_cases k1 : kd = 1
        · subst k1
          obtain ⟨W, hW⟩ : ∃ W, wr.alloc (.cells #[.int .i64 1, .int .i64 p] 31) = W := ⟨_, rfl⟩
          obtain ⟨X, hXe⟩ : ∃ X, wr.heap.size = X := ⟨_, rfl⟩
          rw [hW, hXe] at HX
          rw [hXe] at HXF HXG
          rw [hW] at HP HR HAp
          have x0 := HX.out.cell (i := 1) rfl
          have x00 := HX.out.cell (i := 0) rfl
          go_upto_region 17 with fail
          clear hW hXe x00 c0 c1
          go_wp2_with fail
          refine (fail_s b F s _ p HP.out HL.out).mono ?_
          rintro e w1 ⟨F2, rfl, h1, h2⟩
          have HA1 := Lib.hid (HAp.out.one h2)
          have HR1 := Lib.hid (Rg.touch HR.out h2.t (fun k hk hk2 => HAp.out.d k hk2 hk))
          have hx1 := HX.out.touch h2.t HXF.out
          have x1 := hx1.cell (i := 1) rfl
          have HX1 := Lib.hid hx1
          have H1 := Lib.hid h1
          clear h1 h2 hx1 x0
          go_wp2_with fail
          refine (rfail_s b' G s _ p HR1.out HL.out).mono ?_
          rintro e w2 ⟨G2, rfl, h3, h4⟩
          have HB : Hid (TwoR w w2 b b' (failS s p)) := Lib.hid ⟨F2, G2, Rg.touch H1.out h4.t (fun k hk hk2 => HA1.out.d k hk hk2), h3, HA1.out.two h4⟩
          clear h3 h4 x1
          have HM := Lib.hid (Nat.le_trans (fail_many s p) (Nat.succ_le_succ HMs.out))
          have LE : Hid ((failS s p).es.length ≤ 1000000) := Lib.hid (by have := HM.out; unfold many at this; omega)
          have LW : Hid ((failS s p).ws.length ≤ 1000000) := Lib.hid (by have := HM.out; unfold many at this; omega)
          obtain ⟨s2, hs2⟩ : ∃ s2, (failS s p) = s2 := ⟨_, rfl⟩
          rw [hs2] at HB HM LE LW
          clear hs2
          go_wp2_with fail
          obtain ⟨F2, G2, hp2, ⟨ve, vw, hr2, rfl⟩, ha2⟩ := HB.out
          have HP := Lib.hid hp2
          have HR := Lib.hid hr2
          have HE := Lib.hid hr2.qe.sl
          have HW := Lib.hid hr2.qw.sl
          have y0 := hr2.obj.cell (i := 0) rfl
          have y1 := hr2.obj.cell (i := 1) rfl
          have y2 := hr2.obj.cell (i := 2) rfl
          obtain ⟨ea, ec, rfl⟩ := Qu.form hr2.qe
          obtain ⟨wa, wc, rfl⟩ := Qu.form hr2.qw
          clear hp2 hr2 ha2
          have HA := Lib.hid ((Touch.refl [] _).drew : Touch [] w2 (World.drew w2))
          go_region_held3 (fun w' => w'.cell? ⟨b', 0, none⟩ = some (.int .i64 s2.occ) ∧ w'.cell? ⟨b', 1, none⟩ = some (.slice ea s2.es.length ec) ∧ w'.cell? ⟨b', 2, none⟩ = some (.slice wa s2.ws.length wc)) (first | go_keep | exact ⟨(HR.out.obj.touch HA.out (by simp)).cell (i := 0) rfl, (HR.out.obj.touch HA.out (by simp)).cell (i := 1) rfl, (HR.out.obj.touch HA.out (by simp)).cell (i := 2) rfl⟩)
            ((first
              | (go_at_call 15; refine (occ_any b _ _ _ _ _ (Rg.still HP.out HA.out)).mono ?_; rintro e w' ⟨rfl, rfl⟩)
              | (go_at_call 17; refine (entry_any b _ _ _ _ _ (Rg.still HP.out HA.out) LE.out).mono ?_; rintro e w' ⟨v, rfl, hv, ht⟩; have HV := Lib.hid hv.sl; have HA := Lib.hid (HA.out.trans ht); obtain ⟨va, vc, rfl⟩ := Qu.form hv; clear hv ht)
              | (go_at_call 18; refine (waits_any b _ _ _ _ _ (Rg.still HP.out HA.out) LW.out).mono ?_; rintro e w' ⟨v, rfl, hv, ht⟩; have HV := Lib.hid hv.sl; have HA := Lib.hid (HA.out.trans ht); obtain ⟨va, vc, rfl⟩ := Qu.form hv; clear hv ht)
              | (go_at_call_of 16 (Value.slice ea s2.es.length ec); refine (ints_eq _ _ s2.es _ HV.out (HE.out.touch HA.out (by simp)) LE.out).mono ?_; rintro e w' ⟨rfl, ht⟩; have HA := Lib.hid (HA.out.trans ht); clear ht)
              | (go_at_call_of 16 (Value.slice wa s2.ws.length wc); refine (ints_eq _ _ s2.ws _ HV.out (HW.out.touch HA.out (by simp)) LW.out).mono ?_; rintro e w' ⟨rfl, ht⟩; have HA := Lib.hid (HA.out.trans ht); clear ht)))
          have HB3 := Lib.hid (HB.out.touch HA.out)
          clear y0 y1 y2
          go_wp2
          go_roundw
          case rel => exact ⟨j + 1, _, by omega, by go_num, by have := HM.out; omega, HB3.out⟩
          case measure => simp [intOf]; omega
        · have k1b : (kd == 1) = false := beqF k1
          obtain ⟨W, hW⟩ : ∃ W, wr.alloc (.cells #[.int .i64 kd, .int .i64 p] 31) = W := ⟨_, rfl⟩
          obtain ⟨X, hXe⟩ : ∃ X, wr.heap.size = X := ⟨_, rfl⟩
          rw [hW, hXe] at HX
          rw [hXe] at HXF HXG
          rw [hW] at HP HR HAp
          have x0 := HX.out.cell (i := 1) rfl
          have x00 := HX.out.cell (i := 0) rfl
          go_upto_region 9 with fail
          clear hW hXe x00 c0 c1
          go_wp2_with fail
          refine (leave_s b F s _ p HP.out HL.out).mono ?_
          rintro e w1 ⟨F2, rfl, h1, h2⟩
          have HA1 := Lib.hid (HAp.out.one h2)
          have HR1 := Lib.hid (Rg.touch HR.out h2.t (fun k hk hk2 => HAp.out.d k hk2 hk))
          have hx1 := HX.out.touch h2.t HXF.out
          have x1 := hx1.cell (i := 1) rfl
          have HX1 := Lib.hid hx1
          have H1 := Lib.hid h1
          clear h1 h2 hx1 x0
          go_wp2_with fail
          refine (rleave_s b' G s _ p HR1.out HL.out).mono ?_
          rintro e w2 ⟨G2, rfl, h3, h4⟩
          have HB : Hid (TwoR w w2 b b' (leaveS s p)) := Lib.hid ⟨F2, G2, Rg.touch H1.out h4.t (fun k hk hk2 => HA1.out.d k hk hk2), h3, HA1.out.two h4⟩
          clear h3 h4 x1
          have HM := Lib.hid (Nat.le_trans (leave_many s p) (Nat.succ_le_succ HMs.out))
          have LE : Hid ((leaveS s p).es.length ≤ 1000000) := Lib.hid (by have := HM.out; unfold many at this; omega)
          have LW : Hid ((leaveS s p).ws.length ≤ 1000000) := Lib.hid (by have := HM.out; unfold many at this; omega)
          obtain ⟨s2, hs2⟩ : ∃ s2, (leaveS s p) = s2 := ⟨_, rfl⟩
          rw [hs2] at HB HM LE LW
          clear hs2
          go_wp2_with fail
          obtain ⟨F2, G2, hp2, ⟨ve, vw, hr2, rfl⟩, ha2⟩ := HB.out
          have HP := Lib.hid hp2
          have HR := Lib.hid hr2
          have HE := Lib.hid hr2.qe.sl
          have HW := Lib.hid hr2.qw.sl
          have y0 := hr2.obj.cell (i := 0) rfl
          have y1 := hr2.obj.cell (i := 1) rfl
          have y2 := hr2.obj.cell (i := 2) rfl
          obtain ⟨ea, ec, rfl⟩ := Qu.form hr2.qe
          obtain ⟨wa, wc, rfl⟩ := Qu.form hr2.qw
          clear hp2 hr2 ha2
          have HA := Lib.hid ((Touch.refl [] _).drew : Touch [] w2 (World.drew w2))
          go_region_held3 (fun w' => w'.cell? ⟨b', 0, none⟩ = some (.int .i64 s2.occ) ∧ w'.cell? ⟨b', 1, none⟩ = some (.slice ea s2.es.length ec) ∧ w'.cell? ⟨b', 2, none⟩ = some (.slice wa s2.ws.length wc)) (first | go_keep | exact ⟨(HR.out.obj.touch HA.out (by simp)).cell (i := 0) rfl, (HR.out.obj.touch HA.out (by simp)).cell (i := 1) rfl, (HR.out.obj.touch HA.out (by simp)).cell (i := 2) rfl⟩)
            ((first
              | (go_at_call 15; refine (occ_any b _ _ _ _ _ (Rg.still HP.out HA.out)).mono ?_; rintro e w' ⟨rfl, rfl⟩)
              | (go_at_call 17; refine (entry_any b _ _ _ _ _ (Rg.still HP.out HA.out) LE.out).mono ?_; rintro e w' ⟨v, rfl, hv, ht⟩; have HV := Lib.hid hv.sl; have HA := Lib.hid (HA.out.trans ht); obtain ⟨va, vc, rfl⟩ := Qu.form hv; clear hv ht)
              | (go_at_call 18; refine (waits_any b _ _ _ _ _ (Rg.still HP.out HA.out) LW.out).mono ?_; rintro e w' ⟨v, rfl, hv, ht⟩; have HV := Lib.hid hv.sl; have HA := Lib.hid (HA.out.trans ht); obtain ⟨va, vc, rfl⟩ := Qu.form hv; clear hv ht)
              | (go_at_call_of 16 (Value.slice ea s2.es.length ec); refine (ints_eq _ _ s2.es _ HV.out (HE.out.touch HA.out (by simp)) LE.out).mono ?_; rintro e w' ⟨rfl, ht⟩; have HA := Lib.hid (HA.out.trans ht); clear ht)
              | (go_at_call_of 16 (Value.slice wa s2.ws.length wc); refine (ints_eq _ _ s2.ws _ HV.out (HW.out.touch HA.out (by simp)) LW.out).mono ?_; rintro e w' ⟨rfl, ht⟩; have HA := Lib.hid (HA.out.trans ht); clear ht)))
          have HB3 := Lib.hid (HB.out.touch HA.out)
          clear y0 y1 y2
          go_wp2
          go_roundw
          case rel => exact ⟨j + 1, _, by omega, by go_num, by have := HM.out; omega, HB3.out⟩
          case measure => simp [intOf]; omega
    · have hlt : ¬ (j : Int) < (L : Int) := by omega
      have HAp := Lib.hid hap
      clear hp hr hap
      go_wp2_with fail
      refine (awake_any _).mono ?_
      rintro e w4 ⟨rfl, ht⟩
      go_wp2
      go_ret
      exact ⟨rfl, (HAp.out.t.trans ht).below (Nat.le_refl _) (by simp)⟩

theorem plays_law (v : Value) (L : Nat) (z : Nat → Nat → Int) (w : World) (hs : Slr w v L 2 z) (hz : ∀ i, i < L → ∀ j, j < 2 → InI (z i j)) (hm : L ≤ maxLen) :
    Calls Try.prog 3 #[v] w fun e w' => e = .returned (.bool true) ∧ Below w.heap.size w w' := by
  obtain ⟨a, cap, rfl, h⟩ := hs
  by_cases hl : 120 < L
  · exact plays_long a L cap w (by unfold maxLen at hm; omega) hl
  · exact plays_in a L cap z w (by omega) ⟨a, cap, rfl, h⟩
end Go.Proofs.Ytbbjnojipfnkoaa
