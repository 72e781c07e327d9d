/-
  Critical regions: the program's.
-/
import Derived.Test.YtbbjnojipfnkoaaA
import Derived.Test.YtbbjnojipfnkoaaU
set_option linter.unusedVariables false
namespace Go.Proofs.Ytbbjnojipfnkoaa
open Go.RowKit

def fp (b : Nat) (ve vw : Value) : List Nat := b :: (ve.ownBlock.toList ++ vw.ownBlock.toList)
theorem mem_fp {b : Nat} {ve vw : Value} {k : Nat} (h : k ∈ fp b ve vw) : k = b ∨ ve.ownBlock = some k ∨ vw.ownBlock = some k := by
  unfold fp at h; simpa [Option.mem_toList] using h
/-- A region in memory: who is in it, both queues. -/
structure Rv (T : TypeId) (w : World) (b : Nat) (ve vw : Value) (occ : Int) (es ws : List Int) : Prop where
  obj : Blk w b #[.int .i64 occ, ve, vw] T
  qe : Qu w 0 3 ve (es.map (Value.int .i64))
  qw : Qu w 0 3 vw (ws.map (Value.int .i64))
  ne : ∀ k, ve.ownBlock = some k → k ≠ b
  nw : ∀ k, vw.ownBlock = some k → k ≠ b
  nn : ∀ k, ve.ownBlock = some k → vw.ownBlock ≠ some k
def Rg (T : TypeId) (w : World) (b : Nat) (F : List Nat) (occ : Int) (es ws : List Int) : Prop := ∃ ve vw, Rv T w b ve vw occ es ws ∧ F = fp b ve vw
theorem Rv.lt {T : TypeId} {w : World} {b : Nat} {ve vw : Value} {occ : Int} {es ws : List Int} (h : Rv T w b ve vw occ es ws) : ∀ k, k ∈ fp b ve vw → k < w.heap.size := fun k hk => by
  rcases mem_fp hk with rfl | e | e
  · exact h.obj.lt
  · exact (h.qe.own k e).2
  · exact (h.qw.own k e).2
theorem Rg.lt {T : TypeId} {w : World} {b : Nat} {F : List Nat} {occ : Int} {es ws : List Int} (h : Rg T w b F occ es ws) : ∀ k, k ∈ F → k < w.heap.size := by
  obtain ⟨ve, vw, h, rfl⟩ := h; exact h.lt
theorem Rv.touch {T : TypeId} {w w' : World} {b : Nat} {ve vw : Value} {occ : Int} {es ws : List Int} {S : List Nat} (h : Rv T w b ve vw occ es ws) (ht : Touch S w w') (hs : ∀ k, k ∈ fp b ve vw → k ∉ S) : Rv T w' b ve vw occ es ws :=
  ⟨h.obj.touch ht (hs b (by simp [fp])), h.qe.touch ht (fun k hk => hs k (by simp [fp, hk])), h.qw.touch ht (fun k hk => hs k (by simp [fp, hk])), h.ne, h.nw, h.nn⟩
theorem Rg.touch {T : TypeId} {w w' : World} {b : Nat} {F S : List Nat} {occ : Int} {es ws : List Int} (h : Rg T w b F occ es ws) (ht : Touch S w w') (hs : ∀ k, k ∈ F → k ∉ S) : Rg T w' b F occ es ws := by
  obtain ⟨ve, vw, h, rfl⟩ := h; exact ⟨ve, vw, h.touch ht hs, rfl⟩
theorem Rg.still {T : TypeId} {w w' : World} {b : Nat} {F : List Nat} {occ : Int} {es ws : List Int} (h : Rg T w b F occ es ws) (ht : Touch [] w w') : Rg T w' b F occ es ws := h.touch ht (fun _ _ => by simp)

/-- What a call leaves of a region. -/
def RgP (T : TypeId) (b : Nat) (F : List Nat) (occ : Int) (es ws : List Int) (r : Value) (w : World) (e : Ending) (w' : World) : Prop :=
  ∃ F', e = .returned r ∧ Rg T w' b F' occ es ws ∧ Fr F w F' w'
/-- From the pieces. -/
theorem Rv.left {T : TypeId} {w w' : World} {b : Nat} {ve vw ve' vw' : Value} {occ occ' : Int} {es ws es' ws' : List Int} (h : Rv T w b ve vw occ es ws) (h' : Rv T w' b ve' vw' occ' es' ws') (ht : Touch (fp b ve vw) w w')
    (ge : ∀ k, ve'.ownBlock = some k → ve.ownBlock = some k ∨ w.heap.size ≤ k) (gw : ∀ k, vw'.ownBlock = some k → vw.ownBlock = some k ∨ w.heap.size ≤ k) : ∃ F', Rg T w' b F' occ' es' ws' ∧ Fr (fp b ve vw) w F' w' :=
  ⟨_, ⟨ve', vw', h', rfl⟩, ht, fun k hk => by
    rcases mem_fp hk with rfl | e | e
    · exact .inl (by simp [fp])
    · rcases ge k e with q | q
      · exact .inl (by simp [fp, q])
      · exact .inr q
    · rcases gw k e with q | q
      · exact .inl (by simp [fp, q])
      · exact .inr q, h'.lt⟩

def NewP (T : TypeId) (w : World) (e : Ending) (w' : World) : Prop := ∃ b, e = .returned (.pointer (some ⟨b, 0, none⟩)) ∧ Rg T w' b [b] 0 [] [] ∧ w.heap.size ≤ b ∧ Touch [] w w'
theorem Rg.fresh {w : World} (T : TypeId) : Rg T (w.alloc (.cells #[.int .i64 0, .slice none 0 0, .slice none 0 0] T)) w.heap.size [w.heap.size] 0 [] [] :=
  ⟨_, _, ⟨Blk.new rfl, Qu.nil _ _ _, Qu.nil _ _ _, fun k hk => by simp [Value.ownBlock] at hk, fun k hk => by simp [Value.ownBlock] at hk, fun k hk => by simp [Value.ownBlock] at hk⟩, rfl⟩
set_option maxHeartbeats 1000000 in
theorem new_any (w : World) : Calls Try.prog 8 #[] w (NewP 46 w) := by
  go_enter Try.func8, Try.ntmps8
  go_wp2
  go_ret
  exact ⟨_, rfl, Rg.fresh _, Nat.le_refl _, (Touch.refl _ _).alloc _⟩

section
variable (b : Nat) (F : List Nat) (occ : Int) (es ws : List Int) (w : World)
set_option maxHeartbeats 1000000 in
theorem occ_any (h : Rg 46 w b F occ es ws) : Calls Try.prog 15 #[.pointer (some ⟨b, 0, none⟩)] w fun e w' => e = .returned (.int .i64 occ) ∧ w = w' := by
  obtain ⟨ve, vw, h, rfl⟩ := h
  have x0 := h.obj.cell (i := 0) rfl
  clear h
  go_enter Try.func15, Try.ntmps15
  go_wp2
  go_ret
  exact ⟨rfl, rfl⟩
set_option maxHeartbeats 1000000 in
theorem entry_any (h : Rg 46 w b F occ es ws) (l1 : es.length ≤ 1000000) : Calls Try.prog 17 #[.pointer (some ⟨b, 0, none⟩)] w (Own es w) := by
  obtain ⟨ve, vw, h, rfl⟩ := h
  have HC := Lib.hid (list_any b 1 ve es w (h.obj.cell rfl) h.qe l1)
  clear h
  go_enter Try.func17, Try.ntmps17
  go_wp2_with fail
  refine HC.out.mono ?_
  rintro e w1 ⟨v, rfl, hq1, ht1⟩
  go_wp2
  go_ret
  exact ⟨_, rfl, hq1, ht1⟩
set_option maxHeartbeats 1000000 in
theorem waits_any (h : Rg 46 w b F occ es ws) (l1 : ws.length ≤ 1000000) : Calls Try.prog 18 #[.pointer (some ⟨b, 0, none⟩)] w (Own ws w) := by
  obtain ⟨ve, vw, h, rfl⟩ := h
  have HC := Lib.hid (list_any b 2 vw ws w (h.obj.cell rfl) h.qw l1)
  clear h
  go_enter Try.func18, Try.ntmps18
  go_wp2_with fail
  refine HC.out.mono ?_
  rintro e w1 ⟨v, rfl, hq1, ht1⟩
  go_wp2
  go_ret
  exact ⟨_, rfl, hq1, ht1⟩

theorem enter_low (p : Int) (hp : p < 1) : Calls Try.prog 9 #[.pointer (some ⟨b, 0, none⟩), .int .i64 p] w fun e w' => e = .returned (.bool false) ∧ w = w' := by
  go_enter Try.func9, Try.ntmps9
  go_wp2
  go_ret
  exact ⟨rfl, rfl⟩
set_option maxHeartbeats 1000000 in
theorem enter_free (p : Int) (hp : 1 ≤ p) (h : Rg 46 w b F 0 es ws) : Calls Try.prog 9 #[.pointer (some ⟨b, 0, none⟩), .int .i64 p] w (RgP 46 b F p es ws (.bool true) w) := by
  obtain ⟨ve, vw, h, rfl⟩ := h
  have x0 := h.obj.cell (i := 0) rfl
  have x1 := h.obj.free 0
  have HH := Lib.hid h
  clear h
  go_enter Try.func9, Try.ntmps9
  go_wp2
  go_ret
  have ht : Touch [b] w (w.setCell ⟨b, 0, none⟩ (.int .i64 p)) := (Touch.refl _ _).setCell (by simp) _
  have hr : Rv 46 (w.setCell ⟨b, 0, none⟩ (.int .i64 p)) b ve vw p es ws := ⟨HH.out.obj.set 0 _, HH.out.qe.touch ht (fun k hk => by have := HH.out.ne k hk; simp; omega), HH.out.qw.touch ht (fun k hk => by have := HH.out.nw k hk; simp; omega), HH.out.ne, HH.out.nw, HH.out.nn⟩
  obtain ⟨F', h1, h2⟩ := HH.out.left hr (ht.mono (by simp [fp])) (fun k hk => .inl hk) (fun k hk => .inl hk)
  exact ⟨F', rfl, h1, h2⟩
/-- One more in a queue. -/
theorem pushed_e {T : TypeId} {ve vw v' : Value} {b : Nat} {occ : Int} {es es' ws : List Int} {w w' : World} (h : Rv T w b ve vw occ es ws) (hb : Blk w' b #[.int .i64 occ, v', vw] T) (hq : Qu w' 0 3 v' (es'.map (Value.int .i64))) (ht : Touch (b :: ve.ownBlock.toList) w w')
    (hn : ∀ k, v'.ownBlock = some k → (ve.ownBlock = some k ∨ w.heap.size ≤ k) ∧ k ≠ b) : ∃ F', Rg T w' b F' occ es' ws ∧ Fr (fp b ve vw) w F' w' := by
  refine h.left (ve' := v') (vw' := vw) ⟨hb, hq, h.qw.touch ht (fun k hk hm => ?_), fun k hk => (hn k hk).2, h.nw, fun k hk hk2 => ?_⟩ (ht.mono (fun k hk => by simp [fp] at hk ⊢; rcases hk with e | e <;> simp [e])) (fun k hk => (hn k hk).1) (fun k hk => .inl hk)
  · have h1 := h.nw k hk
    simp [Option.mem_toList] at hm
    rcases hm with e | e
    · exact h1 e
    · exact h.nn k e hk
  · rcases (hn k hk).1 with e | e
    · exact h.nn k e hk2
    · have := (h.qw.own k hk2).2; omega
theorem pushed_w {T : TypeId} {ve vw v' : Value} {b : Nat} {occ : Int} {es ws ws' : List Int} {w w' : World} (h : Rv T w b ve vw occ es ws) (hb : Blk w' b #[.int .i64 occ, ve, v'] T) (hq : Qu w' 0 3 v' (ws'.map (Value.int .i64))) (ht : Touch (b :: vw.ownBlock.toList) w w')
    (hn : ∀ k, v'.ownBlock = some k → (vw.ownBlock = some k ∨ w.heap.size ≤ k) ∧ k ≠ b) : ∃ F', Rg T w' b F' occ es ws' ∧ Fr (fp b ve vw) w F' w' := by
  refine h.left (ve' := ve) (vw' := v') ⟨hb, h.qe.touch ht (fun k hk hm => ?_), hq, h.ne, fun k hk => (hn k hk).2, fun k hk hk2 => ?_⟩ (ht.mono (fun k hk => by simp [fp] at hk ⊢; rcases hk with e | e <;> simp [e])) (fun k hk => .inl hk) (fun k hk => (hn k hk).1)
  · have h1 := h.ne k hk
    simp [Option.mem_toList] at hm
    rcases hm with e | e
    · exact h1 e
    · exact h.nn k hk e
  · rcases (hn k hk2).1 with e | e
    · exact h.nn k hk e
    · have := (h.qe.own k hk).2; omega
set_option maxHeartbeats 1000000 in
theorem enter_full (p : Int) (hp : 1 ≤ p) (ho : occ ≠ 0) (h : Rg 46 w b F occ es ws) (l1 : es.length ≤ 1000000) : Calls Try.prog 9 #[.pointer (some ⟨b, 0, none⟩), .int .i64 p] w (RgP 46 b F occ (es ++ [p]) ws (.bool false) w) := by
  obtain ⟨ve, vw, h, rfl⟩ := h
  have x0 := h.obj.cell (i := 0) rfl
  have HC := Lib.hid (push_any b 1 _ _ ve es p w h.obj rfl h.qe h.ne l1)
  have HH := Lib.hid h
  have h0 : (occ != 0) = true := bneT ho
  clear h
  go_enter Try.func9, Try.ntmps9
  go_wp2_with fail
  refine HC.out.mono ?_
  rintro e w1 ⟨v', rfl, hb, hq, ht, hn⟩
  go_wp2
  go_ret
  obtain ⟨F', h1, h2⟩ := pushed_e HH.out hb hq ht hn
  exact ⟨F', rfl, h1, h2⟩

set_option maxHeartbeats 1000000 in
theorem has_yes (h : Rg 46 w b F occ es ws) (hp : 0 < occ) : Calls Try.prog 23 #[.pointer (some ⟨b, 0, none⟩), .int .i64 occ] w fun e w' => e = .returned (.bool true) ∧ w = w' := by
  obtain ⟨ve, vw, h, rfl⟩ := h
  have x0 := h.obj.cell (i := 0) rfl
  clear h
  go_enter Try.func23, Try.ntmps23
  go_wp2
  go_ret
  exact ⟨rfl, rfl⟩
set_option maxHeartbeats 1000000 in
theorem has_no (p : Int) (h : Rg 46 w b F occ es ws) (hp : ¬ (0 < p ∧ occ = p)) : Calls Try.prog 23 #[.pointer (some ⟨b, 0, none⟩), .int .i64 p] w fun e w' => e = .returned (.bool false) ∧ w = w' := by
  obtain ⟨ve, vw, h, rfl⟩ := h
  have x0 := h.obj.cell (i := 0) rfl
  clear h
  by_cases h1 : 0 < p
  · have h2 : (occ == p) = false := beqF (fun e => hp ⟨h1, e⟩)
    clear hp
    go_enter Try.func23, Try.ntmps23
    go_wp2
    go_ret
    exact ⟨rfl, rfl⟩
  · clear hp
    go_enter Try.func23, Try.ntmps23
    go_wp2
    go_ret
    exact ⟨rfl, rfl⟩

/-- Who comes next, and who stands behind. -/
def hd (es : List Int) : Int := es.headD 0
set_option maxHeartbeats 2000000 in
theorem next_any (h : Rg 46 w b F occ es ws) (l1 : es.length ≤ 1000000) : Calls Try.prog 24 #[.pointer (some ⟨b, 0, none⟩)] w (RgP 46 b F (hd es) es.tail ws (.int .i64 (hd es)) w) := by
  obtain ⟨ve, vw, h, rfl⟩ := h
  cases es with
  | nil =>
    have HC := Lib.hid (pop_nil b 1 ve w (h.obj.cell rfl) h.qe)
    have x0 := h.obj.cell (i := 0) rfl
    have x1 := h.obj.free 0
    have y0 := (h.obj.set 0 (.int .i64 0)).cell (i := 0) rfl
    have HH := Lib.hid h
    clear h
    go_enter Try.func24, Try.ntmps24
    go_wp2_with fail
    refine HC.out.mono ?_
    rintro e w1 ⟨rfl, rfl⟩
    go_wp2
    go_ret
    have ht : Touch [b] w (w.setCell ⟨b, 0, none⟩ (.int .i64 0)) := (Touch.refl _ _).setCell (by simp) _
    have hr : Rv 46 (w.setCell ⟨b, 0, none⟩ (.int .i64 0)) b ve vw 0 [] ws := ⟨HH.out.obj.set 0 _, HH.out.qe.touch ht (fun k hk => by have := HH.out.ne k hk; simp; omega), HH.out.qw.touch ht (fun k hk => by have := HH.out.nw k hk; simp; omega), HH.out.ne, HH.out.nw, HH.out.nn⟩
    obtain ⟨F', h1, h2⟩ := HH.out.left hr (ht.mono (by simp [fp])) (fun k hk => .inl hk) (fun k hk => .inl hk)
    exact ⟨F', rfl, h1, h2⟩
  | cons x xs =>
    simp at l1
    have HC := Lib.hid (pop_cons b 1 _ _ ve x xs w h.obj rfl h.qe h.ne (by omega))
    have HH := Lib.hid h
    clear h
    go_enter Try.func24, Try.ntmps24
    go_wp2_with fail
    refine HC.out.mono ?_
    rintro e w1 ⟨v', rfl, hb, hq, ht, hn⟩
    have x0 := hb.cell (i := 0) rfl
    have x1 := hb.free 0
    have y0 := (hb.set 0 (.int .i64 x)).cell (i := 0) rfl
    have HB := Lib.hid hb
    have HQ := Lib.hid hq
    have HT := Lib.hid ht
    have HN := Lib.hid hn
    clear hb hq ht hn
    go_wp2
    go_ret
    have ht : Touch [b] w1 (w1.setCell ⟨b, 0, none⟩ (.int .i64 x)) := (Touch.refl _ _).setCell (by simp) _
    have hr : Rv 46 (w1.setCell ⟨b, 0, none⟩ (.int .i64 x)) b v' vw x xs ws :=
      ⟨HB.out.set 0 _, HQ.out.touch ht (fun k hk => by have := HH.out.ne k (HN.out ▸ hk); simp; omega), (HH.out.qw.touch HT.out (fun k hk => by have := HH.out.nw k hk; simp; omega)).touch ht (fun k hk => by have := HH.out.nw k hk; simp; omega), fun k hk => HH.out.ne k (HN.out ▸ hk), HH.out.nw, fun k hk => HH.out.nn k (HN.out ▸ hk)⟩
    obtain ⟨F', h1, h2⟩ := HH.out.left hr ((HT.out.trans ht).mono (by simp [fp])) (fun k hk => .inl (HN.out ▸ hk)) (fun k hk => .inl hk)
    exact ⟨F', rfl, h1, h2⟩

set_option maxHeartbeats 2000000 in
theorem fail_no (p : Int) (h : Rg 46 w b F occ es ws) (hp : ¬ (0 < p ∧ occ = p)) : Calls Try.prog 11 #[.pointer (some ⟨b, 0, none⟩), .int .i64 p] w fun e w' => e = .returned (.tuple #[.int .i64 0, .bool false]) ∧ w = w' := by
  have HC := Lib.hid (has_no b F occ es ws w p h hp)
  clear h hp
  go_enter Try.func11, Try.ntmps11
  go_wp2_with fail
  refine HC.out.mono ?_
  rintro e w1 ⟨rfl, rfl⟩
  go_wp2
  go_ret2
  exact ⟨rfl, rfl⟩
set_option maxHeartbeats 2000000 in
theorem leave_no (p : Int) (h : Rg 46 w b F occ es ws) (hp : ¬ (0 < p ∧ occ = p)) : Calls Try.prog 13 #[.pointer (some ⟨b, 0, none⟩), .int .i64 p] w fun e w' => e = .returned (.tuple #[.int .i64 0, .bool false]) ∧ w = w' := by
  have HC := Lib.hid (has_no b F occ es ws w p h hp)
  clear h hp
  go_enter Try.func13, Try.ntmps13
  go_wp2_with fail
  refine HC.out.mono ?_
  rintro e w1 ⟨rfl, rfl⟩
  go_wp2
  go_ret2
  exact ⟨rfl, rfl⟩
set_option maxHeartbeats 2000000 in
theorem fail_yes (h : Rg 46 w b F occ es ws) (hp : 0 < occ) (l1 : es.length ≤ 1000000) (l2 : ws.length ≤ 1000000) : Calls Try.prog 11 #[.pointer (some ⟨b, 0, none⟩), .int .i64 occ] w (RgP 46 b F (hd es) es.tail (ws ++ [occ]) (.tuple #[.int .i64 (hd es), .bool true]) w) := by
  have HC := Lib.hid (has_yes b F occ es ws w h hp)
  obtain ⟨ve, vw, h, rfl⟩ := h
  have HP := Lib.hid (push_any b 2 _ _ vw ws occ w h.obj rfl h.qw h.nw l2)
  have HH := Lib.hid h
  clear h
  go_enter Try.func11, Try.ntmps11
  go_wp2_with fail
  refine HC.out.mono ?_
  rintro e w1 ⟨rfl, rfl⟩
  go_wp2_with fail
  refine HP.out.mono ?_
  rintro e w1 ⟨v', rfl, hb, hq, ht, hn⟩
  obtain ⟨F', h1, h2⟩ := pushed_w HH.out hb hq ht hn
  have H1 := Lib.hid h1
  have H2 := Lib.hid h2
  clear hb hq ht hn h1 h2
  go_wp2_with fail
  refine (next_any b F' occ es (ws ++ [occ]) _ H1.out l1).mono ?_
  rintro e w2 ⟨F2, rfl, h3, h4⟩
  have H3 := Lib.hid h3
  have H4 := Lib.hid (H2.out.trans h4)
  clear h3 h4
  go_wp2
  go_ret2
  exact ⟨F2, rfl, H3.out, H4.out⟩
set_option maxHeartbeats 2000000 in
theorem leave_yes (h : Rg 46 w b F occ es ws) (hp : 0 < occ) (l1 : es.length ≤ 100000) (l2 : ws.length ≤ 100000) : Calls Try.prog 13 #[.pointer (some ⟨b, 0, none⟩), .int .i64 occ] w (RgP 46 b F (hd (ws ++ es)) (ws ++ es).tail [] (.tuple #[.int .i64 (hd (ws ++ es)), .bool true]) w) := by
  have HC := Lib.hid (has_yes b F occ es ws w h hp)
  obtain ⟨ve, vw, h, rfl⟩ := h
  have HP := Lib.hid (fun (w1 : World) (ht : Touch [] w w1) => precede_any b occ _ ve vw es ws w1 (h.obj.touch ht (by simp)) (h.qe.touch ht (fun _ _ => by simp)) (h.qw.touch ht (fun _ _ => by simp)) l1 l2)
  have HH := Lib.hid h
  clear h
  go_enter Try.func13, Try.ntmps13
  go_wp2_with fail
  refine HC.out.mono ?_
  rintro e w1 ⟨rfl, rfl⟩
  go_wp2_with fail
  go_region_with ((go_at_call 26; refine (HP.out _ ?_).mono ?_; (first | exact (Touch.refl [] _) | exact (Touch.refl [] _).drew); rintro e w1 ⟨v', rfl, hb, hq, ht⟩; have HB := Lib.hid hb; have HQ := Lib.hid hq; have HT := Lib.hid ht; clear hb hq ht))
  all_goals
    have ht : Touch [b] w w1 := ((Touch.refl [b] w).drew).trans HT.out
    have hq : Qu w1 w.heap.size 3 v' ((ws ++ es).map (Value.int .i64)) := HQ.out
    have hr : Rv 46 w1 b v' (.slice none 0 0) occ (ws ++ es) [] := ⟨HB.out, hq.mono (Nat.zero_le _), Qu.nil _ _ _, fun k hk => by have := (hq.own k hk).1; have := HH.out.obj.lt; omega, fun k hk => by simp [Value.ownBlock] at hk, fun k hk => by simp [Value.ownBlock]⟩
    obtain ⟨F', h1, h2⟩ := HH.out.left hr (ht.mono (by simp [fp])) (fun k hk => .inr (hq.own k hk).1) (fun k hk => by simp [Value.ownBlock] at hk)
    have H1 := Lib.hid h1
    have H2 := Lib.hid h2
    clear ht hq hr h1 h2
    go_wp2_with fail
    refine (next_any b F' occ (ws ++ es) [] _ H1.out (by simp; omega)).mono ?_
    rintro e w2 ⟨F2, rfl, h3, h4⟩
    have H3 := Lib.hid h3
    have H4 := Lib.hid (H2.out.trans h4)
    clear h3 h4
    go_wp2
    go_ret2
    exact ⟨F2, rfl, H3.out, H4.out⟩
end
end Go.Proofs.Ytbbjnojipfnkoaa
