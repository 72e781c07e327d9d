/-
  Words: contracts of the two packages' stores, New, Len, Get, Put.
-/
import Derived.Test.YtoobmooagjobnaaI
import Derived.Lib.SliceRun
set_option linter.unusedVariables false
namespace Go.Proofs.Ytoobmooagjobnaa
open Go.RowKit

theorem run_mk (n : Nat) (hn : n ≤ 1000000) (w : World) : (Instr.makeSlice 37 (.int .i64 (n : Int)) (.int .i64 (n : Int))).run Try.prog w = .ok (.slice (some ⟨w.heap.size, 0, none⟩) n n) (w.alloc (.cells (rowA (fun _ => 0) n) 3)) :=
  run_mk_of 37 3 Try.underlying37 (by kernel_rfl) n hn w

/-- A store at block b: its words are block g, f of them by place, n in all. -/
def St (w : World) (b g : Nat) (f : Nat → Int) (n : Nat) (T : TypeId) : Prop := Blk w b #[.slice (some ⟨g, 0, none⟩) n n] T ∧ Blk w g (rowA f n) 3 ∧ b ≠ g
def upd (f : Nat → Int) (k : Nat) (x : Int) : Nat → Int := fun j => if j = k then x else f j
theorem St.put {w : World} {b g n : Nat} {f : Nat → Int} {T : TypeId} (h : St w b g f n T) (k : Nat) (x : Int) : St (w.setCell ⟨g, k, none⟩ (.int .i64 x)) b g (upd f k x) n T := by
  obtain ⟨hb, hg, hne⟩ := h
  refine ⟨hb.other hne _, ?_, hne⟩
  have := hg.set k (.int .i64 x)
  rw [rowA_set] at this
  exact this
theorem St.touch {w w' : World} {b g n : Nat} {f : Nat → Int} {T : TypeId} {S : List Nat} (h : St w b g f n T) (ht : Touch S w w') (hb : b ∉ S) (hg : g ∉ S) : St w' b g f n T :=
  ⟨h.1.touch ht hb, h.2.1.touch ht hg, h.2.2⟩
theorem St.congr {w : World} {b g n : Nat} {f f' : Nat → Int} {T : TypeId} (h : St w b g f n T) (hf : ∀ j, j < n → f j = f' j) : St w b g f' n T := by
  obtain ⟨hb, hg, hne⟩ := h
  exact ⟨hb, by rw [← rowA_congr hf]; exact hg, hne⟩
theorem St.drewN {w : World} {b g n : Nat} {f : Nat → Int} {T : TypeId} (h : St w b g f n T) (m : Nat) : St (w.drewN m) b g f n T := h

def sNewPost (n : Nat) (w : World) (e : Ending) (w' : World) : Prop :=
  ∃ b g, e = .returned (.tuple #[.pointer (some ⟨b, 0, none⟩), .int .i64 0]) ∧ St w' b g (fun _ => 0) n 46 ∧ w.heap.size ≤ b ∧ w.heap.size ≤ g ∧ Touch [] w w'
set_option maxHeartbeats 1000000 in
theorem snew_ok (n : Nat) (hn : n ≤ 8192) (w : World) : Calls Try.prog 8 #[.int .i64 n] w (sNewPost n w) := by
  have hmk := fun w => run_mk n (by omega) w
  go_enter Try.func8, Try.ntmps8
  go_wp2
  go_ret2
  refine ⟨w.heap.size + 1, w.heap.size, rfl, ⟨?_, ?_, by omega⟩, by omega, by omega, ?_⟩
  · exact Blk.new (by simp)
  · exact (Blk.new rfl).alloc _
  · exact ((Touch.refl _ _).alloc _).alloc _
theorem snew_bad (n : Int) (h : n < 0 ∨ 8192 < n) (w : World) : Calls Try.prog 8 #[.int .i64 n] w fun e w' => e = .returned (.tuple #[.pointer none, .int .i64 1]) ∧ w = w' := by
  rcases h with h | h
  · go_enter Try.func8, Try.ntmps8
    go_wp2
    go_ret2
    exact ⟨rfl, rfl⟩
  · have h2 : ¬ n < 0 := by omega
    go_enter Try.func8, Try.ntmps8
    go_wp2
    go_ret2
    exact ⟨rfl, rfl⟩

theorem slen (b g n : Nat) (f : Nat → Int) (w : World) (hs : St w b g f n 46) (hn : n ≤ 8192) : Calls Try.prog 16 #[.pointer (some ⟨b, 0, none⟩)] w fun e w' => e = .returned (.int .i64 n) ∧ w = w' := by
  obtain ⟨hb, hg, hne⟩ := hs
  have hb0 := hb.cell (i := 0) rfl
  go_enter Try.func16, Try.ntmps16
  go_wp2
  go_ret
  exact ⟨rfl, rfl⟩
theorem slen_nil (w : World) : Calls Try.prog 16 #[.pointer none] w fun e w' => e = .returned (.int .i64 0) ∧ w = w' := by
  go_enter Try.func16, Try.ntmps16
  go_wp2
  go_ret
  exact ⟨rfl, rfl⟩

theorem sget_yes (b g n : Nat) (f : Nat → Int) (w : World) (hs : St w b g f n 46) (hn : n ≤ 8192) (k : Nat) (hk : k < n) : Calls Try.prog 10 #[.pointer (some ⟨b, 0, none⟩), .int .i64 k] w fun e w' => e = .returned (.tuple #[.int .i64 (f k), .bool true]) ∧ w = w' := by
  have HS := Lib.hid hs
  obtain ⟨hb, hg, hne⟩ := hs
  have hb0 := hb.cell (i := 0) rfl
  have hc := hg.cell (rowA_get f n k hk)
  have hz : ((0 : Nat) + k) = k := Nat.zero_add k
  generalize f k = z at *
  go_enter Try.func10, Try.ntmps10
  go_wp2_with fail
  refine (slen _ _ _ _ _ HS.out hn).mono ?_
  rintro e w' ⟨rfl, rfl⟩
  go_wp2
  go_ret2
  exact ⟨rfl, rfl⟩
theorem sget_no (b g n : Nat) (f : Nat → Int) (w : World) (hs : St w b g f n 46) (hn : n ≤ 8192) (k : Int) (hk : k < 0 ∨ (n : Int) ≤ k) : Calls Try.prog 10 #[.pointer (some ⟨b, 0, none⟩), .int .i64 k] w fun e w' => e = .returned (.tuple #[.int .i64 0, .bool false]) ∧ w = w' := by
  have HS := Lib.hid hs
  obtain ⟨hb, hg, hne⟩ := hs
  have hb0 := hb.cell (i := 0) rfl
  by_cases h : k < 0
  · go_enter Try.func10, Try.ntmps10
    go_wp2
    go_ret2
    exact ⟨rfl, rfl⟩
  · have h2 : (n : Int) ≤ k := by omega
    clear hk
    go_enter Try.func10, Try.ntmps10
    go_wp2_with fail
    refine (slen _ _ _ _ _ HS.out hn).mono ?_
    rintro e w' ⟨rfl, rfl⟩
    go_wp2
    go_ret2
    exact ⟨rfl, rfl⟩

theorem sput_yes (b g n : Nat) (f : Nat → Int) (w : World) (hs : St w b g f n 46) (hn : n ≤ 8192) (k : Nat) (x : Int) (hk : k < n) : Calls Try.prog 12 #[.pointer (some ⟨b, 0, none⟩), .int .i64 k, .int .i64 x] w fun e w' => e = .returned (.bool true) ∧ St w' b g (upd f k x) n 46 ∧ Touch [g] w w' := by
  have HS := Lib.hid hs
  obtain ⟨hb, hg, hne⟩ := hs
  have hb0 := hb.cell (i := 0) rfl
  have hc := hg.cell (rowA_get f n k hk)
  have hf := hg.free k
  generalize f k = z at *
  go_enter Try.func12, Try.ntmps12
  go_wp2_with fail
  refine (slen _ _ _ _ _ HS.out hn).mono ?_
  rintro e w' ⟨rfl, rfl⟩
  go_wp2
  go_ret
  refine ⟨rfl, ?_, (Touch.refl _ _).setCell (by simp) _⟩
  exact HS.out.put k x
theorem sput_no (b g n : Nat) (f : Nat → Int) (w : World) (hs : St w b g f n 46) (hn : n ≤ 8192) (k x : Int) (hk : k < 0 ∨ (n : Int) ≤ k) : Calls Try.prog 12 #[.pointer (some ⟨b, 0, none⟩), .int .i64 k, .int .i64 x] w fun e w' => e = .returned (.bool false) ∧ w = w' := by
  have HS := Lib.hid hs
  obtain ⟨hb, hg, hne⟩ := hs
  have hb0 := hb.cell (i := 0) rfl
  by_cases h : k < 0
  · go_enter Try.func12, Try.ntmps12
    go_wp2
    go_ret
    exact ⟨rfl, rfl⟩
  · have h2 : (n : Int) ≤ k := by omega
    clear hk
    go_enter Try.func12, Try.ntmps12
    go_wp2_with fail
    refine (slen _ _ _ _ _ HS.out hn).mono ?_
    rintro e w' ⟨rfl, rfl⟩
    go_wp2
    go_ret
    exact ⟨rfl, rfl⟩

def rNewPost (n : Nat) (w : World) (e : Ending) (w' : World) : Prop :=
  ∃ b g, e = .returned (.tuple #[.pointer (some ⟨b, 0, none⟩), .int .i64 0]) ∧ St w' b g (fun _ => 0) n 39 ∧ w.heap.size ≤ b ∧ w.heap.size ≤ g ∧ Touch [] w w'
set_option maxHeartbeats 1000000 in
theorem rnew_ok (n : Nat) (hn : n ≤ 8192) (w : World) : Calls Try.prog 9 #[.int .i64 n] w (rNewPost n w) := by
  have hmk := fun w => run_mk n (by omega) w
  go_enter Try.func9, Try.ntmps9
  go_wp2
  go_ret2
  refine ⟨w.heap.size + 1, w.heap.size, rfl, ⟨?_, ?_, by omega⟩, by omega, by omega, ?_⟩
  · exact Blk.new (by simp)
  · exact (Blk.new rfl).alloc _
  · exact ((Touch.refl _ _).alloc _).alloc _
theorem rnew_bad (n : Int) (h : n < 0 ∨ 8192 < n) (w : World) : Calls Try.prog 9 #[.int .i64 n] w fun e w' => e = .returned (.tuple #[.pointer none, .int .i64 1]) ∧ w = w' := by
  rcases h with h | h
  · go_enter Try.func9, Try.ntmps9
    go_wp2
    go_ret2
    exact ⟨rfl, rfl⟩
  · have h2 : ¬ n < 0 := by omega
    go_enter Try.func9, Try.ntmps9
    go_wp2
    go_ret2
    exact ⟨rfl, rfl⟩

theorem rget_yes (b g n : Nat) (f : Nat → Int) (w : World) (hs : St w b g f n 39) (hn : n ≤ 8192) (k : Nat) (hk : k < n) : Calls Try.prog 11 #[.pointer (some ⟨b, 0, none⟩), .int .i64 k] w fun e w' => e = .returned (.tuple #[.int .i64 (f k), .bool true]) ∧ w = w' := by
  have HS := Lib.hid hs
  obtain ⟨hb, hg, hne⟩ := hs
  have hb0 := hb.cell (i := 0) rfl
  have hc := hg.cell (rowA_get f n k hk)
  have hz : ((0 : Nat) + k) = k := Nat.zero_add k
  generalize f k = z at *
  go_enter Try.func11, Try.ntmps11
  go_wp2
  go_ret2
  exact ⟨rfl, rfl⟩
theorem rget_no (b g n : Nat) (f : Nat → Int) (w : World) (hs : St w b g f n 39) (hn : n ≤ 8192) (k : Int) (hk : k < 0 ∨ (n : Int) ≤ k) : Calls Try.prog 11 #[.pointer (some ⟨b, 0, none⟩), .int .i64 k] w fun e w' => e = .returned (.tuple #[.int .i64 0, .bool false]) ∧ w = w' := by
  have HS := Lib.hid hs
  obtain ⟨hb, hg, hne⟩ := hs
  have hb0 := hb.cell (i := 0) rfl
  by_cases h : k < 0
  · go_enter Try.func11, Try.ntmps11
    go_wp2
    go_ret2
    exact ⟨rfl, rfl⟩
  · have h2 : (n : Int) ≤ k := by omega
    clear hk
    go_enter Try.func11, Try.ntmps11
    go_wp2
    go_ret2
    exact ⟨rfl, rfl⟩

theorem rput_yes (b g n : Nat) (f : Nat → Int) (w : World) (hs : St w b g f n 39) (hn : n ≤ 8192) (k : Nat) (x : Int) (hk : k < n) : Calls Try.prog 13 #[.pointer (some ⟨b, 0, none⟩), .int .i64 k, .int .i64 x] w fun e w' => e = .returned (.bool true) ∧ St w' b g (upd f k x) n 39 ∧ Touch [g] w w' := by
  have HS := Lib.hid hs
  obtain ⟨hb, hg, hne⟩ := hs
  have hb0 := hb.cell (i := 0) rfl
  have hc := hg.cell (rowA_get f n k hk)
  have hf := hg.free k
  generalize f k = z at *
  go_enter Try.func13, Try.ntmps13
  go_wp2
  go_ret
  refine ⟨rfl, ?_, (Touch.refl _ _).setCell (by simp) _⟩
  exact HS.out.put k x
theorem rput_no (b g n : Nat) (f : Nat → Int) (w : World) (hs : St w b g f n 39) (hn : n ≤ 8192) (k x : Int) (hk : k < 0 ∨ (n : Int) ≤ k) : Calls Try.prog 13 #[.pointer (some ⟨b, 0, none⟩), .int .i64 k, .int .i64 x] w fun e w' => e = .returned (.bool false) ∧ w = w' := by
  have HS := Lib.hid hs
  obtain ⟨hb, hg, hne⟩ := hs
  have hb0 := hb.cell (i := 0) rfl
  by_cases h : k < 0
  · go_enter Try.func13, Try.ntmps13
    go_wp2
    go_ret
    exact ⟨rfl, rfl⟩
  · have h2 : (n : Int) ≤ k := by omega
    clear hk
    go_enter Try.func13, Try.ntmps13
    go_wp2
    go_ret
    exact ⟨rfl, rfl⟩
end Go.Proofs.Ytoobmooagjobnaa
