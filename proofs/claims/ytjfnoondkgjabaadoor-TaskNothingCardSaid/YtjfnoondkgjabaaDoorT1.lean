/-
  Words: contracts of the two packages' stores, New, Len, Get, Put.
-/
import Derived.Test.YtjfnoondkgjabaaDoorRows
import Derived.Test.YtjfnoondkgjabaaDoorS
import Derived.Lib.SliceRun
set_option linter.unusedVariables false
namespace Go.Proofs.YtjfnoondkgjabaaDoor
open Go.RowKit

theorem run_mk (n : Nat) (hn : n ≤ 1000000) (w : World) : (Instr.makeSlice 29 (.int .i64 (n : Int)) (.int .i64 (n : Int))).run Tryd.prog w = .ok (.slice (some ⟨w.heap.size, 0, none⟩) n n) (w.alloc (.cells (rowA (fun _ => 0) n) 3)) :=
  run_mk_of 29 3 Tryd.underlying29 (by kernel_rfl) n hn w

/-- A store at block b: its words are block g, f of them by place, n in all. -/
def St (w : World) (b g : Nat) (f : Nat → Int) (n : Nat) (T : TypeId) : Prop := Blk w b #[.slice (some ⟨g, 0, none⟩) n n] T ∧ Blk w g (rowA f n) 3 ∧ b ≠ g
def upd (f : Nat → Int) (k : Nat) (x : Int) : Nat → Int := fun j => if j = k then x else f j
theorem St.put {w : World} {b g n : Nat} {f : Nat → Int} {T : TypeId} (h : St w b g f n T) (k : Nat) (x : Int) : St (w.setCell ⟨g, k, none⟩ (.int .i64 x)) b g (upd f k x) n T := by
  obtain ⟨hb, hg, hne⟩ := h
  refine ⟨hb.other hne _, ?_, hne⟩
  have := hg.set k (.int .i64 x)
  rw [rowA_set] at this
  exact this
theorem St.touch {w w' : World} {b g n : Nat} {f : Nat → Int} {T : TypeId} {S : List Nat} (h : St w b g f n T) (ht : Touch S w w') (hb : b ∉ S) (hg : g ∉ S) : St w' b g f n T :=
  ⟨h.1.touch ht hb, h.2.1.touch ht hg, h.2.2⟩
theorem St.congr {w : World} {b g n : Nat} {f f' : Nat → Int} {T : TypeId} (h : St w b g f n T) (hf : ∀ j, j < n → f j = f' j) : St w b g f' n T := by
  obtain ⟨hb, hg, hne⟩ := h
  exact ⟨hb, by rw [← rowA_congr hf]; exact hg, hne⟩
theorem St.drewN {w : World} {b g n : Nat} {f : Nat → Int} {T : TypeId} (h : St w b g f n T) (m : Nat) : St (w.drewN m) b g f n T := h

def sNewPost (n : Nat) (w : World) (e : Ending) (w' : World) : Prop :=
  ∃ b g, e = .returned (.tuple #[.pointer (some ⟨b, 0, none⟩), .int .i64 0]) ∧ St w' b g (fun _ => 0) n 56 ∧ w.heap.size ≤ b ∧ w.heap.size ≤ g ∧ Touch [] w w'
set_option maxHeartbeats 1000000 in
theorem snew_ok (n : Nat) (hn : n ≤ 8192) (w : World) : Calls Tryd.prog 5 #[.int .i64 n] w (sNewPost n w) := by
  have hmk := fun w => run_mk n (by omega) w
  go_enter Tryd.func5, Tryd.ntmps5
  go_wp2
  go_ret2
  refine ⟨w.heap.size + 1, w.heap.size, rfl, ⟨?_, ?_, by omega⟩, by omega, by omega, ?_⟩
  · exact Blk.new (by simp)
  · exact (Blk.new rfl).alloc _
  · exact ((Touch.refl _ _).alloc _).alloc _
theorem snew_bad (n : Int) (h : n < 0 ∨ 8192 < n) (w : World) : Calls Tryd.prog 5 #[.int .i64 n] w fun e w' => e = .returned (.tuple #[.pointer none, .int .i64 1]) ∧ w = w' := by
  rcases h with h | h
  · go_enter Tryd.func5, Tryd.ntmps5
    go_wp2
    go_ret2
    exact ⟨rfl, rfl⟩
  · have h2 : ¬ n < 0 := by omega
    go_enter Tryd.func5, Tryd.ntmps5
    go_wp2
    go_ret2
    exact ⟨rfl, rfl⟩

theorem slen (b g n : Nat) (f : Nat → Int) (w : World) (hs : St w b g f n 56) (hn : n ≤ 8192) : Calls Tryd.prog 14 #[.pointer (some ⟨b, 0, none⟩)] w fun e w' => e = .returned (.int .i64 n) ∧ w = w' := by
  obtain ⟨hb, hg, hne⟩ := hs
  have hb0 := hb.cell (i := 0) rfl
  go_enter Tryd.func14, Tryd.ntmps14
  go_wp2
  go_ret
  exact ⟨rfl, rfl⟩
theorem slen_nil (w : World) : Calls Tryd.prog 14 #[.pointer none] w fun e w' => e = .returned (.int .i64 0) ∧ w = w' := by
  go_enter Tryd.func14, Tryd.ntmps14
  go_wp2
  go_ret
  exact ⟨rfl, rfl⟩

theorem sget_yes (b g n : Nat) (f : Nat → Int) (w : World) (hs : St w b g f n 56) (hn : n ≤ 8192) (k : Nat) (hk : k < n) : Calls Tryd.prog 37 #[.pointer (some ⟨b, 0, none⟩), .int .i64 k] w fun e w' => e = .returned (.tuple #[.int .i64 (f k), .bool true]) ∧ w = w' := by
  have HS := Lib.hid hs
  obtain ⟨hb, hg, hne⟩ := hs
  have hb0 := hb.cell (i := 0) rfl
  have hc := hg.cell (rowA_get f n k hk)
  have hz : ((0 : Nat) + k) = k := Nat.zero_add k
  generalize f k = z at *
  go_enter Tryd.func37, Tryd.ntmps37
  go_wp2_with fail
  refine (slen _ _ _ _ _ HS.out hn).mono ?_
  rintro e w' ⟨rfl, rfl⟩
  go_wp2
  go_ret2
  exact ⟨rfl, rfl⟩
theorem sget_no (b g n : Nat) (f : Nat → Int) (w : World) (hs : St w b g f n 56) (hn : n ≤ 8192) (k : Int) (hk : k < 0 ∨ (n : Int) ≤ k) : Calls Tryd.prog 37 #[.pointer (some ⟨b, 0, none⟩), .int .i64 k] w fun e w' => e = .returned (.tuple #[.int .i64 0, .bool false]) ∧ w = w' := by
  have HS := Lib.hid hs
  obtain ⟨hb, hg, hne⟩ := hs
  have hb0 := hb.cell (i := 0) rfl
  by_cases h : k < 0
  · go_enter Tryd.func37, Tryd.ntmps37
    go_wp2
    go_ret2
    exact ⟨rfl, rfl⟩
  · have h2 : (n : Int) ≤ k := by omega
    clear hk
    go_enter Tryd.func37, Tryd.ntmps37
    go_wp2_with fail
    refine (slen _ _ _ _ _ HS.out hn).mono ?_
    rintro e w' ⟨rfl, rfl⟩
    go_wp2
    go_ret2
    exact ⟨rfl, rfl⟩

theorem sput_yes (b g n : Nat) (f : Nat → Int) (w : World) (hs : St w b g f n 56) (hn : n ≤ 8192) (k : Nat) (x : Int) (hk : k < n) : Calls Tryd.prog 38 #[.pointer (some ⟨b, 0, none⟩), .int .i64 k, .int .i64 x] w fun e w' => e = .returned (.bool true) ∧ St w' b g (upd f k x) n 56 ∧ Touch [g] w w' := by
  have HS := Lib.hid hs
  obtain ⟨hb, hg, hne⟩ := hs
  have hb0 := hb.cell (i := 0) rfl
  have hc := hg.cell (rowA_get f n k hk)
  have hf := hg.free k
  generalize f k = z at *
  go_enter Tryd.func38, Tryd.ntmps38
  go_wp2_with fail
  refine (slen _ _ _ _ _ HS.out hn).mono ?_
  rintro e w' ⟨rfl, rfl⟩
  go_wp2
  go_ret
  refine ⟨rfl, ?_, (Touch.refl _ _).setCell (by simp) _⟩
  exact HS.out.put k x
theorem sput_no (b g n : Nat) (f : Nat → Int) (w : World) (hs : St w b g f n 56) (hn : n ≤ 8192) (k x : Int) (hk : k < 0 ∨ (n : Int) ≤ k) : Calls Tryd.prog 38 #[.pointer (some ⟨b, 0, none⟩), .int .i64 k, .int .i64 x] w fun e w' => e = .returned (.bool false) ∧ w = w' := by
  have HS := Lib.hid hs
  obtain ⟨hb, hg, hne⟩ := hs
  have hb0 := hb.cell (i := 0) rfl
  by_cases h : k < 0
  · go_enter Tryd.func38, Tryd.ntmps38
    go_wp2
    go_ret
    exact ⟨rfl, rfl⟩
  · have h2 : (n : Int) ≤ k := by omega
    clear hk
    go_enter Tryd.func38, Tryd.ntmps38
    go_wp2_with fail
    refine (slen _ _ _ _ _ HS.out hn).mono ?_
    rintro e w' ⟨rfl, rfl⟩
    go_wp2
    go_ret
    exact ⟨rfl, rfl⟩

def clr (f : Nat → Int) (k m : Nat) : Nat → Int := fun j => if k ≤ j ∧ j < k + m then 0 else f j
theorem clr_zero (f : Nat → Int) (k : Nat) : clr f k 0 = f := by funext j; unfold clr; rw [if_neg (by omega)]
theorem clr_succ (f : Nat → Int) (k m : Nat) : clr (upd f k 0) (k + 1) m = clr f k (m + 1) := by
  funext j
  unfold clr upd
  by_cases h : j = k
  · subst h; rw [if_neg (by omega), if_pos rfl, if_pos (by omega)]
  · by_cases h2 : k + 1 ≤ j ∧ j < k + 1 + m
    · rw [if_pos h2, if_pos (by omega)]
    · rw [if_neg h2, if_neg h, if_neg (by omega)]
theorem clr_last (f : Nat → Int) (k m : Nat) : upd (clr f k m) (k + m) 0 = clr f k (m + 1) := by
  funext j
  show (if j = k + m then 0 else clr f k m j) = clr f k (m + 1) j
  unfold clr
  by_cases h : j = k + m
  · subst h; rw [if_pos rfl, if_pos (by omega)]
  · rw [if_neg h]
    by_cases h2 : k ≤ j ∧ j < k + m
    · rw [if_pos h2, if_pos (by omega)]
    · rw [if_neg h2, if_neg (by omega)]
theorem setCells_st (T : TypeId) (b g n : Nat) : ∀ (m : Nat) (f : Nat → Int) (k : Nat) (w : World), St w b g f n T → St (w.setCells g k (List.replicate m (.int .i64 0))) b g (clr f k m) n T ∧ Touch [g] w (w.setCells g k (List.replicate m (.int .i64 0)))
  | 0, f, k, w, h => by rw [clr_zero]; exact ⟨h, Touch.refl _ _⟩
  | m + 1, f, k, w, h => by
    rw [List.replicate_succ, World.setCells]
    obtain ⟨h1, h2⟩ := setCells_st T b g n m (upd f k 0) (k + 1) _ (h.put k 0)
    rw [clr_succ] at h1
    exact ⟨h1, ((Touch.refl [g] w).setCell (by simp) _).trans h2⟩

set_option maxHeartbeats 1000000 in
theorem sclear_yes (b g n : Nat) (f : Nat → Int) (w : World) (hs : St w b g f n 56) (hn : n ≤ 8192) (k m : Nat) (hk : k + m ≤ n) :
    Calls Tryd.prog 33 #[.pointer (some ⟨b, 0, none⟩), .int .i64 k, .int .i64 m] w fun e w' => e = .returned (.bool true) ∧ St w' b g (clr f k m) n 56 ∧ Touch [g] w w' := by
  have HS := Lib.hid hs
  have hset := setCells_st _ b g n m f k w hs
  have HT := Lib.hid hset
  clear hset
  have hz0 : ∀ w, (zeroValue 3).run Tryd.prog w = .ok (.int .i64 0) w := fun w => by kernel_rfl
  have hcl : 0 < m → ∀ ty, (Builtin.clear_ #[29] ty #[.slice (some ⟨g, k, none⟩) m m]).run Tryd.prog w = .ok (.tuple #[]) (w.setCells g k (List.replicate m (.int .i64 0))) := fun h ty =>
    Lib.run_clear_slice w _ _ ty _ Tryd.underlying29 hz0 rfl rfl g k _ _ h (fun j hj => by rw [hs.2.1.cell (rowA_get f n (k + j) (by omega))]; rfl) (fun j hj => hs.2.1.free _)
  clear hz0
  obtain ⟨hb, hg, hne⟩ := hs
  have hb0 := hb.cell (i := 0) rfl
  by_cases hm : m = 0
  · subst hm
    clear hcl
    have hcl0 : ∀ ty, (Builtin.clear_ #[29] ty #[.slice (some ⟨g, 0, none⟩) 0 0]).run Tryd.prog w = .ok (.tuple #[]) w := fun ty => by
      simp [Builtin.clear_, run_underlying Tryd.underlying29]
    go_enter Tryd.func33, Tryd.ntmps33
    go_wp2_with fail
    refine (slen _ _ _ _ _ HS.out hn).mono ?_
    rintro e w' ⟨rfl, rfl⟩
    go_wp2_with fail
    refine (slen _ _ _ _ _ HS.out hn).mono ?_
    rintro e w' ⟨rfl, rfl⟩
    go_wp2
    go_ret
    rw [clr_zero]
    exact ⟨rfl, HS.out, Touch.refl _ _⟩
  · have hcl2 := hcl (by omega)
    clear hcl
    have hm1 : 0 < m := by omega
    go_enter Tryd.func33, Tryd.ntmps33
    go_wp2_with fail
    refine (slen _ _ _ _ _ HS.out hn).mono ?_
    rintro e w' ⟨rfl, rfl⟩
    go_wp2_with fail
    refine (slen _ _ _ _ _ HS.out hn).mono ?_
    rintro e w' ⟨rfl, rfl⟩
    go_wp2
    go_ret
    exact ⟨rfl, HT.out⟩

set_option maxHeartbeats 1000000 in
theorem sclear_no (b g n : Nat) (f : Nat → Int) (w : World) (hs : St w b g f n 56) (hn : n ≤ 8192) (k m : Int) (hk : InI k) (hm : InI m) (h : k < 0 ∨ m < 0 ∨ (n : Int) < k ∨ (n : Int) - k < m) :
    Calls Tryd.prog 33 #[.pointer (some ⟨b, 0, none⟩), .int .i64 k, .int .i64 m] w fun e w' => e = .returned (.bool false) ∧ w = w' := by
  have HS := Lib.hid hs
  obtain ⟨hb, hg, hne⟩ := hs
  have hb0 := hb.cell (i := 0) rfl
  obtain ⟨k1, k2⟩ := hk
  by_cases c1 : k < 0
  · clear h
    go_enter Tryd.func33, Tryd.ntmps33
    go_wp2
    go_ret
    exact ⟨rfl, rfl⟩
  · by_cases c2 : m < 0
    · clear h
      go_enter Tryd.func33, Tryd.ntmps33
      go_wp2
      go_ret
      exact ⟨rfl, rfl⟩
    · by_cases c3 : (n : Int) < k
      · clear h
        go_enter Tryd.func33, Tryd.ntmps33
        go_wp2_with fail
        refine (slen _ _ _ _ _ HS.out hn).mono ?_
        rintro e w' ⟨rfl, rfl⟩
        go_wp2
        go_ret
        exact ⟨rfl, rfl⟩
      · have c4 : (n : Int) - k < m := by omega
        clear h
        go_enter Tryd.func33, Tryd.ntmps33
        go_wp2_with fail
        refine (slen _ _ _ _ _ HS.out hn).mono ?_
        rintro e w' ⟨rfl, rfl⟩
        go_wp2_with fail
        refine (slen _ _ _ _ _ HS.out hn).mono ?_
        rintro e w' ⟨rfl, rfl⟩
        go_wp2
        go_ret
        exact ⟨rfl, rfl⟩

def inB (n : Nat) (k : Int) : Bool := decide (0 ≤ k ∧ k < n)
def getV (f : Nat → Int) (n : Nat) (k : Int) : Int := if inB n k = true then f k.toNat else 0
def putF (f : Nat → Int) (n : Nat) (k x : Int) : Nat → Int := if inB n k = true then upd f k.toNat x else f
def clrB (n : Nat) (k m : Int) : Bool := decide (0 ≤ k ∧ 0 ≤ m ∧ k + m ≤ n)
def clrF (f : Nat → Int) (n : Nat) (k m : Int) : Nat → Int := if clrB n k m = true then clr f k.toNat m.toNat else f

theorem sget (b g n : Nat) (f : Nat → Int) (w : World) (hs : St w b g f n 56) (hn : n ≤ 8192) (k : Int) :
    Calls Tryd.prog 37 #[.pointer (some ⟨b, 0, none⟩), .int .i64 k] w fun e w' => e = .returned (.tuple #[.int .i64 (getV f n k), .bool (inB n k)]) ∧ w = w' := by
  unfold getV
  by_cases h : 0 ≤ k ∧ k < n
  · rw [show inB n k = true from dT h, if_pos rfl]
    obtain ⟨q, rfl⟩ : ∃ q : Nat, k = q := ⟨k.toNat, by omega⟩
    exact sget_yes b g n f w hs hn q (by omega)
  · rw [show inB n k = false from dF h, if_neg (by simp)]
    exact sget_no b g n f w hs hn k (by omega)
theorem sput (b g n : Nat) (f : Nat → Int) (w : World) (hs : St w b g f n 56) (hn : n ≤ 8192) (k x : Int) :
    Calls Tryd.prog 38 #[.pointer (some ⟨b, 0, none⟩), .int .i64 k, .int .i64 x] w fun e w' => e = .returned (.bool (inB n k)) ∧ St w' b g (putF f n k x) n 56 ∧ Touch [g] w w' := by
  unfold putF
  by_cases h : 0 ≤ k ∧ k < n
  · rw [show inB n k = true from dT h, if_pos rfl]
    obtain ⟨q, rfl⟩ : ∃ q : Nat, k = q := ⟨k.toNat, by omega⟩
    exact sput_yes b g n f w hs hn q x (by omega)
  · rw [show inB n k = false from dF h, if_neg (by simp)]
    exact (sput_no b g n f w hs hn k x (by omega)).mono (by rintro e w' ⟨he, rfl⟩; exact ⟨he, hs, Touch.refl _ _⟩)

theorem sclear (b g n : Nat) (f : Nat → Int) (w : World) (hs : St w b g f n 56) (hn : n ≤ 8192) (k m : Int) (hk : InI k) (hm : InI m) :
    Calls Tryd.prog 33 #[.pointer (some ⟨b, 0, none⟩), .int .i64 k, .int .i64 m] w fun e w' => e = .returned (.bool (clrB n k m)) ∧ St w' b g (clrF f n k m) n 56 ∧ Touch [g] w w' := by
  unfold clrF
  by_cases h : 0 ≤ k ∧ 0 ≤ m ∧ k + m ≤ n
  · rw [show clrB n k m = true from dT h, if_pos rfl]
    obtain ⟨q, rfl⟩ : ∃ q : Nat, k = q := ⟨k.toNat, by omega⟩
    obtain ⟨p, rfl⟩ : ∃ p : Nat, m = p := ⟨m.toNat, by omega⟩
    exact sclear_yes b g n f w hs hn q p (by omega)
  · rw [show clrB n k m = false from dF h, if_neg (by simp)]
    exact (sclear_no b g n f w hs hn k m hk hm (by omega)).mono (by rintro e w' ⟨he, rfl⟩; exact ⟨he, hs, Touch.refl _ _⟩)

/-! Of no store. -/
theorem snil_get (k : Int) (w : World) : Calls Tryd.prog 37 #[.pointer none, .int .i64 k] w fun e w' => e = .returned (.tuple #[.int .i64 0, .bool false]) ∧ w = w' := by
  by_cases h : k < 0
  · go_enter Tryd.func37, Tryd.ntmps37
    go_wp2
    go_ret2
    exact ⟨rfl, rfl⟩
  · go_enter Tryd.func37, Tryd.ntmps37
    go_wp2_with fail
    refine (slen_nil _).mono ?_
    rintro e w' ⟨rfl, rfl⟩
    go_wp2
    go_ret2
    exact ⟨rfl, rfl⟩
theorem snil_put (k x : Int) (w : World) : Calls Tryd.prog 38 #[.pointer none, .int .i64 k, .int .i64 x] w fun e w' => e = .returned (.bool false) ∧ w = w' := by
  by_cases h : k < 0
  · go_enter Tryd.func38, Tryd.ntmps38
    go_wp2
    go_ret
    exact ⟨rfl, rfl⟩
  · go_enter Tryd.func38, Tryd.ntmps38
    go_wp2_with fail
    refine (slen_nil _).mono ?_
    rintro e w' ⟨rfl, rfl⟩
    go_wp2
    go_ret
    exact ⟨rfl, rfl⟩
end Go.Proofs.YtjfnoondkgjabaaDoor
