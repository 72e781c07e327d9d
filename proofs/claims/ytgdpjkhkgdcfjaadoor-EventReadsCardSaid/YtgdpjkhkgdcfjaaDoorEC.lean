/-
  Events in words: the reference's.
-/
import Derived.Test.YtgdpjkhkgdcfjaaDoorEB
set_option linter.unusedVariables false
namespace Go.Proofs.YtgdpjkhkgdcfjaaDoor
open Go Go.RowKit

set_option maxHeartbeats 16000000 in
set_option maxRecDepth 100000 in
theorem retext_any (at' kind pid a b : Int) (h0 : InI at') (h1 : InI pid) (h2 : InI a) (h3 : InI b) (w : World) (hv : Vs w) : Calls Tryd.prog 7 #[.agg #[.int .i64 at', .int .i64 kind, .int .i64 pid, .int .i64 a, .int .i64 b]] w (StrP (textE at' kind pid a b) w) := by
  have HV := Lib.hid hv
  have t0 := (Touch.refl [] w).alloc (.cells #[.int .i64 at', .int .i64 kind, .int .i64 pid, .int .i64 a, .int .i64 b] 23)
  have hbk : Blk (w.alloc (.cells #[.int .i64 at', .int .i64 kind, .int .i64 pid, .int .i64 a, .int .i64 b] 23)) w.heap.size #[.int .i64 at', .int .i64 kind, .int .i64 pid, .int .i64 a, .int .i64 b] 23 := Blk.new rfl
  have HT0 := Lib.hid t0
  have HB := Lib.hid hbk
  obtain ⟨nm, hnm⟩ : ∃ nm, evZ kind = nm := ⟨_, rfl⟩
  have znm := evZ_size kind
  rw [hnm] at znm
  have HNM := Lib.hid hnm
  have hcall : ∀ n, InI n → ∀ w', Touch [] w w' → Calls Tryd.prog 20 #[.int .i64 n] w' fun e w'' => e = .returned (.string (mk (Lib.itoa n))) ∧ Touch [] w' w'' := fun n hn w' ht => itoa_any n hn w' (hv.touch ht)
  have HC0 := Lib.hid (hcall at' h0)
  have HC1 := Lib.hid (hcall pid h1)
  have HC2 := Lib.hid (hcall a h2)
  have HC3 := Lib.hid (hcall b h3)
  have HCN : Hid (∀ w', Calls Tryd.prog 9 #[.int .i64 kind] w' fun e w'' => e = .returned (.string nm) ∧ Touch [] w' w'') := Lib.hid (fun w' => by rw [← hnm]; exact rename_any kind w')
  have z0 := itoa_len h0
  have z1 := itoa_len h1
  have z2 := itoa_len h2
  have z3 := itoa_len h3
  obtain ⟨s0, hs0⟩ : ∃ s, mk (Lib.itoa at') = s := ⟨_, rfl⟩
  obtain ⟨s1, hs1⟩ : ∃ s, mk (Lib.itoa pid) = s := ⟨_, rfl⟩
  obtain ⟨s2, hs2⟩ : ∃ s, mk (Lib.itoa a) = s := ⟨_, rfl⟩
  obtain ⟨s3, hs3⟩ : ∃ s, mk (Lib.itoa b) = s := ⟨_, rfl⟩
  have HX : Hid (1 ≤ kind ∧ kind < 7 → textE at' kind pid a b = s0 ++ mk [32] ++ nm ++ mk [32] ++ s1 ++ mk [32] ++ s2 ++ mk [32] ++ s3) := Lib.hid (fun hin => by
    rw [textE_in hin.1 hin.2, ← tkE_3, ← hs0, ← hs1, ← hs2, ← hs3, ← hnm]
    apply bytes_eq
    show (mk (Lib.itoa at') ++ mk [32] ++ evZ kind ++ (mk [32] ++ mk (Lib.itoa pid)) ++ (mk [32] ++ mk (Lib.itoa a)) ++ (mk [32] ++ mk (Lib.itoa b))).data.toList = _
    simp)
  rw [hs0] at HC0 z0
  rw [hs1] at HC1 z1
  rw [hs2] at HC2 z2
  rw [hs3] at HC3 z3
  clear hv h0 h1 h2 h3 t0 hbk hnm hcall hs0 hs1 hs2 hs3
  by_cases hin : 1 ≤ kind ∧ kind < 7
  · have HXX := Lib.hid (HX.out hin)
    have he := emF (s := nm) (by rw [← HNM.out]; exact evZ_ne hin.1 hin.2)
    have hl := nlF (s := nm) (by rw [← HNM.out]; exact evZ_ne hin.1 hin.2)
    clear hin HX
    go_enter Tryd.func7, Tryd.ntmps7
    go_wp2_with fail
    refine (HCN.out _).mono ?_
    rintro e w1 ⟨rfl, ht1⟩
    have x0 : ∀ q : Later w1, q.world.cell? ⟨w.heap.size, 0, none⟩ = some (.int .i64 at') := fun q => (q.blk (HB.out.touch ht1 (by simp))).cell rfl
    have x1 : ∀ q : Later w1, q.world.cell? ⟨w.heap.size, 1, none⟩ = some (.int .i64 kind) := fun q => (q.blk (HB.out.touch ht1 (by simp))).cell rfl
    have x2 : ∀ q : Later w1, q.world.cell? ⟨w.heap.size, 2, none⟩ = some (.int .i64 pid) := fun q => (q.blk (HB.out.touch ht1 (by simp))).cell rfl
    have x3 : ∀ q : Later w1, q.world.cell? ⟨w.heap.size, 3, none⟩ = some (.int .i64 a) := fun q => (q.blk (HB.out.touch ht1 (by simp))).cell rfl
    have x4 : ∀ q : Later w1, q.world.cell? ⟨w.heap.size, 4, none⟩ = some (.int .i64 b) := fun q => (q.blk (HB.out.touch ht1 (by simp))).cell rfl
    have HT1 := Lib.hid (HT0.out.trans ht1)
    have HTQ : Hid (∀ q : Later w1, Touch [] w q.world) := Lib.hid (fun q => HT1.out.trans q.ok)
    clear ht1
    go_wp2_with fail
    refine wp_region_later (by kernel_rfl) (by kernel_rfl) ?_
    repeat (first
      | (go_big_quiet_step ((first | (with_reducible rfl) | exact Later.met (HC0.out _ (HTQ.out _)) | exact Later.met (HC1.out _ (HTQ.out _)) | exact Later.met (HC2.out _ (HTQ.out _)) | exact Later.met (HC3.out _ (HTQ.out _)) | exact Later.met (HCN.out _))))
      | (quiet_step (fail)))
    refine wpQuiet_nil ?_
    intro wq hw'
    obtain ⟨⟨wq', hwq⟩, hwe⟩ := hw'
    have hwe : wq = wq' := hwe
    subst hwe
    have HTW := Lib.hid (HT1.out.trans hwq)
    clear hwe hwq x0 x1 x2 x3 x4
    go_wp2
    go_ret
    exact ⟨by rw [HXX.out]; rfl, HTW.out⟩
  · have HXX : Hid (textE at' kind pid a b = ByteArray.empty) := Lib.hid (textE_out (by omega))
    have hnm : nm = ByteArray.empty := by rw [← HNM.out]; exact evZ_out (by omega)
    clear hin HX
    subst hnm
    go_enter Tryd.func7, Tryd.ntmps7
    go_wp2_with fail
    refine (HCN.out _).mono ?_
    rintro e w1 ⟨rfl, ht1⟩
    have HT1 := Lib.hid (HT0.out.trans ht1)
    clear ht1
    go_wp2
    go_ret
    exact ⟨by rw [HXX.out]; rfl, HT1.out⟩
end Go.Proofs.YtgdpjkhkgdcfjaaDoor
