/-
  The stack: the law's own awakening.
-/
import Derived.Test.YtgljkjjanffncaaT5
set_option linter.unusedVariables false
namespace Go.Proofs.Ytgljkjjanffncaa
open Go.RowKit Go.BigFrame

def aw1 : Nat → Int := upd (fun _ => 0) (2 + 0) 7
def aw2 : Nat → Int := callF aw1 2 1 1 2 9
def aw3 : Nat → Int := upd aw2 (2 + 4) 5
set_option maxRecDepth 100000 in
set_option maxHeartbeats 16000000 in
theorem awake_any (w : World) : Calls Try.prog 7 #[] w fun e w' => e = .returned (.bool true) ∧ Touch [] w w' := by
  go_enter Try.func7, Try.ntmps7
  go_wp2_with fail
  refine (snew_ok 10 (by omega) _).mono ?_
  rintro e w1 ⟨sb, g, rfl, hst, hsb, hg, ht⟩
  have HS := Lib.hid hst
  have HT := Lib.hid ht
  have HB : Hid (w.heap.size ≤ sb ∧ w.heap.size ≤ g) := Lib.hid ⟨hsb, hg⟩
  clear hst ht hsb hg
  go_wp2_with fail
  refine (knew_yes sb g 10 2 5 (fun _ => 0) _ HS.out (by omega) (by omega)).mono ?_
  rintro e w2 ⟨rfl, hk, ht⟩
  have HX : Hid (w.heap.size ≤ w1.heap.size) := Lib.hid HT.out.size
  obtain ⟨k, hkk⟩ : ∃ k, w1.heap.size = k := ⟨_, rfl⟩
  rw [hkk] at hk HX ⊢
  have HK := Lib.hid hk
  have HT := Lib.hid (HT.out.trans ht)
  clear hk ht HS hkk
  go_wp2_with fail
  refine (knew_no sb g 10 6 5 (fun _ => 0) _ HK.out.st (by omega) (by omega) (by omega)).mono ?_
  rintro e w3 ⟨rfl, rfl⟩
  go_wp2_with fail
  refine (knew_nil _).mono ?_
  rintro e w3 ⟨rfl, rfl⟩
  have HP := Lib.hid (push_yes k sb g (fun _ => 0) 10 0 0 0 0 2 5 w2 7 HK.out (by omega))
  go_wp2_with fail
  refine HP.out.mono ?_
  rintro e w3 ⟨rfl, hk, ht⟩
  change Kv w3 k sb g aw1 10 0 0 0 1 2 5 at hk
  have HT := Lib.hid ((HT.out.mono (S' := [k, g]) (by simp)).trans ht)
  have HP := Lib.hid (call_yes k sb g aw1 10 1 2 5 w3 9 1 2 hk (by omega) (by omega) (by omega))
  clear hk ht HK
  go_wp2_with fail
  refine HP.out.mono ?_
  rintro e w4 ⟨rfl, hk, ht⟩
  change Kv w4 k sb g aw2 10 1 0 2 4 2 5 at hk
  have HT := Lib.hid (HT.out.trans ht)
  have HP := Lib.hid (push_yes k sb g aw2 10 1 0 2 4 2 5 w4 5 hk (by omega))
  clear hk ht
  go_wp2_with fail
  refine HP.out.mono ?_
  rintro e w5 ⟨rfl, hk, ht⟩
  change Kv w5 k sb g aw3 10 1 0 2 5 2 5 at hk
  have HT := Lib.hid (HT.out.trans ht)
  have HP := Lib.hid (push_no k sb g aw3 10 1 0 2 5 2 5 w5 6 hk rfl)
  have HK := Lib.hid hk
  clear hk ht
  go_wp2_with fail
  refine HP.out.mono ?_
  rintro e w6 ⟨rfl, ht⟩
  have HT := Lib.hid (HT.out.trans (ht.mono (by simp)))
  have HK := Lib.hid (HK.out.still ht)
  clear ht
  have HP := Lib.hid (local_yes k sb g aw3 10 0 2 5 2 5 w6 1 0 HK.out (by omega) (by omega) (by omega))
  rw [show aw3 (2 + 0 + 0) = 7 from rfl] at HP
  go_wp2_with fail
  refine HP.out.mono ?_
  rintro e w7 ⟨rfl, ht⟩
  have HT := Lib.hid (HT.out.trans (ht.mono (by simp)))
  have HK := Lib.hid (HK.out.still ht)
  clear ht
  have HP := Lib.hid (top_yes k sb g aw3 10 1 0 2 5 2 5 w7 0 HK.out (by decide) (by decide))
  rw [show aw3 (2 + 5 - 1 - 0) = 5 from rfl] at HP
  go_wp2_with fail
  refine HP.out.mono ?_
  rintro e w8 ⟨rfl, ht⟩
  have HT := Lib.hid (HT.out.trans (ht.mono (by simp)))
  have HK := Lib.hid (HK.out.still ht)
  clear ht
  have HP := Lib.hid (ret_yes k sb g aw3 10 0 2 5 2 5 w8 HK.out rfl (by omega))
  rw [show aw3 (2 + 0 + 2) = 9 from rfl] at HP
  go_wp2_with fail
  refine HP.out.mono ?_
  rintro e w9 ⟨rfl, hk, ht⟩
  have HT := Lib.hid (HT.out.trans ht)
  have HK := Lib.hid hk
  have HP := Lib.hid (pop_no k sb g aw3 10 0 0 0 0 2 5 w9 hk rfl)
  clear ht hk
  go_wp2_with fail
  refine HP.out.mono ?_
  rintro e w10 ⟨rfl, ht⟩
  have HT := Lib.hid (HT.out.trans (ht.mono (by simp)))
  have HK := Lib.hid (HK.out.still ht)
  have HP := Lib.hid (len_q k sb g aw3 10 0 0 0 0 2 5 w10 HK.out)
  clear ht
  go_wp2_with fail
  refine HP.out.mono ?_
  rintro e w11 ⟨rfl, rfl⟩
  go_wp2
  go_ret
  refine ⟨rfl, HT.out.fresh ?_⟩
  intro i hi hlt
  have := HB.out
  have := HX.out
  simp at hi
  omega
end Go.Proofs.Ytgljkjjanffncaa
