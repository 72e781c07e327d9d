/-
  Who descends from one: the list, and the program's inner function.
-/
import Derived.Test.YtjcbcbhiophkfaaZ8
import Derived.Test.YtjcbcbhiophkfaaMP
import Derived.Deep.RegionHeld3
import Derived.Deep.Cut
set_option linter.unusedVariables false
namespace Go.Proofs.Ytjcbcbhiophkfaa
open Go.RowKit Go.BigFrame

/-- Those among the first k who descend from pid. -/
def und (ps : Nat → Nat → Int) (pid : Int) : Nat → List Int
  | 0 => []
  | k + 1 => if ps k 1 = pid ∨ ps k 1 ∈ und ps pid k then und ps pid k ++ [(k : Int) + 1] else und ps pid k
/-- A parent's number is below its child's. -/
def ParOk (n : Nat) (ps : Nat → Nat → Int) : Prop := ∀ i, i < n → 0 ≤ ps i 1 ∧ ps i 1 ≤ i
theorem und_le {ps : Nat → Nat → Int} {pid x : Int} : ∀ {k : Nat}, x ∈ und ps pid k → 1 ≤ x ∧ x ≤ k
  | 0, h => by simp [und] at h
  | k + 1, h => by
    unfold und at h
    split at h
    · rw [List.mem_append, List.mem_singleton] at h
      rcases h with h | rfl
      · have := und_le h; omega
      · omega
    · have := und_le h; omega
theorem und_up {ps : Nat → Nat → Int} {pid x : Int} {k : Nat} : ∀ {n : Nat}, k ≤ n → (x ∈ und ps pid k ↔ x ∈ und ps pid n ∧ x ≤ k)
  | 0, h => by obtain rfl : k = 0 := by omega
               exact ⟨fun h => ⟨h, (und_le h).2⟩, fun h => h.1⟩
  | n + 1, h => by
    by_cases e : k = n + 1
    · subst e; exact ⟨fun h => ⟨h, (und_le h).2⟩, fun h => h.1⟩
    · rw [und_up (n := n) (by omega)]
      have : x ≤ k → (x ∈ und ps pid (n + 1) ↔ x ∈ und ps pid n) := fun hx => by
        show (x ∈ if _ then _ else _) ↔ _
        split
        · rw [List.mem_append, List.mem_singleton]
          exact ⟨fun h => h.elim id (fun e => by omega), .inl⟩
        · exact Iff.rfl
      constructor
      · rintro ⟨h1, h2⟩; exact ⟨(this h2).2 h1, h2⟩
      · rintro ⟨h1, h2⟩; exact ⟨(this h2).1 h1, h2⟩
def ubB (ps : Nat → Nat → Int) (n : Nat) (pid q : Int) : Bool := decide (q = pid ∨ q ∈ und ps pid n)
theorem und_next {ps : Nat → Nat → Int} {pid : Int} {n k : Nat} (hp : ParOk n ps) (hk : k < n) : ((k : Int) + 1 ∈ und ps pid n) ↔ (ps k 1 = pid ∨ ps k 1 ∈ und ps pid n) := by
  have h1 := (und_up (ps := ps) (pid := pid) (x := (k : Int) + 1) (k := k + 1) (n := n) hk)
  have h2 := (und_up (ps := ps) (pid := pid) (x := ps k 1) (k := k) (n := n) (by omega))
  have h3 : ((k : Int) + 1 ∈ und ps pid (k + 1)) ↔ (ps k 1 = pid ∨ ps k 1 ∈ und ps pid k) := by
    show ((k : Int) + 1 ∈ if _ then _ else _) ↔ _
    split
    · rename_i h; simp [h]
    · rename_i h
      refine ⟨fun hm => ?_, fun hm => absurd hm h⟩
      have := und_le hm; omega
  have h4 := (hp k hk).2
  constructor
  · intro h
    rcases h3.1 (h1.2 ⟨h, by omega⟩) with e | e
    · exact .inl e
    · exact .inr (h2.1 e).1
  · rintro (e | e)
    · exact (h1.1 (h3.2 (.inl e))).1
    · exact (h1.1 (h3.2 (.inr (h2.2 ⟨e, h4⟩)))).1
theorem und_gt {ps : Nat → Nat → Int} {pid : Int} {n : Nat} (hp : ParOk n ps) : ∀ {k : Nat}, k ≤ n → ∀ {x : Int}, x ∈ und ps pid k → pid < x
  | 0, _, x, h => by simp [und] at h
  | k + 1, hk, x, h => by
    unfold und at h
    split at h
    · rename_i hc
      rw [List.mem_append, List.mem_singleton] at h
      rcases h with h | rfl
      · exact und_gt hp (by omega) h
      · have := (hp k (by omega)).2
        rcases hc with e | e
        · omega
        · have := und_gt hp (by omega) e; omega
    · exact und_gt hp (by omega) h
theorem ub_next {ps : Nat → Nat → Int} {pid : Int} {n k : Nat} (hp : ParOk n ps) (hk : k < n) (hne : pid < (k : Int) + 1) : ubB ps n pid ((k : Int) + 1) = ubB ps n pid (ps k 1) := by
  unfold ubB
  have := und_next (pid := pid) hp hk
  by_cases h : ps k 1 = pid ∨ ps k 1 ∈ und ps pid n
  · rw [dT h, dT (.inr (this.2 h))]
  · rw [dF h, dF (fun e => h (e.elim (fun e => by omega) this.1))]
theorem ub_low {ps : Nat → Nat → Int} {pid q : Int} {n : Nat} (hp : ParOk n ps) (hq : q < pid) : ubB ps n pid q = false := dF (fun e => by
  rcases e with e | e
  · omega
  · have := und_gt hp (Nat.le_refl n) e; omega)
/-- What is known: nothing wrong, and all from pid up to j. -/
def Kn (w : World) (mb : Nat) (ps : Nat → Nat → Int) (n : Nat) (pid : Int) (j : Int) : Prop := ∃ m c, Mp (Value.int .i64) w mb m c ∧ (∀ p v, m p = some v → v = .bool (ubB ps n pid p)) ∧ ∀ p, pid ≤ p → p ≤ j → (m p).isSome = true
theorem Kn.touch {w w' : World} {mb : Nat} {ps : Nat → Nat → Int} {n : Nat} {pid j : Int} {L : List Nat} (h : Kn w mb ps n pid j) (ht : Touch L w w') (hb : mb ∉ L) : Kn w' mb ps n pid j := by
  obtain ⟨m, c, h1, h2⟩ := h
  exact ⟨m, c, h1.touch ht hb, h2⟩
/-- The boxes of what the inner function uses. -/
structure Ev (w : World) (kb pb ub tb mb b : Nat) (pid : Int) : Prop where
  k : Blk w kb #[.map (some mb)] 79
  p : Blk w pb #[.int .i64 pid] 3
  u : Blk w ub #[.func (.func 45) #[] #[.pointer (some ⟨kb, 0, none⟩), .pointer (some ⟨pb, 0, none⟩), .pointer (some ⟨ub, 0, none⟩), .pointer (some ⟨tb, 0, none⟩)]] 64
  t : Blk w tb #[.pointer (some ⟨b, 0, none⟩)] 24
  ap : mb ≠ kb ∧ mb ≠ pb ∧ mb ≠ ub ∧ mb ≠ tb
theorem Ev.touch {w w' : World} {kb pb ub tb mb b : Nat} {pid : Int} {L : List Nat} (h : Ev w kb pb ub tb mb b pid) (ht : Touch L w w') (hL : ∀ x ∈ L, x = mb ∨ w.heap.size ≤ x) : Ev w' kb pb ub tb mb b pid := by
  have f : ∀ {x : Nat}, x < w.heap.size → mb ≠ x → x ∉ L := fun hx hne hm => by
    rcases hL _ hm with e | e
    · exact hne e.symm
    · omega
  exact ⟨h.k.touch ht (f h.k.lt h.ap.1), h.p.touch ht (f h.p.lt h.ap.2.1), h.u.touch ht (f h.u.lt h.ap.2.2.1), h.t.touch ht (f h.t.lt h.ap.2.2.2), h.ap⟩
theorem zeroB (w : World) : (zeroValue 4).run Try.prog w = .ok (.bool false) w := by kernel_rfl
theorem kn_look {w : World} {mb : Nat} {m : Int → Option Value} {c : Nat} (h : Mp (Value.int .i64) w mb m c) (q : Int) : (Instr.lookup 79 (.map (some mb)) (.int .i64 q) true).run Try.prog w = .ok (.tuple #[(m q).getD (.bool false), .bool (m q).isSome]) w :=
  h.lookOk intKey Try.underlying79 Try.underlying3 (zeroB w) q
def UnP (mb : Nat) (ps : Nat → Nat → Int) (n : Nat) (pid j q : Int) (w : World) (e : Ending) (w' : World) : Prop := e = .returned (.bool (ubB ps n pid q)) ∧ Kn w' mb ps n pid j ∧ Touch [mb] w w'
section
variable (kb pb ub tb mb b : Nat) (ps : Nat → Nat → Int) (n : Nat) (pid j : Int) (w : World)
set_option maxHeartbeats 8000000 in
theorem under_low (q : Int) (hp : ParOk n ps) (he : Ev w kb pb ub tb mb b pid) (hk : Kn w mb ps n pid j) (hq : q ≤ j) :
    Calls Try.prog 45 #[.int .i64 q, .pointer (some ⟨kb, 0, none⟩), .pointer (some ⟨pb, 0, none⟩), .pointer (some ⟨ub, 0, none⟩), .pointer (some ⟨tb, 0, none⟩)] w (UnP mb ps n pid j q w) := by
  have HK := Lib.hid hk
  have HE := Lib.hid he
  obtain ⟨m, c, h1, h2, h3⟩ := hk
  have hlk := kn_look h1 q
  have y1 := he.k.cell (i := 0) rfl
  cases hm : m q with
  | some v =>
    have hv := h2 q v hm
    rw [hm] at hlk
    subst hv
    obtain ⟨ub', hub⟩ : ∃ x, ubB ps n pid q = x := ⟨_, rfl⟩
    simp only [Option.getD_some, Option.isSome_some] at hlk
    rw [hub] at hlk
    have HU := Lib.hid hub
    clear he hm h1 h2 h3 hub
    go_enter Try.func45, Try.ntmps45
    go_wp2
    go_ret
    exact ⟨by rw [HU.out]; rfl, HK.out, Touch.refl _ _⟩
  | none =>
    have hlt : q < pid := by
      rcases Int.lt_or_le q pid with h | h
      · exact h
      · have := h3 q h hq; rw [hm] at this; cases this
    rw [hm] at hlk
    simp only [Option.getD_none, Option.isSome_none] at hlk
    have hul := ub_low (ps := ps) (n := n) hp hlt
    have HM := Lib.hid h1
    have HF := Lib.hid (And.intro h2 h3)
    have HU := Lib.hid hul
    have d : decide (pid < q) = false := dF (by omega)
    have x2 := fun qq : Later w => (he.p.touch qq.ok (by simp)).cell (i := 0) rfl
    clear hm h1 h2 h3 hul HK he
    go_enter Try.func45, Try.ntmps45
    go_wp2_with fail
    refine wp_region_later (by kernel_rfl) (by kernel_rfl) ?_
    repeat (first
      | (go_big_quiet_step ((with_reducible rfl)))
      | (quiet_step (fail)))
    refine wpQuiet_nil ?_
    intro wq hw'
    obtain ⟨⟨wq', hwq⟩, hwe⟩ := hw'
    have hwe : wq = wq' := hwe
    subst hwe
    have HT := Lib.hid hwq
    have y2 := (HE.out.k.touch hwq (by simp)).cell (i := 0) rfl
    obtain ⟨w2, hup, hm2, t2, hs2⟩ := (HM.out.touch hwq (by simp)).put intKey Try.underlying79 Try.underlying3 q (.bool false)
    have HK2 : Hid (Kn w2 mb ps n pid j) := Lib.hid ⟨_, _, hm2, fun p v hv => by
      unfold putM at hv
      by_cases e : p = q
      · subst e; rw [if_pos rfl] at hv; cases hv; rw [HU.out]
      · rw [if_neg e] at hv; exact HF.out.1 p v hv, fun p e1 e2 => by
      unfold putM
      by_cases e : p = q
      · rw [if_pos e]; rfl
      · rw [if_neg e]; exact HF.out.2 p e1 e2⟩
    have HT2 : Hid (Touch [mb] w w2) := Lib.hid ((hwq.mono (by simp)).trans t2)
    clear hwe hwq x2 hm2 t2 hs2
    go_wp2
    go_ret
    exact ⟨by rw [HU.out]; rfl, HK2.out, HT2.out⟩
set_option maxHeartbeats 16000000 in
theorem under_next (F : List Nat) (most : Int) (live : List Int) (k : Nat) (hp : ParOk n ps) (hkn : k < n) (hn : n ≤ 9000) (ht : Pt w b F most n ps live) (hF : mb ∉ F) (he : Ev w kb pb ub tb mb b pid) (hk : Kn w mb ps n pid k) (hq : pid < (k : Int) + 1) :
    Calls Try.prog 45 #[.int .i64 ((k : Int) + 1), .pointer (some ⟨kb, 0, none⟩), .pointer (some ⟨pb, 0, none⟩), .pointer (some ⟨ub, 0, none⟩), .pointer (some ⟨tb, 0, none⟩)] w (UnP mb ps n pid ((k : Int) + 1) ((k : Int) + 1) w) := by
  have HK := Lib.hid hk
  have HE := Lib.hid he
  have HP := Lib.hid hp
  obtain ⟨m, c, h1, h2, h3⟩ := hk
  have hlk := kn_look h1 ((k : Int) + 1)
  have y1 := he.k.cell (i := 0) rfl
  cases hm : m ((k : Int) + 1) with
  | some v =>
    have hv := h2 _ v hm
    rw [hm] at hlk
    subst hv
    obtain ⟨ub', hub⟩ : ∃ x, ubB ps n pid ((k : Int) + 1) = x := ⟨_, rfl⟩
    simp only [Option.getD_some, Option.isSome_some] at hlk
    rw [hub] at hlk
    have HU := Lib.hid hub
    have HK2 : Hid (Kn w mb ps n pid ((k : Int) + 1)) := Lib.hid ⟨m, c, h1, h2, fun p e1 e2 => by
      by_cases e : p = (k : Int) + 1
      · subst e; rw [hm]; rfl
      · exact h3 p e1 (by omega)⟩
    clear he hm h1 h2 h3 hub ht
    go_enter Try.func45, Try.ntmps45
    go_wp2
    go_ret
    exact ⟨by rw [HU.out]; rfl, HK2.out, Touch.refl _ _⟩
  | none =>
    rw [hm] at hlk
    simp only [Option.getD_none, Option.isSome_none] at hlk
    obtain ⟨p0, hp0⟩ : ∃ p, ps k 1 = p := ⟨_, rfl⟩
    have hfp : fieldOf ps n ((k : Int) + 1) 1 = p0 := by
      rw [field_at (by omega), show at1 ((k : Int) + 1) = k from by unfold at1; omega]
      exact hp0
    have hle : p0 ≤ (k : Int) := by rw [← hp0]; exact (hp k hkn).2
    have hun := ub_next (pid := pid) hp hkn hq
    rw [hp0] at hun
    have HU := Lib.hid hun
    have HF2 := Lib.hid hfp
    have HPt := Lib.hid ht
    have HmF := Lib.hid hF
    have d : decide (pid < (k : Int) + 1) = true := dT hq
    have hlk0 := hlk
    have x2 := he.p.cell (i := 0) rfl
    have x3 := he.u.cell (i := 0) rfl
    have x4 := he.t.cell (i := 0) rfl
    clear hm h1 h2 h3 hun hfp hp0 hp hF ht he
    go_enter Try.func45, Try.ntmps45
    go_upto_region 4 with fail
    have HT := Lib.hid ((Touch.refl [mb] w).drew)
    have HKd := Lib.hid (HK.out.touch (Touch.refl [] w).drew (by simp))
    have HEd := Lib.hid (HE.out.touch (Touch.refl [] w).drew (by simp))
    clear hlk hlk0
    go_region_held3 (fun w' => w'.cell? ⟨pb, 0, none⟩ = some (.int .i64 pid) ∧ w'.cell? ⟨ub, 0, none⟩ = some (.func (.func 45) #[] #[.pointer (some ⟨kb, 0, none⟩), .pointer (some ⟨pb, 0, none⟩), .pointer (some ⟨ub, 0, none⟩), .pointer (some ⟨tb, 0, none⟩)]) ∧ w'.cell? ⟨tb, 0, none⟩ = some (.pointer (some ⟨b, 0, none⟩))) (first | go_keep | exact ⟨HEd.out.p.cell (i := 0) rfl, HEd.out.u.cell (i := 0) rfl, HEd.out.t.cell (i := 0) rfl⟩)
      ((first
        | (go_at_call 22; refine (parent_q b F most n ps live _ ((k : Int) + 1) p0 (HPt.out.still (Touch.refl [] w).drew) (by omega) HF2.out).mono ?_; rintro e w1 ⟨rfl, rfl⟩)
        | (go_at_call 45; refine (under_low kb pb ub tb mb b ps n pid k _ p0 HP.out HEd.out HKd.out hle).mono ?_; rintro e w2 ⟨rfl, hk2, ht2⟩; have HKd := Lib.hid hk2; have HT := Lib.hid (HT.out.trans ht2); have HEd := Lib.hid (HEd.out.touch ht2 (by simp)); clear hk2 ht2)))
    obtain ⟨u0, hu0⟩ : ∃ x, ubB ps n pid p0 = x := ⟨_, rfl⟩
    obtain ⟨m', c', q1, q2, q3⟩ := HKd.out
    have y2 := HEd.out.k.cell (i := 0) rfl
    obtain ⟨w3, hup, hm2, t2, hs2⟩ := q1.put intKey Try.underlying79 Try.underlying3 ((k : Int) + 1) (.bool u0)
    have HR : Hid (ubB ps n pid ((k : Int) + 1) = u0) := Lib.hid (by rw [HU.out]; exact hu0)
    have HK2 : Hid (Kn w3 mb ps n pid ((k : Int) + 1)) := Lib.hid ⟨_, _, hm2, fun p v hv => by
      unfold putM at hv
      by_cases e : p = (k : Int) + 1
      · subst e; rw [if_pos rfl] at hv; cases hv; rw [HR.out]
      · rw [if_neg e] at hv; exact q2 p v hv, fun p e1 e2 => by
      unfold putM
      by_cases e : p = (k : Int) + 1
      · rw [if_pos e]; rfl
      · rw [if_neg e]; exact q3 p e1 (by omega)⟩
    have HT2 : Hid (Touch [mb] w w3) := Lib.hid (HT.out.trans t2)
    rw [hu0]
    clear q1 q2 q3 hm2 t2 hs2 hu0
    go_wp2
    go_ret
    exact ⟨by rw [HR.out]; rfl, HK2.out, HT2.out⟩
end
end Go.Proofs.Ytjcbcbhiophkfaa
