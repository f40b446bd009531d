/- Chapter 7: CommitTurn, CommitBreak of both. -/
import Derived.Test.YtjpjmlcmaombnaaWalk7b
import Derived.Deep.RegionWith
namespace Go.Proofs.Ytjpjmlcmaombnaa
open Go.RowKit
set_option maxRecDepth 100000

theorem turnV_yes {a b o : Int} (h : turnB a b o = true) : turnV a b o = turnI a b o := by unfold turnV; rw [if_pos h]
theorem turn_no {a b o : Int} (h : turnB a b o = false) : Hid (turnV a b o = 0 ∧ turnB a b o = false) := Lib.hid ⟨by unfold turnV; rw [h]; rfl, h⟩
theorem inv_bd (a : Int) : 0 ≤ powI a 111 113 ∧ powI a 111 113 ≤ 112 := ⟨powI_lo _ _ _, powI_hi _ _ _ (by omega)⟩
set_option maxHeartbeats 1000000 in
theorem X_s_CommitTurn (a b o : Int) (w : World) :
    Calls Try.prog 40 #[.int .i64 a, .int .i64 b, .int .i64 o] w fun e w' => e = .returned (.tuple #[.int .i64 (turnV a b o), .bool (turnB a b o)]) ∧ Below w.heap.size w w' := by
  cases ha : numB a
  · have HF := turn_no (a := a) (b := b) (o := o) (by unfold turnB; rw [ha]; rfl)
    go_enter Try.func40, Try.ntmps40
    go_wp2_with (go_at_call 74; refine (s_NumOk _ _).mono ?_; rintro e w' ⟨rfl, rfl⟩)
    go_ret2
    exact ⟨ret_tib HF.out.1.symm HF.out.2.symm, Below.refl _ _⟩
  cases hb : numB b
  · have HF := turn_no (a := a) (b := b) (o := o) (by unfold turnB; rw [ha, hb]; rfl)
    go_enter Try.func40, Try.ntmps40
    go_wp2_with (go_at_call 74; refine (s_NumOk _ _).mono ?_; rintro e w' ⟨rfl, rfl⟩)
    go_ret2
    exact ⟨ret_tib HF.out.1.symm HF.out.2.symm, Below.refl _ _⟩
  cases ho : numB o
  · have HF := turn_no (a := a) (b := b) (o := o) (by unfold turnB; rw [ha, hb, ho]; rfl)
    go_enter Try.func40, Try.ntmps40
    go_wp2_with (go_at_call 74; refine (s_NumOk _ _).mono ?_; rintro e w' ⟨rfl, rfl⟩)
    go_ret2
    exact ⟨ret_tib HF.out.1.symm HF.out.2.symm, Below.refl _ _⟩
  have HB : Hid (turnB a b o = true) := Lib.hid (by unfold turnB; rw [ha, hb, ho]; rfl)
  have HV : Hid ((b + (a - o) % 113 * powI trap 111 113) % 113 = turnV a b o) := Lib.hid (by rw [turnV_yes HB.out]; unfold turnI; omega)
  obtain ⟨ra0, ra1⟩ := (numB_iff a).1 ha
  obtain ⟨rb0, rb1⟩ := (numB_iff b).1 hb
  obtain ⟨ro0, ro1⟩ := (numB_iff o).1 ho
  obtain ⟨t0, t1⟩ := trap_bd
  obtain ⟨i0, i1⟩ := inv_bd trap
  have s0 : 0 ≤ (a - o) % 113 := by omega
  have s1 : (a - o) % 113 ≤ 112 := by omega
  obtain ⟨m0, m1⟩ := mul_bd _ _ s0 s1 i0 i1
  go_enter Try.func40, Try.ntmps40
  go_wp2_with (first | (go_at_call 74; refine (s_NumOk _ _).mono ?_; rintro e w' ⟨rfl, rfl⟩) | (go_at_call 80; refine (s_l1Sub _ _ _ ra0 ra1 ro0 ro1).mono ?_; rintro e w' ⟨rfl, rfl⟩) | (go_at_call 38; refine (s_Trapdoor _).mono ?_; rintro e w' ⟨rfl, rfl⟩) | (go_at_call 81; refine (s_l1Inv _ _ t0 t1).mono ?_; rintro e w' ⟨rfl, rfl⟩))
  go_ret2
  exact ⟨ret_tib HV.out HB.out.symm, Below.refl _ _⟩
set_option maxHeartbeats 1000000 in
theorem X_i_CommitTurn (a b o : Int) (w : World) :
    Calls Try.prog 41 #[.int .i64 a, .int .i64 b, .int .i64 o] w fun e w' => e = .returned (.tuple #[.int .i64 (turnV a b o), .bool (turnB a b o)]) ∧ Below w.heap.size w w' := by
  cases ha : numB a
  · have HF := turn_no (a := a) (b := b) (o := o) (by unfold turnB; rw [ha]; rfl)
    go_enter Try.func41, Try.ntmps41
    go_wp2_with (go_at_call 76; refine (i_NumOk _ _).mono ?_; rintro e w' ⟨rfl, rfl⟩)
    go_ret2
    exact ⟨ret_tib HF.out.1.symm HF.out.2.symm, Below.refl _ _⟩
  cases hb : numB b
  · have HF := turn_no (a := a) (b := b) (o := o) (by unfold turnB; rw [ha, hb]; rfl)
    go_enter Try.func41, Try.ntmps41
    go_wp2_with (go_at_call 76; refine (i_NumOk _ _).mono ?_; rintro e w' ⟨rfl, rfl⟩)
    go_ret2
    exact ⟨ret_tib HF.out.1.symm HF.out.2.symm, Below.refl _ _⟩
  cases ho : numB o
  · have HF := turn_no (a := a) (b := b) (o := o) (by unfold turnB; rw [ha, hb, ho]; rfl)
    go_enter Try.func41, Try.ntmps41
    go_wp2_with (go_at_call 76; refine (i_NumOk _ _).mono ?_; rintro e w' ⟨rfl, rfl⟩)
    go_ret2
    exact ⟨ret_tib HF.out.1.symm HF.out.2.symm, Below.refl _ _⟩
  have HB : Hid (turnB a b o = true) := Lib.hid (by unfold turnB; rw [ha, hb, ho]; rfl)
  have HV : Hid ((b + (a - o) % 113 * powI trap 111 113) % 113 = turnV a b o) := Lib.hid (by rw [turnV_yes HB.out]; unfold turnI; omega)
  obtain ⟨ra0, ra1⟩ := (numB_iff a).1 ha
  obtain ⟨rb0, rb1⟩ := (numB_iff b).1 hb
  obtain ⟨ro0, ro1⟩ := (numB_iff o).1 ho
  obtain ⟨t0, t1⟩ := trap_bd
  obtain ⟨i0, i1⟩ := inv_bd trap
  have s0 : 0 ≤ (a - o) % 113 := by omega
  have s1 : (a - o) % 113 ≤ 112 := by omega
  have p0 : 0 ≤ (a - o) % 113 * powI trap 111 113 % 113 := by omega
  have p1 : (a - o) % 113 * powI trap 111 113 % 113 ≤ 112 := by omega
  go_enter Try.func41, Try.ntmps41
  go_wp2_with (first | (go_at_call 76; refine (i_NumOk _ _).mono ?_; rintro e w' ⟨rfl, rfl⟩) | (go_at_call 82; refine (i_minus _ _ _ ra0 ra1 ro0 ro1).mono ?_; rintro e w' ⟨rfl, rfl⟩) | (go_at_call 79; refine (i_trapdoor _).mono ?_; rintro e w' ⟨rfl, rfl⟩) | (go_at_call 85; refine (i_inverse _ _ (by omega) t1).mono ?_; rintro e w' ⟨rfl, rfl⟩) | (go_at_call 84; refine (i_times _ _ _ s0 s1 i0 i1).mono ?_; rintro e w' ⟨rfl, rfl⟩) | (go_at_call 83; refine (i_plus _ _ _ rb0 rb1 p0 p1).mono ?_; rintro e w' ⟨rfl, rfl⟩))
  go_ret2
  exact ⟨ret_tib HV.out HB.out.symm, Below.refl _ _⟩

/-! ### CommitBreak -/
theorem break_no {a b c d : Int} (h : breakB a b c d = false) : Hid (breakV a b c d = 0 ∧ breakB a b c d = false) := Lib.hid ⟨by unfold breakV; rw [h]; rfl, h⟩
theorem breakV_yes {a b c d : Int} (h : breakB a b c d = true) : breakV a b c d = breakI a b c d := by unfold breakV; rw [if_pos h]
set_option maxHeartbeats 2000000 in
theorem X_s_CommitBreak (a b c d : Int) (w : World) :
    Calls Try.prog 42 #[.int .i64 a, .int .i64 b, .int .i64 c, .int .i64 d] w fun e w' => e = .returned (.tuple #[.int .i64 (breakV a b c d), .bool (breakB a b c d)]) ∧ Below w.heap.size w w' := by
  by_cases hn : (numB a && numB b && numB c && numB d) = true
  · simp only [Bool.and_eq_true] at hn
    obtain ⟨⟨⟨ha, hb⟩, hc⟩, hd⟩ := hn
    have ra := (numB_iff a).1 ha
    have rb := (numB_iff b).1 hb
    have rc := (numB_iff c).1 hc
    have rd := (numB_iff d).1 hd
    by_cases hac : a = c
    · have HF := break_no (a := a) (b := b) (c := c) (d := d) (by unfold breakB; simp [hac])
      have hq : (a == c) = true := by simp [hac]
      clear hac
      go_enter Try.func42, Try.ntmps42
      go_wp2_with (go_at_call 74; refine (s_NumOk _ _).mono ?_; rintro e w' ⟨rfl, rfl⟩)
      go_ret2
      exact ⟨ret_tib HF.out.1.symm HF.out.2.symm, Below.refl _ _⟩
    · have hq : (a == c) = false := by rw [beq_eq_false_iff_ne]; exact hac
      by_cases he : comI a b = comI c d
      · have HB : Hid (breakB a b c d = true) := Lib.hid (by unfold breakB; simp [ha, hb, hc, hd, hac, he])
        have HV : Hid (breakI a b c d = breakV a b c d) := Lib.hid (breakV_yes HB.out).symm
        have hbd := com_blind rb rd ra rc he hac
        have e1 : (comI a b == comI c d) = true := by simp [he]
        have e2 : (comI a b != comI c d) = false := by simp [he]
        have s0 : 0 ≤ (a - c) % 113 := by omega
        have s1 : (a - c) % 113 ≤ 112 := by omega
        have z1 : 1 ≤ (d - b) % 113 := by omega
        have z2 : (d - b) % 113 ≤ 112 := by omega
        obtain ⟨i0, i1⟩ := inv_bd ((d - b) % 113)
        obtain ⟨m0, m1⟩ := mul_bd _ _ s0 s1 i0 i1
        clear he hac hbd
        go_enter Try.func42, Try.ntmps42
        go_wp2_with (first
          | (go_at_call 74; refine (s_NumOk _ _).mono ?_; rintro e w' ⟨rfl, rfl⟩)
          | (go_at_call 75; (first | (with_reducible refine (s_l7Commit a b _ ra rb).mono ?_) | (with_reducible refine (s_l7Commit c d _ rc rd).mono ?_)); rintro e w' ⟨rfl, rfl⟩)
          | (go_at_call 80; (first | (with_reducible refine (s_l1Sub a c _ ra.1 ra.2 rc.1 rc.2).mono ?_) | (with_reducible refine (s_l1Sub d b _ rd.1 rd.2 rb.1 rb.2).mono ?_)); rintro e w' ⟨rfl, rfl⟩)
          | (go_at_call 81; refine (s_l1Inv _ _ z1 z2).mono ?_; rintro e w' ⟨rfl, rfl⟩))
        go_ret2
        exact ⟨ret_tib HV.out HB.out.symm, Below.refl _ _⟩
      · have HF := break_no (a := a) (b := b) (c := c) (d := d) (by unfold breakB; simp [he])
        have e1 : (comI a b == comI c d) = false := by rw [beq_eq_false_iff_ne]; exact he
        have e2 : (comI a b != comI c d) = true := by simp [he]
        clear he hac
        go_enter Try.func42, Try.ntmps42
        go_wp2_with (first
          | (go_at_call 74; refine (s_NumOk _ _).mono ?_; rintro e w' ⟨rfl, rfl⟩)
          | (go_at_call 75; (first | (with_reducible refine (s_l7Commit a b _ ra rb).mono ?_) | (with_reducible refine (s_l7Commit c d _ rc rd).mono ?_)); rintro e w' ⟨rfl, rfl⟩))
        go_ret2
        exact ⟨ret_tib HF.out.1.symm HF.out.2.symm, Below.refl _ _⟩
  · have HF := break_no (a := a) (b := b) (c := c) (d := d) (by unfold breakB; simp only [Bool.not_eq_true] at hn; rw [hn]; rfl)
    cases ha : numB a
    · clear hn
      go_enter Try.func42, Try.ntmps42
      go_wp2_with (go_at_call 74; refine (s_NumOk _ _).mono ?_; rintro e w' ⟨rfl, rfl⟩)
      go_ret2
      exact ⟨ret_tib HF.out.1.symm HF.out.2.symm, Below.refl _ _⟩
    cases hb : numB b
    · clear hn
      go_enter Try.func42, Try.ntmps42
      go_wp2_with (go_at_call 74; refine (s_NumOk _ _).mono ?_; rintro e w' ⟨rfl, rfl⟩)
      go_ret2
      exact ⟨ret_tib HF.out.1.symm HF.out.2.symm, Below.refl _ _⟩
    cases hc : numB c
    · clear hn
      go_enter Try.func42, Try.ntmps42
      go_wp2_with (go_at_call 74; refine (s_NumOk _ _).mono ?_; rintro e w' ⟨rfl, rfl⟩)
      go_ret2
      exact ⟨ret_tib HF.out.1.symm HF.out.2.symm, Below.refl _ _⟩
    have hd : numB d = false := by rw [ha, hb, hc] at hn; simpa using hn
    clear hn
    go_enter Try.func42, Try.ntmps42
    go_wp2_with (go_at_call 74; refine (s_NumOk _ _).mono ?_; rintro e w' ⟨rfl, rfl⟩)
    go_ret2
    exact ⟨ret_tib HF.out.1.symm HF.out.2.symm, Below.refl _ _⟩

theorem lit4I (w : World) (a b c d : Int) : Rd (w.alloc (.cells #[.int .i64 a, .int .i64 b, .int .i64 c, .int .i64 d] 3)) (w.heap.size + 1) 1 (some ⟨w.heap.size, 0, none⟩) 4 (cI [a, b, c, d]) :=
  (Ow.new w #[.int .i64 a, .int .i64 b, .int .i64 c, .int .i64 d] 3 1 4 rfl).rd
def W3 (w : World) (a b c d : Int) : World := (((w.alloc (.cells #[.int .i64 a, .int .i64 b, .int .i64 c, .int .i64 d] 3)).alloc (.cells #[.int .i64 a, .int .i64 b] 91)).alloc (.cells #[.int .i64 c, .int .i64 d] 91)).alloc (.map #[] 0)
theorem W3_facts (w : World) (a b c d : Int) : PM (W3 w a b c d) (w.heap.size + 1 + 1 + 1) ∧ (W3 w a b c d).cell? ⟨w.heap.size + 1, 0, none⟩ = some (.int .i64 a) ∧ (W3 w a b c d).cell? ⟨w.heap.size + 1, 1, none⟩ = some (.int .i64 b) ∧
    (W3 w a b c d).cell? ⟨w.heap.size + 1 + 1, 0, none⟩ = some (.int .i64 c) ∧ (W3 w a b c d).cell? ⟨w.heap.size + 1 + 1, 1, none⟩ = some (.int .i64 d) ∧ Below w.heap.size w (W3 w a b c d) ∧ w.heap.size + 1 + 1 + 1 < (W3 w a b c d).heap.size := by
  have h1 : (W3 w a b c d).heap[w.heap.size + 1]? = some (.cells #[.int .i64 a, .int .i64 b] 91 (0, 0)) := by
    unfold W3
    rw [Below.heap_alloc _ _ _ (by simp), Below.heap_alloc _ _ _ (by simp)]
    have := heap_alloc_new (w.alloc (.cells #[.int .i64 a, .int .i64 b, .int .i64 c, .int .i64 d] 3)) (.cells #[.int .i64 a, .int .i64 b] 91)
    simpa using this
  have h2 : (W3 w a b c d).heap[w.heap.size + 1 + 1]? = some (.cells #[.int .i64 c, .int .i64 d] 91 (0, 0)) := by
    unfold W3
    rw [Below.heap_alloc _ _ _ (by simp)]
    have := heap_alloc_new ((w.alloc (.cells #[.int .i64 a, .int .i64 b, .int .i64 c, .int .i64 d] 3)).alloc (.cells #[.int .i64 a, .int .i64 b] 91)) (.cells #[.int .i64 c, .int .i64 d] 91)
    simpa using this
  refine ⟨?_, by rw [cell_of_row _ _ 0 _ _ _ h1]; rfl, by rw [cell_of_row _ _ 1 _ _ _ h1]; rfl, by rw [cell_of_row _ _ 0 _ _ _ h2]; rfl, by rw [cell_of_row _ _ 1 _ _ _ h2]; rfl, ?_, by simp [W3]⟩
  · have := PM.made (((w.alloc (.cells #[.int .i64 a, .int .i64 b, .int .i64 c, .int .i64 d] 3)).alloc (.cells #[.int .i64 a, .int .i64 b] 91)).alloc (.cells #[.int .i64 c, .int .i64 d] 91))
    simpa [W3] using this
  · exact ((((Below.refl _ _).alloc (Nat.le_refl _) _).alloc (by simp) _).alloc (by simp; omega) _).alloc (by simp; omega) _
theorem at_four {b g h : Nat} {W w0 w1 : World} {u v x y : Value} (hk : Kept b (b + 1) W w0) (hk1 : Kept b (b + 1) w0 w1) (hg : g < b) (hh : h < b) (hb : b < W.heap.size)
    (c0 : w0.cell? ⟨g, 0, none⟩ = some u) (c1 : w0.cell? ⟨g, 1, none⟩ = some v) (c2 : w0.cell? ⟨h, 0, none⟩ = some x) (c3 : w0.cell? ⟨h, 1, none⟩ = some y) :
    Kept b (b + 1) W w1 ∧ w1.cell? ⟨g, 0, none⟩ = some u ∧ w1.cell? ⟨g, 1, none⟩ = some v ∧ w1.cell? ⟨h, 0, none⟩ = some x ∧ w1.cell? ⟨h, 1, none⟩ = some y := by
  have hz := hk.size
  exact ⟨hk.trans hk1, (hk1.cellAt (p := ⟨g, 0, none⟩) (by simp; omega) (by simp; omega)).trans c0, (hk1.cellAt (p := ⟨g, 1, none⟩) (by simp; omega) (by simp; omega)).trans c1,
    (hk1.cellAt (p := ⟨h, 0, none⟩) (by simp; omega) (by simp; omega)).trans c2, (hk1.cellAt (p := ⟨h, 1, none⟩) (by simp; omega) (by simp; omega)).trans c3⟩
set_option maxHeartbeats 4000000 in
theorem X_i_CommitBreak (a b c d : Int) (w : World) :
    Calls Try.prog 43 #[.int .i64 a, .int .i64 b, .int .i64 c, .int .i64 d] w fun e w' => e = .returned (.tuple #[.int .i64 (breakV a b c d), .bool (breakB a b c d)]) ∧ Below w.heap.size w w' := by
  have HL := Lib.hid (lit4I w a b c d)
  have HB0 := Lib.hid ((Below.refl w.heap.size w).alloc (Nat.le_refl _) (.cells #[.int .i64 a, .int .i64 b, .int .i64 c, .int .i64 d] 3))
  cases hn : numsB [a, b, c, d]
  · have HF := break_no (a := a) (b := b) (c := c) (d := d) (by unfold breakB; simp only [numsB, List.all_cons, List.all_nil, Bool.and_true] at hn; rw [show (numB a && numB b && numB c && numB d) = false by rw [← hn]; simp only [Bool.and_assoc]]; rfl)
    go_enter Try.func43, Try.ntmps43
    go_wp2_with fail
    refine (i_numbersOk _ _ _ _ _ (by have := HL.out; simpa using this) (by omega)).mono ?_
    rintro e w1 ⟨rfl, rfl⟩
    rw [hn]
    go_wp2
    go_ret2
    exact ⟨ret_tib HF.out.1.symm HF.out.2.symm, HB0.out⟩
  · simp only [numsB, List.all_cons, List.all_nil, Bool.and_true, Bool.and_eq_true] at hn
    obtain ⟨ha, hb, hc, hd⟩ := hn
    have ra := (numB_iff a).1 ha
    have rb := (numB_iff b).1 hb
    have rc := (numB_iff c).1 hc
    have rd := (numB_iff d).1 hd
    have HN : Hid (numsB [a, b, c, d] = true) := Lib.hid (by simp [numsB, ha, hb, hc, hd])
    have HW := Lib.hid (W3_facts w a b c d)
    have HE : Hid (W3 w a b c d = (((w.alloc (.cells #[.int .i64 a, .int .i64 b, .int .i64 c, .int .i64 d] 3)).alloc (.cells #[.int .i64 a, .int .i64 b] 91)).alloc (.cells #[.int .i64 c, .int .i64 d] 91)).alloc (.map #[] 0)) := Lib.hid rfl
    obtain ⟨W, hWW⟩ : ∃ W, Hid (W3 w a b c d = W) := ⟨_, Lib.hid rfl⟩
    rw [hWW.out] at HW HE
    have hmm := @run_makeMap Try.prog
    have HQ : Hid (comI a b = comI c d → a = c → b = d) := Lib.hid fun h1 h2 => Decidable.byContradiction fun h3 => com_num rb rd ra rc h1 h3 h2
    rcases show (comI a b ≠ comI c d) ∨ (comI a b = comI c d ∧ a = c ∧ b = d) ∨ (comI a b = comI c d ∧ a ≠ c) by
        by_cases h1 : comI a b = comI c d
        · by_cases h2 : a = c
          · exact .inr (.inl ⟨h1, h2, HQ.out h1 h2⟩)
          · exact .inr (.inr ⟨h1, h2⟩)
        · exact .inl h1 with he | ⟨he, rfl, rfl⟩ | ⟨he, hac⟩
    · have HF := break_no (a := a) (b := b) (c := c) (d := d) (by unfold breakB; simp [he])
      have e1 : (comI a b == comI c d) = false := by rw [beq_eq_false_iff_ne]; exact he
      have e2 : (powI 4 a 227 * powI 9 b 227 % 227 == powI 4 c 227 * powI 9 d 227 % 227) = false := e1
      have e3 : (powI 4 a 227 * powI 9 b 227 % 227 != powI 4 c 227 * powI 9 d 227 % 227) = true := by have : comI a b ≠ comI c d := he; simpa [comI] using this
      clear he HQ e1
      go_enter Try.func43, Try.ntmps43
      go_wp2_with fail
      refine (i_numbersOk _ _ _ _ _ (by have := HL.out; simpa using this) (by omega)).mono ?_
      rintro e w1 ⟨rfl, rfl⟩
      rw [HN.out]
      go_wp2
      rw [← HE.out]
      obtain ⟨hp, hc0, hc1, hc2, hc3, hB, hlt⟩ := HW.out
      have hk := Kept.refl (w.heap.size + 1 + 1 + 1) (w.heap.size + 1 + 1 + 1 + 1) W
      have HBW := Lib.hid hB
      clear hB hmm
      have hs := And.intro hp (And.intro hk (And.intro hc0 (And.intro hc1 (And.intro hc2 hc3))))
      go_region_with
        (first
          | (go_at_call 77
             (first | (with_reducible refine (i_commitment (w.heap.size + 1 + 1 + 1) a b _ (by first | exact hp | exact hp.drew) ra rb).mono ?_) | (with_reducible refine (i_commitment (w.heap.size + 1 + 1 + 1) c d _ (by first | exact hp | exact hp.drew) rc rd).mono ?_))
             rintro e w1 ⟨rfl, hp1, hk1⟩
             have hn := at_four (hk := by first | exact hk | exact hk.drew) hk1 (by omega) (by omega) hlt hc0 hc1 hc2 hc3
             clear hp hk hc0 hc1 hc2 hc3
             obtain ⟨hk, hc0, hc1, hc2, hc3⟩ := hn
             have hp := hp1
             clear hp1 hk1))
      all_goals (
        have HB := Lib.hid (HBW.out.trans ((hk.to_below (by omega)).mono (by omega)))
        clear hk hp hs
        go_wp2
        go_ret2
        exact ⟨ret_tib HF.out.1.symm HF.out.2.symm, HB.out⟩)
    · have HF := break_no (a := a) (b := b) (c := a) (d := b) (by unfold breakB; simp)
      clear he HQ
      go_enter Try.func43, Try.ntmps43
      go_wp2_with fail
      refine (i_numbersOk _ _ _ _ _ (by have := HL.out; simpa using this) (by omega)).mono ?_
      rintro e w1 ⟨rfl, rfl⟩
      rw [HN.out]
      go_wp2
      rw [← HE.out]
      obtain ⟨hp, hc0, hc1, hc2, hc3, hB, hlt⟩ := HW.out
      have hk := Kept.refl (w.heap.size + 1 + 1 + 1) (w.heap.size + 1 + 1 + 1 + 1) W
      have HBW := Lib.hid hB
      clear hB hmm
      have hs := And.intro hp (And.intro hk (And.intro hc0 (And.intro hc1 (And.intro hc2 hc3))))
      go_region_held3 (fun w' => PM w' (w.heap.size + 1 + 1 + 1) ∧ Kept (w.heap.size + 1 + 1 + 1) (w.heap.size + 1 + 1 + 1 + 1) W w' ∧ w'.cell? ⟨w.heap.size + 1, 0, none⟩ = some (.int .i64 a) ∧ w'.cell? ⟨w.heap.size + 1, 1, none⟩ = some (.int .i64 b) ∧ w'.cell? ⟨w.heap.size + 1 + 1, 0, none⟩ = some (.int .i64 a) ∧ w'.cell? ⟨w.heap.size + 1 + 1, 1, none⟩ = some (.int .i64 b))
        (first | exact ⟨hp, hk, hc0, hc1, hc2, hc3⟩ | exact ⟨hp.drew, hk.drew, hc0, hc1, hc2, hc3⟩)
        (first
          | (go_at_call 77
             (first | (with_reducible refine (i_commitment (w.heap.size + 1 + 1 + 1) a b _ (by first | exact hp | exact hp.drew) ra rb).mono ?_) | (with_reducible refine (i_commitment (w.heap.size + 1 + 1 + 1) a b _ (by first | exact hp | exact hp.drew) rc rd).mono ?_))
             rintro e w1 ⟨rfl, hp1, hk1⟩
             have hn := at_four (hk := by first | exact hk | exact hk.drew) hk1 (by omega) (by omega) hlt hc0 hc1 hc2 hc3
             clear hp hk hc0 hc1 hc2 hc3
             obtain ⟨hk, hc0, hc1, hc2, hc3⟩ := hn
             have hp := hp1
             clear hp1 hk1))
      all_goals (
        have HB := Lib.hid (HBW.out.trans ((hk.to_below (by omega)).mono (by omega)))
        clear hk hp hs
        go_wp2
        go_ret2
        exact ⟨ret_tib HF.out.1.symm HF.out.2.symm, HB.out⟩)
    · have HBB : Hid (breakB a b c d = true) := Lib.hid (by unfold breakB; simp [ha, hb, hc, hd, hac, he])
      have HV : Hid (breakI a b c d = breakV a b c d) := Lib.hid (breakV_yes HBB.out).symm
      have e1 : (comI a b == comI c d) = true := by simp [he]
      have e2 : (powI 4 a 227 * powI 9 b 227 % 227 == powI 4 c 227 * powI 9 d 227 % 227) = true := e1
      have e3 : (powI 4 a 227 * powI 9 b 227 % 227 != powI 4 c 227 * powI 9 d 227 % 227) = false := by have : comI a b = comI c d := he; simpa [comI] using this
      have hq : (a == c) = false := by rw [beq_eq_false_iff_ne]; exact hac
      have s0 : 0 ≤ (a - c) % 113 := by omega
      have s1 : (a - c) % 113 ≤ 112 := by omega
      have z1 : 0 ≤ (d - b) % 113 := by omega
      have z2 : (d - b) % 113 ≤ 112 := by omega
      obtain ⟨i0, i1⟩ := inv_bd ((d - b) % 113)
      clear he HQ e1 hac
      go_enter Try.func43, Try.ntmps43
      go_wp2_with fail
      refine (i_numbersOk _ _ _ _ _ (by have := HL.out; simpa using this) (by omega)).mono ?_
      rintro e w1 ⟨rfl, rfl⟩
      rw [HN.out]
      go_wp2
      rw [← HE.out]
      obtain ⟨hp, hc0, hc1, hc2, hc3, hB, hlt⟩ := HW.out
      have hk := Kept.refl (w.heap.size + 1 + 1 + 1) (w.heap.size + 1 + 1 + 1 + 1) W
      have HBW := Lib.hid hB
      clear hB hmm
      have hs := And.intro hp (And.intro hk (And.intro hc0 (And.intro hc1 (And.intro hc2 hc3))))
      go_region_held3 (fun w' => PM w' (w.heap.size + 1 + 1 + 1) ∧ Kept (w.heap.size + 1 + 1 + 1) (w.heap.size + 1 + 1 + 1 + 1) W w' ∧ w'.cell? ⟨w.heap.size + 1, 0, none⟩ = some (.int .i64 a) ∧ w'.cell? ⟨w.heap.size + 1, 1, none⟩ = some (.int .i64 b) ∧ w'.cell? ⟨w.heap.size + 1 + 1, 0, none⟩ = some (.int .i64 c) ∧ w'.cell? ⟨w.heap.size + 1 + 1, 1, none⟩ = some (.int .i64 d))
        (first | exact ⟨hp, hk, hc0, hc1, hc2, hc3⟩ | exact ⟨hp.drew, hk.drew, hc0, hc1, hc2, hc3⟩)
        (first
          | (go_at_call 77
             (first | (with_reducible refine (i_commitment (w.heap.size + 1 + 1 + 1) a b _ (by first | exact hp | exact hp.drew) ra rb).mono ?_) | (with_reducible refine (i_commitment (w.heap.size + 1 + 1 + 1) c d _ (by first | exact hp | exact hp.drew) rc rd).mono ?_))
             rintro e w1 ⟨rfl, hp1, hk1⟩
             have hn := at_four (hk := by first | exact hk | exact hk.drew) hk1 (by omega) (by omega) hlt hc0 hc1 hc2 hc3
             clear hp hk hc0 hc1 hc2 hc3
             obtain ⟨hk, hc0, hc1, hc2, hc3⟩ := hn
             have hp := hp1
             clear hp1 hk1))
      all_goals (
        have HB := Lib.hid (HBW.out.trans ((hk.to_below (by omega)).mono (by omega)))
        clear hk hp hs
        go_wp2
        go_quiet ((first
          | (go_at_call 82; (first | (with_reducible exact quiet_drewN (i_minus a c _ ra.1 ra.2 rc.1 rc.2)) | (with_reducible exact quiet_drewN (i_minus d b _ rd.1 rd.2 rb.1 rb.2))))
          | (go_at_call 85; exact quiet_drewN (i_inverse _ _ z1 z2))
          | (go_at_call 84; exact quiet_drewN (i_times _ _ _ s0 s1 i0 i1))))
        go_wp2
        go_ret2
        exact ⟨ret_tib HV.out HBB.out.symm, below_drewN HB.out _⟩)
end Go.Proofs.Ytjpjmlcmaombnaa
