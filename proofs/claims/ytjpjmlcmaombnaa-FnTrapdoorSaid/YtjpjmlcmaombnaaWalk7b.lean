/- Chapter 7: Commit, CommitOpen, Trapdoor, CommitTurn of both. -/
import Derived.Test.YtjpjmlcmaombnaaWalk7a
import Derived.Test.YtjpjmlcmaombnaaMath7
import Derived.Maps.OwnOps
namespace Go.Proofs.Ytjpjmlcmaombnaa
open Go.RowKit
set_option maxRecDepth 100000

theorem below_kept {b : Nat} {w w1 w2 : World} (hk : Kept b (b + 1) w1 w2) (h : Below b w w1) (hb : b ≤ w1.heap.size) : Below b w w2 := h.trans (hk.to_below hb)
theorem comV_yes {a b : Int} (h : comB a b = true) : comV a b = comI a b := by unfold comV; rw [if_pos h]
theorem comV_no {a b : Int} (h : comB a b = false) : comV a b = 0 := by unfold comV; rw [h]; rfl
theorem comI_bd (a b : Int) : 0 ≤ comI a b ∧ comI a b ≤ 226 := by unfold comI; omega

set_option maxHeartbeats 400000 in
theorem s_l7Commit (a b : Int) (w : World) (ha : 0 ≤ a ∧ a ≤ 112) (hb : 0 ≤ b ∧ b ≤ 112) :
    Calls Try.prog 75 #[.int .i64 a, .int .i64 b] w fun e w' => e = .returned (.int .i64 (comI a b)) ∧ w = w' := by
  obtain ⟨p0, p1⟩ := powI_bd 4 a
  obtain ⟨q0, q1⟩ := powI_bd 9 b
  obtain ⟨m0, m1⟩ := mul_bd2 _ _ p0 p1 q0 q1
  obtain ⟨a0, a1⟩ := ha
  obtain ⟨b0, b1⟩ := hb
  go_enter Try.func75, Try.ntmps75
  go_wp2_with (go_at_call 88; refine (s_l1Pow _ _ _ (by omega) (by omega) (by omega) (by omega)).mono ?_; rintro e w' ⟨rfl, rfl⟩)
  go_ret
  exact ⟨rfl, rfl⟩

set_option maxHeartbeats 400000 in
theorem s_Commit (a b : Int) (w : World) :
    Calls Try.prog 34 #[.int .i64 a, .int .i64 b] w fun e w' => e = .returned (.tuple #[.int .i64 (comV a b), .bool (comB a b)]) ∧ w = w' := by
  cases ha : numB a
  · have HF : Hid (comB a b = false) := Lib.hid (by unfold comB; rw [ha]; rfl)
    have HI := Lib.hid (comV_no HF.out)
    go_enter Try.func34, Try.ntmps34
    go_wp2_with (go_at_call 74; refine (s_NumOk _ _).mono ?_; rintro e w' ⟨rfl, rfl⟩)
    go_ret2
    exact ⟨ret_tib HI.out.symm HF.out.symm, rfl⟩
  · cases hb : numB b
    · have HF : Hid (comB a b = false) := Lib.hid (by unfold comB; rw [ha, hb]; rfl)
      have HI := Lib.hid (comV_no HF.out)
      go_enter Try.func34, Try.ntmps34
      go_wp2_with (go_at_call 74; refine (s_NumOk _ _).mono ?_; rintro e w' ⟨rfl, rfl⟩)
      go_ret2
      exact ⟨ret_tib HI.out.symm HF.out.symm, rfl⟩
    · have HF : Hid (comB a b = true) := Lib.hid (by unfold comB; rw [ha, hb]; rfl)
      have HI := Lib.hid (comV_yes HF.out)
      have ra := (numB_iff a).1 ha
      have rb := (numB_iff b).1 hb
      go_enter Try.func34, Try.ntmps34
      go_wp2_with (first | (go_at_call 74; refine (s_NumOk _ _).mono ?_; rintro e w' ⟨rfl, rfl⟩) | (go_at_call 75; refine (s_l7Commit _ _ _ ra rb).mono ?_; rintro e w' ⟨rfl, rfl⟩))
      go_ret2
      exact ⟨ret_tib HI.out.symm HF.out.symm, rfl⟩

set_option maxHeartbeats 400000 in
theorem i_Commit (a b : Int) (w : World) :
    Calls Try.prog 35 #[.int .i64 a, .int .i64 b] w fun e w' => e = .returned (.tuple #[.int .i64 (comV a b), .bool (comB a b)]) ∧ Below w.heap.size w w' := by
  cases ha : numB a
  · have HF : Hid (comB a b = false) := Lib.hid (by unfold comB; rw [ha]; rfl)
    have HI := Lib.hid (comV_no HF.out)
    go_enter Try.func35, Try.ntmps35
    go_wp2_with (go_at_call 76; refine (i_NumOk _ _).mono ?_; rintro e w' ⟨rfl, rfl⟩)
    go_ret2
    exact ⟨ret_tib HI.out.symm HF.out.symm, Below.refl _ _⟩
  · cases hb : numB b
    · have HF : Hid (comB a b = false) := Lib.hid (by unfold comB; rw [ha, hb]; rfl)
      have HI := Lib.hid (comV_no HF.out)
      go_enter Try.func35, Try.ntmps35
      go_wp2_with (go_at_call 76; refine (i_NumOk _ _).mono ?_; rintro e w' ⟨rfl, rfl⟩)
      go_ret2
      exact ⟨ret_tib HI.out.symm HF.out.symm, Below.refl _ _⟩
    · have HF : Hid (comB a b = true) := Lib.hid (by unfold comB; rw [ha, hb]; rfl)
      have HI := Lib.hid (comV_yes HF.out)
      have ra := (numB_iff a).1 ha
      have rb := (numB_iff b).1 hb
      have HP := Lib.hid (PM.made w)
      have HB0 := Lib.hid ((Below.refl w.heap.size w).alloc (Nat.le_refl _) (.map #[] 0))
      have hmm := @run_makeMap Try.prog
      go_enter Try.func35, Try.ntmps35
      go_wp2_with (go_at_call 76; refine (i_NumOk _ _).mono ?_; rintro e w' ⟨rfl, rfl⟩)
      refine (i_commitment _ _ _ _ HP.out ra rb).mono ?_
      rintro e w1 ⟨rfl, hp, hk⟩
      have HB := Lib.hid (below_kept hk HB0.out (by simp))
      clear hp hk
      go_wp2
      go_ret2
      exact ⟨ret_tib HI.out.symm HF.out.symm, HB.out⟩

theorem X_s_Commit (a b : Int) (w : World) :
    Calls Try.prog 34 #[.int .i64 a, .int .i64 b] w fun e w' => e = .returned (.tuple #[.int .i64 (comV a b), .bool (comB a b)]) ∧ Below w.heap.size w w' :=
  (s_Commit a b w).mono fun _ _ ⟨he, hw⟩ => ⟨he, by subst hw; exact Below.refl _ _⟩
theorem X_i_Commit (a b : Int) (w : World) :
    Calls Try.prog 35 #[.int .i64 a, .int .i64 b] w fun e w' => e = .returned (.tuple #[.int .i64 (comV a b), .bool (comB a b)]) ∧ Below w.heap.size w w' := i_Commit a b w

theorem open_no {c a b : Int} (h : comB a b = false) : openB c a b = false := by unfold openB; rw [h]; rfl
theorem open_yes {c a b : Int} (h : comB a b = true) : openB c a b = decide (comI a b = c) := by unfold openB; rw [h]; rfl
set_option maxHeartbeats 400000 in
theorem X_s_CommitOpen (c a b : Int) (w : World) :
    Calls Try.prog 36 #[.int .i64 c, .int .i64 a, .int .i64 b] w fun e w' => e = .returned (.bool (openB c a b)) ∧ Below w.heap.size w w' := by
  cases hb : comB a b
  · have HF := Lib.hid (open_no (c := c) hb)
    go_enter Try.func36, Try.ntmps36
    go_wp2_with fail
    refine (s_Commit _ _ _).mono ?_
    rintro e w1 ⟨rfl, rfl⟩
    rw [hb]
    go_wp2
    go_ret
    exact ⟨ret_bool HF.out.symm, Below.refl _ _⟩
  · have HF := Lib.hid (open_yes (c := c) hb)
    have HV := Lib.hid (comV_yes hb)
    by_cases hc : comI a b = c
    all_goals
      have HD : Hid (openB c a b = decide (comV a b = c)) := Lib.hid (by rw [HF.out, HV.out])
      go_enter Try.func36, Try.ntmps36
      go_wp2_with fail
      refine (s_Commit _ _ _).mono ?_
      rintro e w1 ⟨rfl, rfl⟩
      rw [hb]
      go_wp2
      go_ret
      exact ⟨ret_bool (by rw [HD.out]; first | rfl | exact (Int.beq_eq_decide_eq ..) | trace_state), Below.refl _ _⟩
set_option maxHeartbeats 400000 in
theorem X_i_CommitOpen (c a b : Int) (w : World) :
    Calls Try.prog 37 #[.int .i64 c, .int .i64 a, .int .i64 b] w fun e w' => e = .returned (.bool (openB c a b)) ∧ Below w.heap.size w w' := by
  cases hb : comB a b
  · have HF := Lib.hid (open_no (c := c) hb)
    go_enter Try.func37, Try.ntmps37
    go_wp2_with fail
    refine (i_Commit _ _ _).mono ?_
    rintro e w1 ⟨rfl, hb1⟩
    rw [hb]
    go_wp2
    go_ret
    exact ⟨ret_bool HF.out.symm, hb1⟩
  · have HF := Lib.hid (open_yes (c := c) hb)
    have HV := Lib.hid (comV_yes hb)
    have HD : Hid (openB c a b = decide (comV a b = c)) := Lib.hid (by rw [HF.out, HV.out])
    go_enter Try.func37, Try.ntmps37
    go_wp2_with fail
    refine (i_Commit _ _ _).mono ?_
    rintro e w1 ⟨rfl, hb1⟩
    rw [hb]
    go_wp2
    go_ret
    exact ⟨ret_bool (by rw [HD.out]; first | rfl | exact (Int.beq_eq_decide_eq ..) | trace_state), hb1⟩

set_option maxHeartbeats 400000 in
theorem s_Trapdoor (w : World) :
    Calls Try.prog 38 #[] w fun e w' => e = .returned (.int .i64 trap) ∧ w = w' := by
  go_enter Try.func38, Try.ntmps38
  go_wp2_with (go_at_call 78; refine (s_l1Log _ _ el9).mono ?_; rintro e w' ⟨rfl, rfl⟩)
  go_ret
  exact ⟨rfl, rfl⟩
set_option maxHeartbeats 400000 in
theorem i_el_log (g : Int) (w : World) (hg : elB g = true) :
    Calls Try.prog 114 #[.int .i64 g] w fun x w' => x = .returned (.tuple #[.int .i64 (logI g), .bool true]) ∧ w = w' := by
  have hr := elB_range hg
  obtain ⟨G, rfl⟩ := Int.eq_ofNat_of_zero_le (show 0 ≤ g by omega)
  have HB := Lib.hid hg
  clear hg
  have g1 : G < 227 := by omega
  clear hr
  go_enter Try.func114, Try.ntmps114
  go_wp2
  go_loop [4, 6] (fun x e => ∃ E X : Nat, E ≤ 113 ∧ X < 227 ∧ Hid (X = powN 4 E 227) ∧ Hid (noLog G E) ∧ x = .int .i64 X ∧ e = .int .i64 E) (fun _ e => 113 - (intOf e).toNat)
  case atStart => exact ⟨0, 1, by omega, by omega, Lib.hid (by simp [powN]), Lib.hid (noLog_0 G), rfl, rfl⟩
  case round =>
    obtain ⟨E, X, hE, hX, hI, hN, rfl, rfl⟩ := hrel
    by_cases h0 : E < 113
    · by_cases h1 : X = G
      · have H1 : ((X : Int) == (G : Int)) = true := by rw [beq_iff_eq]; omega
        have HP : Hid (((E : Nat) : Int) = logI G) := Lib.hid (log_hit h0 hI.out h1).1.symm
        clear hI hN h1 HB
        go_wp2
        go_ret2
        exact ⟨ret_tib HP.out rfl, rfl⟩
      · have H1 : ((X : Int) == (G : Int)) = false := by rw [beq_eq_false_iff_ne]; omega
        have R : Hid (X * 4 % 227 = powN 4 (E + 1) 227) := Lib.hid (by rw [hI.out]; exact pow_step 4 E 227)
        have Q : Hid (noLog G (E + 1)) := Lib.hid (noLog_succ hN.out hI.out h1)
        clear hI hN h1 HB
        go_wp2
        go_round
        case rel => exact ⟨E + 1, X * 4 % 227, by omega, Nat.mod_lt _ (by omega), R, Q, by go_num, by go_num⟩
        case measure => simp [intOf]; omega
    · exfalso
      have : E = 113 := by omega
      have h := log_miss g1 (this ▸ hN.out)
      rw [HB.out] at h; exact absurd h (by simp)
set_option maxHeartbeats 400000 in
theorem i_trapdoor (w : World) :
    Calls Try.prog 79 #[] w fun e w' => e = .returned (.int .i64 trap) ∧ w = w' := by
  go_enter Try.func79, Try.ntmps79
  go_wp2_with (go_at_call 114; refine (i_el_log _ _ el9).mono ?_; rintro e w' ⟨rfl, rfl⟩)
  go_ret
  exact ⟨rfl, rfl⟩
set_option maxHeartbeats 400000 in
theorem i_Trapdoor (w : World) :
    Calls Try.prog 39 #[] w fun e w' => e = .returned (.int .i64 trap) ∧ w = w' := by
  go_enter Try.func39, Try.ntmps39
  go_wp2_with (go_at_call 79; refine (i_trapdoor _).mono ?_; rintro e w' ⟨rfl, rfl⟩)
  go_ret
  exact ⟨rfl, rfl⟩
theorem X_s_Trapdoor (w : World) :
    Calls Try.prog 38 #[] w fun e w' => e = .returned (.int .i64 trap) ∧ Below w.heap.size w w' :=
  (s_Trapdoor w).mono fun _ _ ⟨he, hw⟩ => ⟨he, by subst hw; exact Below.refl _ _⟩
theorem X_i_Trapdoor (w : World) :
    Calls Try.prog 39 #[] w fun e w' => e = .returned (.int .i64 trap) ∧ Below w.heap.size w w' :=
  (i_Trapdoor w).mono fun _ _ ⟨he, hw⟩ => ⟨he, by subst hw; exact Below.refl _ _⟩
end Go.Proofs.Ytjpjmlcmaombnaa
