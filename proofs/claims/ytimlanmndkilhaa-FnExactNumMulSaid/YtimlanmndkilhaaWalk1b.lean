/- The exported functions of chapter 1: what they return at good arguments and at others. Made by gen1.py. -/
import Derived.Test.YtimlanmndkilhaaWalk1
namespace Go.Proofs.Ytimlanmndkilhaa
open Go.RowKit

theorem mul_le (a b : Int) (ha : 0 ≤ a ∧ a ≤ 1000) (hb : 0 ≤ b ∧ b ≤ 1000) : 0 ≤ a * b ∧ a * b ≤ 1000000 :=
  ⟨Int.mul_nonneg ha.1 hb.1, by
    have := Int.mul_le_mul (a := a) (b := b) (c := 1000) (d := 1000) ha.2 hb.2 hb.1 (by omega)
    omega⟩
theorem ret_b {a b : Bool} (h : a = b) : Ending.returned (.bool a) = .returned (.bool b) := by rw [h]
theorem ret_ib {k : IntKind} {a b : Int} {c : Bool} (h : a = b) : Ending.returned (.tuple #[.int k a, .bool c]) = .returned (.tuple #[.int k b, .bool c]) := by rw [h]
theorem sub_same (a b : Int) : (a - b + 113) % 113 = (a - b) % 113 := by omega
theorem sub_same' (a b : Int) : (a + 113 - b) % 113 = (a - b) % 113 := by omega

set_option maxHeartbeats 400000 in
theorem s_NumAdd (a b : Int) (w : World) (ha : numB a = true) (hb : numB b = true) :
    Calls Try.prog 14 #[.int .i64 a, .int .i64 b] w fun x w' => x = .returned (.tuple #[.int .i64 ((a + b) % 113), .bool true]) ∧ w = w' := by
  have ra := (numB_iff a).1 ha
  have rb := (numB_iff b).1 hb
  obtain ⟨ra1, ra2⟩ := ra
  obtain ⟨rb1, rb2⟩ := rb
  go_enter Try.func14, Try.ntmps14
  go_wp2_with (first | (go_at_call 12; refine (s_NumOk _ _).mono ?_; rintro e w' ⟨rfl, rfl⟩) | go_in)
  go_ret2
  exact ⟨by rfl, rfl⟩
set_option maxHeartbeats 400000 in
theorem s_NumAdd_no (a b : Int) (w : World) (h : (numB a && numB b) = false) :
    Calls Try.prog 14 #[.int .i64 a, .int .i64 b] w fun x w' => x = .returned (.tuple #[.int .i64 0, .bool false]) ∧ w = w' := by
  cases ha : numB a
  · go_enter Try.func14, Try.ntmps14
    go_wp2_with (first | (go_at_call 12; refine (s_NumOk _ _).mono ?_; rintro e w' ⟨rfl, rfl⟩) | go_in)
    go_ret2
    exact ⟨rfl, rfl⟩
  · have hb : numB b = false := by rw [ha] at h; simpa using h
    clear h
    go_enter Try.func14, Try.ntmps14
    go_wp2_with (first | (go_at_call 12; refine (s_NumOk _ _).mono ?_; rintro e w' ⟨rfl, rfl⟩) | go_in)
    go_ret2
    exact ⟨rfl, rfl⟩

set_option maxHeartbeats 400000 in
theorem s_NumSub (a b : Int) (w : World) (ha : numB a = true) (hb : numB b = true) :
    Calls Try.prog 16 #[.int .i64 a, .int .i64 b] w fun x w' => x = .returned (.tuple #[.int .i64 ((a - b) % 113), .bool true]) ∧ w = w' := by
  have ra := (numB_iff a).1 ha
  have rb := (numB_iff b).1 hb
  obtain ⟨ra1, ra2⟩ := ra
  obtain ⟨rb1, rb2⟩ := rb
  go_enter Try.func16, Try.ntmps16
  go_wp2_with (first | (go_at_call 12; refine (s_NumOk _ _).mono ?_; rintro e w' ⟨rfl, rfl⟩) | go_in)
  go_ret2
  exact ⟨by first | rfl | exact ret_ib (sub_same a b) | exact ret_ib (sub_same' a b), rfl⟩
set_option maxHeartbeats 400000 in
theorem s_NumSub_no (a b : Int) (w : World) (h : (numB a && numB b) = false) :
    Calls Try.prog 16 #[.int .i64 a, .int .i64 b] w fun x w' => x = .returned (.tuple #[.int .i64 0, .bool false]) ∧ w = w' := by
  cases ha : numB a
  · go_enter Try.func16, Try.ntmps16
    go_wp2_with (first | (go_at_call 12; refine (s_NumOk _ _).mono ?_; rintro e w' ⟨rfl, rfl⟩) | go_in)
    go_ret2
    exact ⟨rfl, rfl⟩
  · have hb : numB b = false := by rw [ha] at h; simpa using h
    clear h
    go_enter Try.func16, Try.ntmps16
    go_wp2_with (first | (go_at_call 12; refine (s_NumOk _ _).mono ?_; rintro e w' ⟨rfl, rfl⟩) | go_in)
    go_ret2
    exact ⟨rfl, rfl⟩

set_option maxHeartbeats 400000 in
theorem s_NumMul (a b : Int) (w : World) (ha : numB a = true) (hb : numB b = true) :
    Calls Try.prog 18 #[.int .i64 a, .int .i64 b] w fun x w' => x = .returned (.tuple #[.int .i64 (a * b % 113), .bool true]) ∧ w = w' := by
  have ra := (numB_iff a).1 ha
  have rb := (numB_iff b).1 hb
  obtain ⟨ra1, ra2⟩ := ra
  obtain ⟨rb1, rb2⟩ := rb
  have k := mul_le a b (by omega) (by omega)
  obtain ⟨k1, k2⟩ := k
  go_enter Try.func18, Try.ntmps18
  go_wp2_with (first | (go_at_call 12; refine (s_NumOk _ _).mono ?_; rintro e w' ⟨rfl, rfl⟩) | go_in)
  go_ret2
  exact ⟨by rfl, rfl⟩
set_option maxHeartbeats 400000 in
theorem s_NumMul_no (a b : Int) (w : World) (h : (numB a && numB b) = false) :
    Calls Try.prog 18 #[.int .i64 a, .int .i64 b] w fun x w' => x = .returned (.tuple #[.int .i64 0, .bool false]) ∧ w = w' := by
  cases ha : numB a
  · go_enter Try.func18, Try.ntmps18
    go_wp2_with (first | (go_at_call 12; refine (s_NumOk _ _).mono ?_; rintro e w' ⟨rfl, rfl⟩) | go_in)
    go_ret2
    exact ⟨rfl, rfl⟩
  · have hb : numB b = false := by rw [ha] at h; simpa using h
    clear h
    go_enter Try.func18, Try.ntmps18
    go_wp2_with (first | (go_at_call 12; refine (s_NumOk _ _).mono ?_; rintro e w' ⟨rfl, rfl⟩) | go_in)
    go_ret2
    exact ⟨rfl, rfl⟩

set_option maxHeartbeats 400000 in
theorem s_NumInv (a : Int) (w : World) (ha : numB a = true) (h0 : (a == 0) = false) :
    Calls Try.prog 20 #[.int .i64 a] w fun x w' => x = .returned (.tuple #[.int .i64 (powI a 111 113), .bool true]) ∧ w = w' := by
  have ra := (numB_iff a).1 ha
  obtain ⟨ra1, ra2⟩ := ra
  have ra3 : 1 ≤ a := by have := beq_eq_false_iff_ne.1 h0; omega
  go_enter Try.func20, Try.ntmps20
  go_wp2_with (first | (go_at_call 12; refine (s_NumOk _ _).mono ?_; rintro e w' ⟨rfl, rfl⟩) | (go_at_call 36; refine (s_l1Inv _ _ (by omega) (by omega)).mono ?_; rintro e w' ⟨rfl, rfl⟩) | go_in)
  go_ret2
  exact ⟨rfl, rfl⟩
set_option maxHeartbeats 400000 in
theorem s_NumInv_no (a : Int) (w : World) (h : (numB a && !(a == 0)) = false) :
    Calls Try.prog 20 #[.int .i64 a] w fun x w' => x = .returned (.tuple #[.int .i64 0, .bool false]) ∧ w = w' := by
  cases ha : numB a
  · go_enter Try.func20, Try.ntmps20
    go_wp2_with (first | (go_at_call 12; refine (s_NumOk _ _).mono ?_; rintro e w' ⟨rfl, rfl⟩) | go_in)
    go_ret2
    exact ⟨rfl, rfl⟩
  · have hb : (a == 0) = true := by rw [ha] at h; simpa using h
    clear h
    go_enter Try.func20, Try.ntmps20
    go_wp2_with (first | (go_at_call 12; refine (s_NumOk _ _).mono ?_; rintro e w' ⟨rfl, rfl⟩) | go_in)
    go_ret2
    exact ⟨rfl, rfl⟩

set_option maxHeartbeats 400000 in
theorem s_ElementOk (g : Int) (w : World) :
    Calls Try.prog 22 #[.int .i64 g] w fun x w' => x = .returned (.bool (elB g)) ∧ w = w' := by
  by_cases h : 1 ≤ g ∧ g ≤ 226
  · have HB := Lib.hid (elB_in g h)
    obtain ⟨h1, h2⟩ := h
    go_enter Try.func22, Try.ntmps22
    go_wp2_with (first | (go_at_call 38; refine (s_l1Pow _ _ _ (by omega) (by omega) (by omega) (by omega)).mono ?_; rintro e w' ⟨rfl, rfl⟩) | go_in)
    go_ret
    exact ⟨ret_b HB.out.symm, rfl⟩
  · have HB := Lib.hid (elB_out g h)
    by_cases h1 : 1 ≤ g
    all_goals by_cases h2 : g ≤ 226
    · exact absurd ⟨h1, h2⟩ h
    all_goals
      clear h
      go_enter Try.func22, Try.ntmps22
      go_wp2
      all_goals (go_ret; exact ⟨ret_b HB.out.symm, rfl⟩)

set_option maxHeartbeats 400000 in
theorem s_ElementMul (a b : Int) (w : World) (ha : elB a = true) (hb : elB b = true) :
    Calls Try.prog 24 #[.int .i64 a, .int .i64 b] w fun x w' => x = .returned (.tuple #[.int .i64 (a * b % 227), .bool true]) ∧ w = w' := by
  have ra := elB_range ha
  have rb := elB_range hb
  obtain ⟨ra1, ra2⟩ := ra
  obtain ⟨rb1, rb2⟩ := rb
  obtain ⟨k1, k2⟩ := mul_le a b (by omega) (by omega)
  go_enter Try.func24, Try.ntmps24
  go_wp2_with (first | (go_at_call 22; refine (s_ElementOk _ _).mono ?_; rintro e w' ⟨rfl, rfl⟩) | go_in)
  go_ret2
  exact ⟨rfl, rfl⟩
set_option maxHeartbeats 400000 in
theorem s_ElementMul_no (a b : Int) (w : World) (h : (elB a && elB b) = false) :
    Calls Try.prog 24 #[.int .i64 a, .int .i64 b] w fun x w' => x = .returned (.tuple #[.int .i64 0, .bool false]) ∧ w = w' := by
  cases ha : elB a
  · go_enter Try.func24, Try.ntmps24
    go_wp2_with (first | (go_at_call 22; refine (s_ElementOk _ _).mono ?_; rintro e w' ⟨rfl, rfl⟩) | go_in)
    go_ret2
    exact ⟨rfl, rfl⟩
  · have hb : elB b = false := by rw [ha] at h; simpa using h
    clear h
    go_enter Try.func24, Try.ntmps24
    go_wp2_with (first | (go_at_call 22; refine (s_ElementOk _ _).mono ?_; rintro e w' ⟨rfl, rfl⟩) | go_in)
    go_ret2
    exact ⟨rfl, rfl⟩

set_option maxHeartbeats 400000 in
theorem s_ElementPow (g e : Int) (w : World) (hg : elB g = true) (he : numB e = true) :
    Calls Try.prog 26 #[.int .i64 g, .int .i64 e] w fun x w' => x = .returned (.tuple #[.int .i64 (powI g e 227), .bool true]) ∧ w = w' := by
  have ra := elB_range hg
  have rb := (numB_iff e).1 he
  obtain ⟨ra1, ra2⟩ := ra
  obtain ⟨rb1, rb2⟩ := rb
  go_enter Try.func26, Try.ntmps26
  go_wp2_with (first | (go_at_call 22; refine (s_ElementOk _ _).mono ?_; rintro e w' ⟨rfl, rfl⟩) | (go_at_call 12; refine (s_NumOk _ _).mono ?_; rintro e w' ⟨rfl, rfl⟩) | (go_at_call 38; refine (s_l1Pow _ _ _ (by omega) (by omega) (by omega) (by omega)).mono ?_; rintro e w' ⟨rfl, rfl⟩) | go_in)
  go_ret2
  exact ⟨rfl, rfl⟩
set_option maxHeartbeats 400000 in
theorem s_ElementPow_no (g e : Int) (w : World) (h : (elB g && numB e) = false) :
    Calls Try.prog 26 #[.int .i64 g, .int .i64 e] w fun x w' => x = .returned (.tuple #[.int .i64 0, .bool false]) ∧ w = w' := by
  cases ha : elB g
  · go_enter Try.func26, Try.ntmps26
    go_wp2_with (first | (go_at_call 22; refine (s_ElementOk _ _).mono ?_; rintro e w' ⟨rfl, rfl⟩) | go_in)
    go_ret2
    exact ⟨rfl, rfl⟩
  · have hb : numB e = false := by rw [ha] at h; simpa using h
    clear h
    go_enter Try.func26, Try.ntmps26
    go_wp2_with (first | (go_at_call 22; refine (s_ElementOk _ _).mono ?_; rintro e w' ⟨rfl, rfl⟩) | (go_at_call 12; refine (s_NumOk _ _).mono ?_; rintro e w' ⟨rfl, rfl⟩) | go_in)
    go_ret2
    exact ⟨rfl, rfl⟩

set_option maxHeartbeats 400000 in
theorem s_ElementLog (g : Int) (w : World) (hg : elB g = true) :
    Calls Try.prog 28 #[.int .i64 g] w fun x w' => x = .returned (.tuple #[.int .i64 (logI g), .bool true]) ∧ w = w' := by
  go_enter Try.func28, Try.ntmps28
  go_wp2_with (first | (go_at_call 22; refine (s_ElementOk _ _).mono ?_; rintro e w' ⟨rfl, rfl⟩) | (go_at_call 42; refine (s_l1Log _ _ hg).mono ?_; rintro e w' ⟨rfl, rfl⟩) | go_in)
  go_ret2
  exact ⟨rfl, rfl⟩
set_option maxHeartbeats 400000 in
theorem s_ElementLog_no (g : Int) (w : World) (hg : elB g = false) :
    Calls Try.prog 28 #[.int .i64 g] w fun x w' => x = .returned (.tuple #[.int .i64 0, .bool false]) ∧ w = w' := by
  go_enter Try.func28, Try.ntmps28
  go_wp2_with (first | (go_at_call 22; refine (s_ElementOk _ _).mono ?_; rintro e w' ⟨rfl, rfl⟩) | go_in)
  go_ret2
  exact ⟨rfl, rfl⟩

set_option maxHeartbeats 400000 in
theorem i_NumAdd (a b : Int) (w : World) (ha : numB a = true) (hb : numB b = true) :
    Calls Try.prog 15 #[.int .i64 a, .int .i64 b] w fun x w' => x = .returned (.tuple #[.int .i64 ((a + b) % 113), .bool true]) ∧ w = w' := by
  have ra := (numB_iff a).1 ha
  have rb := (numB_iff b).1 hb
  obtain ⟨ra1, ra2⟩ := ra
  obtain ⟨rb1, rb2⟩ := rb
  go_enter Try.func15, Try.ntmps15
  go_wp2_with (first | (go_at_call 13; refine (i_NumOk _ _).mono ?_; rintro e w' ⟨rfl, rfl⟩) | go_in)
  go_ret2
  exact ⟨by rfl, rfl⟩
set_option maxHeartbeats 400000 in
theorem i_NumAdd_no (a b : Int) (w : World) (h : (numB a && numB b) = false) :
    Calls Try.prog 15 #[.int .i64 a, .int .i64 b] w fun x w' => x = .returned (.tuple #[.int .i64 0, .bool false]) ∧ w = w' := by
  cases ha : numB a
  · go_enter Try.func15, Try.ntmps15
    go_wp2_with (first | (go_at_call 13; refine (i_NumOk _ _).mono ?_; rintro e w' ⟨rfl, rfl⟩) | go_in)
    go_ret2
    exact ⟨rfl, rfl⟩
  · have hb : numB b = false := by rw [ha] at h; simpa using h
    clear h
    go_enter Try.func15, Try.ntmps15
    go_wp2_with (first | (go_at_call 13; refine (i_NumOk _ _).mono ?_; rintro e w' ⟨rfl, rfl⟩) | go_in)
    go_ret2
    exact ⟨rfl, rfl⟩

set_option maxHeartbeats 400000 in
theorem i_NumSub (a b : Int) (w : World) (ha : numB a = true) (hb : numB b = true) :
    Calls Try.prog 17 #[.int .i64 a, .int .i64 b] w fun x w' => x = .returned (.tuple #[.int .i64 ((a - b) % 113), .bool true]) ∧ w = w' := by
  have ra := (numB_iff a).1 ha
  have rb := (numB_iff b).1 hb
  obtain ⟨ra1, ra2⟩ := ra
  obtain ⟨rb1, rb2⟩ := rb
  go_enter Try.func17, Try.ntmps17
  go_wp2_with (first | (go_at_call 13; refine (i_NumOk _ _).mono ?_; rintro e w' ⟨rfl, rfl⟩) | go_in)
  go_ret2
  exact ⟨by first | rfl | exact ret_ib (sub_same a b) | exact ret_ib (sub_same' a b), rfl⟩
set_option maxHeartbeats 400000 in
theorem i_NumSub_no (a b : Int) (w : World) (h : (numB a && numB b) = false) :
    Calls Try.prog 17 #[.int .i64 a, .int .i64 b] w fun x w' => x = .returned (.tuple #[.int .i64 0, .bool false]) ∧ w = w' := by
  cases ha : numB a
  · go_enter Try.func17, Try.ntmps17
    go_wp2_with (first | (go_at_call 13; refine (i_NumOk _ _).mono ?_; rintro e w' ⟨rfl, rfl⟩) | go_in)
    go_ret2
    exact ⟨rfl, rfl⟩
  · have hb : numB b = false := by rw [ha] at h; simpa using h
    clear h
    go_enter Try.func17, Try.ntmps17
    go_wp2_with (first | (go_at_call 13; refine (i_NumOk _ _).mono ?_; rintro e w' ⟨rfl, rfl⟩) | go_in)
    go_ret2
    exact ⟨rfl, rfl⟩

set_option maxHeartbeats 400000 in
theorem i_NumMul (a b : Int) (w : World) (ha : numB a = true) (hb : numB b = true) :
    Calls Try.prog 19 #[.int .i64 a, .int .i64 b] w fun x w' => x = .returned (.tuple #[.int .i64 (a * b % 113), .bool true]) ∧ w = w' := by
  have ra := (numB_iff a).1 ha
  have rb := (numB_iff b).1 hb
  obtain ⟨ra1, ra2⟩ := ra
  obtain ⟨rb1, rb2⟩ := rb
  have k := mul_le a b (by omega) (by omega)
  obtain ⟨k1, k2⟩ := k
  go_enter Try.func19, Try.ntmps19
  go_wp2_with (first | (go_at_call 13; refine (i_NumOk _ _).mono ?_; rintro e w' ⟨rfl, rfl⟩) | go_in)
  go_ret2
  exact ⟨by rfl, rfl⟩
set_option maxHeartbeats 400000 in
theorem i_NumMul_no (a b : Int) (w : World) (h : (numB a && numB b) = false) :
    Calls Try.prog 19 #[.int .i64 a, .int .i64 b] w fun x w' => x = .returned (.tuple #[.int .i64 0, .bool false]) ∧ w = w' := by
  cases ha : numB a
  · go_enter Try.func19, Try.ntmps19
    go_wp2_with (first | (go_at_call 13; refine (i_NumOk _ _).mono ?_; rintro e w' ⟨rfl, rfl⟩) | go_in)
    go_ret2
    exact ⟨rfl, rfl⟩
  · have hb : numB b = false := by rw [ha] at h; simpa using h
    clear h
    go_enter Try.func19, Try.ntmps19
    go_wp2_with (first | (go_at_call 13; refine (i_NumOk _ _).mono ?_; rintro e w' ⟨rfl, rfl⟩) | go_in)
    go_ret2
    exact ⟨rfl, rfl⟩

set_option maxHeartbeats 400000 in
theorem i_NumInv (a : Int) (w : World) (ha : numB a = true) (h0 : (a == 0) = false) :
    Calls Try.prog 21 #[.int .i64 a] w fun x w' => x = .returned (.tuple #[.int .i64 (powI a 111 113), .bool true]) ∧ w = w' := by
  have ra := (numB_iff a).1 ha
  obtain ⟨ra1, ra2⟩ := ra
  have ra3 : 1 ≤ a := by have := beq_eq_false_iff_ne.1 h0; omega
  go_enter Try.func21, Try.ntmps21
  go_wp2_with (first | (go_at_call 13; refine (i_NumOk _ _).mono ?_; rintro e w' ⟨rfl, rfl⟩) | (go_at_call 44; refine (i_powerModulo _ _ _ _ (by omega) (by omega) (by omega) (by omega) (by omega) (by omega)).mono ?_; rintro e w' ⟨rfl, rfl⟩) | go_in)
  go_ret2
  exact ⟨rfl, rfl⟩
set_option maxHeartbeats 400000 in
theorem i_NumInv_no (a : Int) (w : World) (h : (numB a && !(a == 0)) = false) :
    Calls Try.prog 21 #[.int .i64 a] w fun x w' => x = .returned (.tuple #[.int .i64 0, .bool false]) ∧ w = w' := by
  cases ha : numB a
  · go_enter Try.func21, Try.ntmps21
    go_wp2_with (first | (go_at_call 13; refine (i_NumOk _ _).mono ?_; rintro e w' ⟨rfl, rfl⟩) | go_in)
    go_ret2
    exact ⟨rfl, rfl⟩
  · have hb : (a == 0) = true := by rw [ha] at h; simpa using h
    clear h
    go_enter Try.func21, Try.ntmps21
    go_wp2_with (first | (go_at_call 13; refine (i_NumOk _ _).mono ?_; rintro e w' ⟨rfl, rfl⟩) | go_in)
    go_ret2
    exact ⟨rfl, rfl⟩

set_option maxHeartbeats 400000 in
theorem i_ElementOk (g : Int) (w : World) :
    Calls Try.prog 23 #[.int .i64 g] w fun x w' => x = .returned (.bool (elB g)) ∧ w = w' := by
  by_cases h : 1 ≤ g ∧ g ≤ 226
  · have HB := Lib.hid (elB_in g h)
    obtain ⟨h1, h2⟩ := h
    go_enter Try.func23, Try.ntmps23
    go_wp2_with (first | (go_at_call 44; refine (i_powerModulo _ _ _ _ (by omega) (by omega) (by omega) (by omega) (by omega) (by omega)).mono ?_; rintro e w' ⟨rfl, rfl⟩) | go_in)
    go_ret
    exact ⟨ret_b HB.out.symm, rfl⟩
  · have HB := Lib.hid (elB_out g h)
    by_cases h1 : 1 ≤ g
    all_goals by_cases h2 : g ≤ 226
    · exact absurd ⟨h1, h2⟩ h
    all_goals
      clear h
      go_enter Try.func23, Try.ntmps23
      go_wp2
      all_goals (go_ret; exact ⟨ret_b HB.out.symm, rfl⟩)

set_option maxHeartbeats 400000 in
theorem i_ElementMul (a b : Int) (w : World) (ha : elB a = true) (hb : elB b = true) :
    Calls Try.prog 25 #[.int .i64 a, .int .i64 b] w fun x w' => x = .returned (.tuple #[.int .i64 (a * b % 227), .bool true]) ∧ w = w' := by
  have ra := elB_range ha
  have rb := elB_range hb
  obtain ⟨ra1, ra2⟩ := ra
  obtain ⟨rb1, rb2⟩ := rb
  obtain ⟨k1, k2⟩ := mul_le a b (by omega) (by omega)
  go_enter Try.func25, Try.ntmps25
  go_wp2_with (first | (go_at_call 23; refine (i_ElementOk _ _).mono ?_; rintro e w' ⟨rfl, rfl⟩) | go_in)
  go_ret2
  exact ⟨rfl, rfl⟩
set_option maxHeartbeats 400000 in
theorem i_ElementMul_no (a b : Int) (w : World) (h : (elB a && elB b) = false) :
    Calls Try.prog 25 #[.int .i64 a, .int .i64 b] w fun x w' => x = .returned (.tuple #[.int .i64 0, .bool false]) ∧ w = w' := by
  cases ha : elB a
  · go_enter Try.func25, Try.ntmps25
    go_wp2_with (first | (go_at_call 23; refine (i_ElementOk _ _).mono ?_; rintro e w' ⟨rfl, rfl⟩) | go_in)
    go_ret2
    exact ⟨rfl, rfl⟩
  · have hb : elB b = false := by rw [ha] at h; simpa using h
    clear h
    go_enter Try.func25, Try.ntmps25
    go_wp2_with (first | (go_at_call 23; refine (i_ElementOk _ _).mono ?_; rintro e w' ⟨rfl, rfl⟩) | go_in)
    go_ret2
    exact ⟨rfl, rfl⟩

set_option maxHeartbeats 400000 in
theorem i_ElementPow (g e : Int) (w : World) (hg : elB g = true) (he : numB e = true) :
    Calls Try.prog 27 #[.int .i64 g, .int .i64 e] w fun x w' => x = .returned (.tuple #[.int .i64 (powI g e 227), .bool true]) ∧ w = w' := by
  have ra := elB_range hg
  have rb := (numB_iff e).1 he
  obtain ⟨ra1, ra2⟩ := ra
  obtain ⟨rb1, rb2⟩ := rb
  go_enter Try.func27, Try.ntmps27
  go_wp2_with (first | (go_at_call 23; refine (i_ElementOk _ _).mono ?_; rintro e w' ⟨rfl, rfl⟩) | (go_at_call 13; refine (i_NumOk _ _).mono ?_; rintro e w' ⟨rfl, rfl⟩) | (go_at_call 44; refine (i_powerModulo _ _ _ _ (by omega) (by omega) (by omega) (by omega) (by omega) (by omega)).mono ?_; rintro e w' ⟨rfl, rfl⟩) | go_in)
  go_ret2
  exact ⟨rfl, rfl⟩
set_option maxHeartbeats 400000 in
theorem i_ElementPow_no (g e : Int) (w : World) (h : (elB g && numB e) = false) :
    Calls Try.prog 27 #[.int .i64 g, .int .i64 e] w fun x w' => x = .returned (.tuple #[.int .i64 0, .bool false]) ∧ w = w' := by
  cases ha : elB g
  · go_enter Try.func27, Try.ntmps27
    go_wp2_with (first | (go_at_call 23; refine (i_ElementOk _ _).mono ?_; rintro e w' ⟨rfl, rfl⟩) | go_in)
    go_ret2
    exact ⟨rfl, rfl⟩
  · have hb : numB e = false := by rw [ha] at h; simpa using h
    clear h
    go_enter Try.func27, Try.ntmps27
    go_wp2_with (first | (go_at_call 23; refine (i_ElementOk _ _).mono ?_; rintro e w' ⟨rfl, rfl⟩) | (go_at_call 13; refine (i_NumOk _ _).mono ?_; rintro e w' ⟨rfl, rfl⟩) | go_in)
    go_ret2
    exact ⟨rfl, rfl⟩

set_option maxRecDepth 100000 in
set_option maxHeartbeats 400000 in
theorem i_ElementLog (g : Int) (w : World) (hg : elB g = true) :
    Calls Try.prog 29 #[.int .i64 g] w fun x w' => x = .returned (.tuple #[.int .i64 (logI g), .bool true]) ∧ w = w' := by
  have hr := elB_range hg
  obtain ⟨G, rfl⟩ := Int.eq_ofNat_of_zero_le (show 0 ≤ g by omega)
  have HB := Lib.hid hg
  clear hg
  have g1 : G < 227 := by omega
  clear hr
  go_enter Try.func29, Try.ntmps29
  go_wp2
  go_loop [4, 6] (fun x e => ∃ E X : Nat, E ≤ 113 ∧ X < 227 ∧ Hid (X = powN 4 E 227) ∧ Hid (noLog G E) ∧ x = .int .i64 X ∧ e = .int .i64 E) (fun _ e => 113 - (intOf e).toNat)
  case atStart => exact ⟨0, 1, by omega, by omega, Lib.hid (by simp [powN]), Lib.hid (noLog_0 G), rfl, rfl⟩
  case round =>
    obtain ⟨E, X, hE, hX, hI, hN, rfl, rfl⟩ := hrel
    by_cases h0 : E < 113
    · by_cases h1 : X = G
      · have H1 : ((X : Int) == (G : Int)) = true := by rw [beq_iff_eq]; omega
        have HP : Hid (((E : Nat) : Int) = logI G) := Lib.hid (log_hit h0 hI.out h1).1.symm
        clear hI hN h1 HB
        go_wp2
        go_ret2
        exact ⟨ret_ib HP.out, rfl⟩
      · have H1 : ((X : Int) == (G : Int)) = false := by rw [beq_eq_false_iff_ne]; omega
        have R : Hid (X * 4 % 227 = powN 4 (E + 1) 227) := Lib.hid (by rw [hI.out]; exact pow_step 4 E 227)
        have Q : Hid (noLog G (E + 1)) := Lib.hid (noLog_succ hN.out hI.out h1)
        clear hI hN h1 HB
        go_wp2
        go_round
        case rel => exact ⟨E + 1, X * 4 % 227, by omega, Nat.mod_lt _ (by omega), R, Q, by go_num, by go_num⟩
        case measure => simp [intOf]; omega
    · exfalso
      have : E = 113 := by omega
      have h := log_miss g1 (this ▸ hN.out)
      rw [HB.out] at h; exact absurd h (by simp)

set_option maxRecDepth 100000 in
set_option maxHeartbeats 400000 in
theorem i_ElementLog_no (g : Int) (w : World) (hg : elB g = false) :
    Calls Try.prog 29 #[.int .i64 g] w fun x w' => x = .returned (.tuple #[.int .i64 0, .bool false]) ∧ w = w' := by
  have HB := Lib.hid hg
  clear hg
  go_enter Try.func29, Try.ntmps29
  go_wp2
  go_loop [4, 5, 6] (fun x _ e => ∃ E X : Nat, E ≤ 113 ∧ X < 227 ∧ Hid (X = powN 4 E 227) ∧ x = .int .i64 X ∧ e = .int .i64 E) (fun _ _ e => 113 - (intOf e).toNat)
  case atStart => exact ⟨0, 1, by omega, by omega, Lib.hid (by simp [powN]), rfl, rfl⟩
  case round =>
    obtain ⟨E, X, hE, hX, hI, rfl, rfl⟩ := hrel
    by_cases h0 : E < 113
    · have h1 : ¬ ((X : Int) = g) := by
        intro hc
        have := (log_hit h0 hI.out (rfl : X = X)).2
        rw [hc, HB.out] at this; exact absurd this (by simp)
      have H1 : ((X : Int) == g) = false := by rw [beq_eq_false_iff_ne]; exact h1
      have R : Hid (X * 4 % 227 = powN 4 (E + 1) 227) := Lib.hid (by rw [hI.out]; exact pow_step 4 E 227)
      clear hI h1 HB
      go_wp2
      go_round
      case rel => exact ⟨E + 1, X * 4 % 227, by omega, Nat.mod_lt _ (by omega), R, by go_num, by go_num⟩
      case measure => simp [intOf]; omega
    · clear hI HB
      go_wp2
      go_ret2
      exact ⟨rfl, rfl⟩
end Go.Proofs.Ytimlanmndkilhaa
