/- Chapter 11: putting masks on and off; ChoiceTake of both sides. Made by tools/gen11/take.py. -/
import Derived.Test.YthfkjaofgpgoeaaWalk11a
namespace Go.Proofs.Ythfkjaofgpgoeaa
open Go.RowKit
set_option maxRecDepth 100000

set_option maxHeartbeats 1000000 in
theorem i_puttingOn (m : Int) (w : World) :
    Calls Try.prog 109 #[.int .i64 m] w fun e w' => ∃ b, e = .returned (.func (.func 138) #[] #[.pointer (some ⟨b, 0, none⟩)]) ∧ Hid (w.heap.size = b) ∧ Bx w' b #[.int .i64 m] 3 ∧ w' = w.alloc (.cells #[.int .i64 m] 3) := by
  go_enter Try.func109, Try.ntmps109
  go_wp2
  go_ret
  exact ⟨w.heap.size, rfl, Lib.hid rfl, Bx.new _ _ _, rfl⟩
set_option maxHeartbeats 1000000 in
theorem i_puttingOn1 (a m : Int) (b : Nat) (w : World) (hc : w.cell? ⟨b, 0, none⟩ = some (.int .i64 m)) (h1 : 0 ≤ a) (h2 : a ≤ 112) (h3 : 0 ≤ m) (h4 : m ≤ 112) :
    Calls Try.prog 138 #[.int .i64 a, .pointer (some ⟨b, 0, none⟩)] w fun e w' => e = .returned (.int .i64 ((a + m) % 113)) ∧ w = w' := by
  go_enter Try.func138, Try.ntmps138
  go_wp2_with fail
  refine (i_plus _ _ _ h1 h2 h3 h4).mono ?_
  rintro e w' ⟨rfl, rfl⟩
  go_wp2
  go_ret
  exact ⟨rfl, rfl⟩
set_option maxHeartbeats 1000000 in
theorem i_takingOff (m : Int) (w : World) :
    Calls Try.prog 111 #[.int .i64 m] w fun e w' => ∃ b, e = .returned (.func (.func 139) #[] #[.pointer (some ⟨b, 0, none⟩)]) ∧ Hid (w.heap.size = b) ∧ Bx w' b #[.int .i64 m] 3 ∧ w' = w.alloc (.cells #[.int .i64 m] 3) := by
  go_enter Try.func111, Try.ntmps111
  go_wp2
  go_ret
  exact ⟨w.heap.size, rfl, Lib.hid rfl, Bx.new _ _ _, rfl⟩
set_option maxHeartbeats 1000000 in
theorem i_takingOff1 (a m : Int) (b : Nat) (w : World) (hc : w.cell? ⟨b, 0, none⟩ = some (.int .i64 m)) (h1 : 0 ≤ a) (h2 : a ≤ 112) (h3 : 0 ≤ m) (h4 : m ≤ 112) :
    Calls Try.prog 139 #[.int .i64 a, .pointer (some ⟨b, 0, none⟩)] w fun e w' => e = .returned (.int .i64 ((a - m) % 113)) ∧ w = w' := by
  go_enter Try.func139, Try.ntmps139
  go_wp2_with fail
  refine (i_minus _ _ _ h1 h2 h3 h4).mono ?_
  rintro e w' ⟨rfl, rfl⟩
  go_wp2
  go_ret
  exact ⟨rfl, rfl⟩
set_option maxHeartbeats 4000000 in
theorem s_ChoiceTake (A : Option Addr) (n c : Nat) (xs : List Int) (ch m : Int) (w : World) (h : Rd w w.heap.size 1 A n (cI xs)) (hn : n ≤ 1048576) :
    Calls Try.prog 58 #[.slice A n c, .int .i64 ch, .int .i64 m] w fun e w' => e = .returned (.tuple #[.int .i64 (takeV xs ch m), .bool (takeB xs ch m)]) ∧ Below w.heap.size w w' := by
  have HL := Lib.hid h.len
  have HR := Lib.hid h
  clear h
  cases e1 : inB (n : Int) 2 8
  · have HF : Hid (takeV xs ch m = 0 ∧ takeB xs ch m = false) := Lib.hid (by simp [takeV, takeB, HL.out, e1])
    go_enter Try.func58, Try.ntmps58
    go_wp2_with fail
    refine (s_l6In _ _ _ _).mono ?_
    rintro e w' ⟨rfl, rfl⟩
    rw [e1]
    go_wp2
    go_ret2
    exact ⟨ret_ib2 HF.out.1.symm HF.out.2.symm, Below.refl _ _⟩
  obtain ⟨n2, n8⟩ := inB_iff.1 e1
  have im : IntKind.i64.wrap ((n : Int) - 1) = (n : Int) - 1 := IntWalk.i64_in _ (by omega)
  cases e2 : numsB xs
  · have HF : Hid (takeV xs ch m = 0 ∧ takeB xs ch m = false) := Lib.hid (by simp [takeV, takeB, HL.out, e1, e2])
    go_enter Try.func58, Try.ntmps58
    go_wp2_with fail
    refine (s_l6In _ _ _ _).mono ?_
    rintro e w' ⟨rfl, rfl⟩
    rw [e1]
    go_wp2_with fail
    refine (s_l1In _ _ _ _ _ HR.out hn).mono ?_
    rintro e w' ⟨rfl, rfl⟩
    rw [e2]
    go_wp2
    go_ret2
    exact ⟨ret_ib2 HF.out.1.symm HF.out.2.symm, Below.refl _ _⟩
  cases e3 : inB ch 0 ((n : Int) - 1)
  · have HF : Hid (takeV xs ch m = 0 ∧ takeB xs ch m = false) := Lib.hid (by simp [takeV, takeB, HL.out, e1, e2, e3])
    go_enter Try.func58, Try.ntmps58
    go_wp2_with fail
    refine (s_l6In _ _ _ _).mono ?_
    rintro e w' ⟨rfl, rfl⟩
    rw [e1]
    go_wp2_with fail
    refine (s_l1In _ _ _ _ _ HR.out hn).mono ?_
    rintro e w' ⟨rfl, rfl⟩
    rw [e2]
    go_wp2_with fail
    refine (s_l6In _ _ _ _).mono ?_
    rintro e w' ⟨rfl, rfl⟩
    rw [e3]
    go_wp2
    go_ret2
    exact ⟨ret_ib2 HF.out.1.symm HF.out.2.symm, Below.refl _ _⟩
  cases e4 : numB m
  · have HF : Hid (takeV xs ch m = 0 ∧ takeB xs ch m = false) := Lib.hid (by simp [takeV, takeB, HL.out, e1, e2, e3, e4])
    go_enter Try.func58, Try.ntmps58
    go_wp2_with fail
    refine (s_l6In _ _ _ _).mono ?_
    rintro e w' ⟨rfl, rfl⟩
    rw [e1]
    go_wp2_with fail
    refine (s_l1In _ _ _ _ _ HR.out hn).mono ?_
    rintro e w' ⟨rfl, rfl⟩
    rw [e2]
    go_wp2_with fail
    refine (s_l6In _ _ _ _).mono ?_
    rintro e w' ⟨rfl, rfl⟩
    rw [e3]
    go_wp2_with fail
    refine (s_NumOk _ _).mono ?_
    rintro e w' ⟨rfl, rfl⟩
    rw [e4]
    go_wp2
    go_ret2
    exact ⟨ret_ib2 HF.out.1.symm HF.out.2.symm, Below.refl _ _⟩
  have HB : Hid (takeB xs ch m = true) := Lib.hid (by simp [takeB, HL.out, e1, e2, e3, e4])
  obtain ⟨c0, c1⟩ := inB_iff.1 e3
  obtain ⟨m0, m1⟩ := (numB_iff m).1 e4
  obtain ⟨k, hk⟩ : ∃ k : Nat, ch = (k : Int) := ⟨ch.toNat, by omega⟩
  have HV : Hid (takeV xs ch m = (xs.getD k 0 - m) % 113) := Lib.hid (by unfold takeV; rw [if_pos HB.out, hk]; rfl)
  subst hk
  have hkn : k < n := by omega
  obtain ⟨a, z, rfl, ab, ac, HZ⟩ := HR.out.intAt hkn
  rw [← HZ.out] at HV
  have hz := nums_of_B e2 k
  rw [← HZ.out] at hz
  obtain ⟨z0, z1⟩ := hz
  have i1 : (k : Int) < (n : Int) := by omega
  go_enter Try.func58, Try.ntmps58
  go_wp2_with fail
  refine (s_l6In _ _ _ _).mono ?_
  rintro e w' ⟨rfl, rfl⟩
  rw [e1]
  go_wp2_with fail
  refine (s_l1In _ _ _ _ _ HR.out hn).mono ?_
  rintro e w' ⟨rfl, rfl⟩
  rw [e2]
  go_wp2_with fail
  refine (s_l6In _ _ _ _).mono ?_
  rintro e w' ⟨rfl, rfl⟩
  rw [e3]
  go_wp2_with fail
  refine (s_NumOk _ _).mono ?_
  rintro e w' ⟨rfl, rfl⟩
  rw [e4]
  go_wp2_with fail
  refine (s_l1Sub _ _ _ z0 z1 m0 m1).mono ?_
  rintro e w' ⟨rfl, rfl⟩
  go_wp2
  go_ret2
  exact ⟨ret_ib2 HV.out.symm HB.out.symm, Below.refl _ _⟩
theorem X_s_ChoiceTake (v : Value) (xs : List Int) (ch m : Int) (w : World) (h : RdIntS w w.heap.size v xs) (hs : szIntS xs ≤ 1048576) :
    Calls Try.prog 58 #[v, .int .i64 ch, .int .i64 m] w fun e w' => e = .returned (.tuple #[.int .i64 (takeV xs ch m), .bool (takeB xs ch m)]) ∧ Below w.heap.size w w' := by
  obtain ⟨A, n, c, rfl, _, r⟩ := h
  exact s_ChoiceTake A n c xs ch m w r (by have := r.len; unfold szIntS at hs; omega)

set_option maxHeartbeats 4000000 in
theorem i_ChoiceTake (A : Option Addr) (n c : Nat) (xs : List Int) (ch m : Int) (w : World) (h : Rd w w.heap.size 1 A n (cI xs)) (hn : n ≤ 1048576) :
    Calls Try.prog 59 #[.slice A n c, .int .i64 ch, .int .i64 m] w fun e w' => e = .returned (.tuple #[.int .i64 (takeV xs ch m), .bool (takeB xs ch m)]) ∧ Below w.heap.size w w' := by
  have HL := Lib.hid h.len
  have HR := Lib.hid h
  clear h
  cases e1 : inB (n : Int) 2 8
  · have HF : Hid (takeV xs ch m = 0 ∧ takeB xs ch m = false) := Lib.hid (by simp [takeV, takeB, HL.out, e1])
    go_enter Try.func59, Try.ntmps59
    go_wp2_with fail
    refine (i_choiceCount _ _).mono ?_
    rintro e w' ⟨rfl, rfl⟩
    rw [e1]
    go_wp2
    go_ret2
    exact ⟨ret_ib2 HF.out.1.symm HF.out.2.symm, Below.refl _ _⟩
  obtain ⟨n2, n8⟩ := inB_iff.1 e1
  have im : IntKind.i64.wrap ((n : Int) - 1) = (n : Int) - 1 := IntWalk.i64_in _ (by omega)
  cases e2 : numsB xs
  · have HF : Hid (takeV xs ch m = 0 ∧ takeB xs ch m = false) := Lib.hid (by simp [takeV, takeB, HL.out, e1, e2])
    go_enter Try.func59, Try.ntmps59
    go_wp2_with fail
    refine (i_choiceCount _ _).mono ?_
    rintro e w' ⟨rfl, rfl⟩
    rw [e1]
    go_wp2_with fail
    refine (i_numbersOk _ _ _ _ _ HR.out hn).mono ?_
    rintro e w' ⟨rfl, rfl⟩
    rw [e2]
    go_wp2
    go_ret2
    exact ⟨ret_ib2 HF.out.1.symm HF.out.2.symm, Below.refl _ _⟩
  cases e3 : inB ch 0 ((n : Int) - 1)
  · have HF : Hid (takeV xs ch m = 0 ∧ takeB xs ch m = false) := Lib.hid (by simp [takeV, takeB, HL.out, e1, e2, e3])
    go_enter Try.func59, Try.ntmps59
    go_wp2_with fail
    refine (i_choiceCount _ _).mono ?_
    rintro e w' ⟨rfl, rfl⟩
    rw [e1]
    go_wp2_with fail
    refine (i_numbersOk _ _ _ _ _ HR.out hn).mono ?_
    rintro e w' ⟨rfl, rfl⟩
    rw [e2]
    go_wp2_with fail
    refine (i_indexOk _ _ _).mono ?_
    rintro e w' ⟨rfl, rfl⟩
    rw [e3]
    go_wp2
    go_ret2
    exact ⟨ret_ib2 HF.out.1.symm HF.out.2.symm, Below.refl _ _⟩
  cases e4 : numB m
  · have HF : Hid (takeV xs ch m = 0 ∧ takeB xs ch m = false) := Lib.hid (by simp [takeV, takeB, HL.out, e1, e2, e3, e4])
    go_enter Try.func59, Try.ntmps59
    go_wp2_with fail
    refine (i_choiceCount _ _).mono ?_
    rintro e w' ⟨rfl, rfl⟩
    rw [e1]
    go_wp2_with fail
    refine (i_numbersOk _ _ _ _ _ HR.out hn).mono ?_
    rintro e w' ⟨rfl, rfl⟩
    rw [e2]
    go_wp2_with fail
    refine (i_indexOk _ _ _).mono ?_
    rintro e w' ⟨rfl, rfl⟩
    rw [e3]
    go_wp2_with fail
    refine (i_NumOk _ _).mono ?_
    rintro e w' ⟨rfl, rfl⟩
    rw [e4]
    go_wp2
    go_ret2
    exact ⟨ret_ib2 HF.out.1.symm HF.out.2.symm, Below.refl _ _⟩
  have HB : Hid (takeB xs ch m = true) := Lib.hid (by simp [takeB, HL.out, e1, e2, e3, e4])
  obtain ⟨c0, c1⟩ := inB_iff.1 e3
  obtain ⟨m0, m1⟩ := (numB_iff m).1 e4
  obtain ⟨k, hk⟩ : ∃ k : Nat, ch = (k : Int) := ⟨ch.toNat, by omega⟩
  have HV : Hid (takeV xs ch m = (xs.getD k 0 - m) % 113) := Lib.hid (by unfold takeV; rw [if_pos HB.out, hk]; rfl)
  subst hk
  have hkn : k < n := by omega
  obtain ⟨a, z, rfl, ab, ac, HZ⟩ := HR.out.intAt hkn
  rw [← HZ.out] at HV
  have hz := nums_of_B e2 k
  rw [← HZ.out] at hz
  obtain ⟨z0, z1⟩ := hz
  have i1 : (k : Int) < (n : Int) := by omega
  go_enter Try.func59, Try.ntmps59
  go_wp2_with fail
  refine (i_choiceCount _ _).mono ?_
  rintro e w' ⟨rfl, rfl⟩
  rw [e1]
  go_wp2_with fail
  refine (i_numbersOk _ _ _ _ _ HR.out hn).mono ?_
  rintro e w' ⟨rfl, rfl⟩
  rw [e2]
  go_wp2_with fail
  refine (i_indexOk _ _ _).mono ?_
  rintro e w' ⟨rfl, rfl⟩
  rw [e3]
  go_wp2_with fail
  refine (i_NumOk _ _).mono ?_
  rintro e w' ⟨rfl, rfl⟩
  rw [e4]
  go_wp2
  clear e1 e2 e3 e4 c0 c1
  have hb := Below.refl w.heap.size w
  have hal : ∀ o, Below w.heap.size w (w.alloc o) ∧ (w.alloc o).cell? (a.add k) = some (.int .i64 z) := fun o => ⟨hb.alloc (Nat.le_refl _) o, ((hb.alloc (Nat.le_refl _) o).cell (p := a.add k) (by rw [add_block]; exact ab)).trans ac⟩
  have stq0 : True := trivial
  go_region_held3 (fun w' => Below w.heap.size w w' ∧ w'.cell? (a.add k) = some (.int .i64 z))
    (first | exact ⟨hb, ac⟩ | exact ⟨hb.drew, ac⟩ | exact hal _ | exact ⟨(hal _).1.drew, (hal _).2⟩)
    (first
      | (have stq1 := stq0
         clear stq0
         go_at_call 111
         refine (i_takingOff _ _).mono ?_
         rintro e w1 ⟨b, rfl, zb, hx, hw1⟩
         have hs1 : Below w.heap.size w w1 ∧ w1.cell? (a.add k) = some (.int .i64 z) := by rw [hw1]; first | exact hal _ | exact ⟨(hal _).1.drew, (hal _).2⟩
         replace hb := hs1.1
         replace ac := hs1.2
         have hx0 : w1.cell? ⟨b, 0, none⟩ = some (.int .i64 m) := hx.cell 0
         clear hal hs1 hw1 zb
         have hal : True := trivial)
      | (have stq2 := stq1
         clear stq1
         go_at_call 139
         refine (i_takingOff1 _ _ _ _ hx0 z0 z1 m0 m1).mono ?_
         rintro e w2 ⟨rfl, rfl⟩))
  have HB2 := Lib.hid hb
  clear hb
  go_wp2
  go_ret2
  exact ⟨ret_ib2 HV.out.symm HB.out.symm, HB2.out⟩
theorem X_i_ChoiceTake (v : Value) (xs : List Int) (ch m : Int) (w : World) (h : RdIntS w w.heap.size v xs) (hs : szIntS xs ≤ 1048576) :
    Calls Try.prog 59 #[v, .int .i64 ch, .int .i64 m] w fun e w' => e = .returned (.tuple #[.int .i64 (takeV xs ch m), .bool (takeB xs ch m)]) ∧ Below w.heap.size w w' := by
  obtain ⟨A, n, c, rfl, _, r⟩ := h
  exact i_ChoiceTake A n c xs ch m w r (by have := r.len; unfold szIntS at hs; omega)

end Go.Proofs.Ythfkjaofgpgoeaa
