import Derived.Test.YtbabkaofhhaneaaWalk2b
import Derived.Test.YtbabkaofhhaneaaMath15
import Derived.Test.YtbabkaofhhaneaaAppend
import Derived.Test.YtbabkaofhhaneaaWalk1b
import Derived.Test.YtbabkaofhhaneaaBx
import Derived.Test.YtbabkaofhhaneaaWalk5h
import Derived.Test.YtbabkaofhhaneaaWalk5n
import Derived.Test.YtbabkaofhhaneaaWalk5e
import Derived.Test.YtbabkaofhhaneaaWalk5c
import Derived.Test.YtbabkaofhhaneaaFaceB
import Derived.Test.YtbabkaofhhaneaaLaw
import Derived.Deep.Grids
/- Chapter 2: PolyAt. -/
namespace Go.Proofs.Ytbabkaofhhaneaa
open Go.RowKit

def polyAtB (zs : List Int) (x : Int) : Bool := polyB zs && numB x
def polyAtV (zs : List Int) (x : Int) : Int := if polyAtB zs x = true then atI zs x else 0
theorem ret_ib2 {k : IntKind} {a b : Int} {c d : Bool} (h : a = b) (h2 : c = d) : Ending.returned (.tuple #[.int k a, .bool c]) = .returned (.tuple #[.int k b, .bool d]) := by rw [h, h2]
theorem polyAt_no {zs : List Int} {x : Int} (h : polyAtB zs x = false) : (0 : Int) = polyAtV zs x := by simp [polyAtV, h]
theorem polyAt_yes {zs : List Int} {x : Int} (h : polyAtB zs x = true) : atI zs x = polyAtV zs x := by simp [polyAtV, h]

end Go.Proofs.Ytbabkaofhhaneaa

/- Chapter 12: TableOk, PairTake, PairAnswer, PairAsk of both sides. Made by tools/gen12/basics.py. -/
namespace Go.Proofs.Ytbabkaofhhaneaa
open Go.RowKit
set_option maxRecDepth 100000

set_option maxHeartbeats 1000000 in
theorem s_TableOk (A : Option Addr) (n c : Nat) (xs : List Int) (w : World) (h : Rd w w.heap.size 1 A n (cI xs)) (hn : n ≤ 1048576) :
    Calls Try.prog 16 #[.slice A n c] w fun e w' => e = .returned (.bool (tabB xs)) ∧ w = w' := by
  have HL := Lib.hid h.len
  have HR := Lib.hid h
  clear h
  go_enter Try.func16, Try.ntmps16
  go_wp2_with fail
  refine (s_l6In _ _ _ _).mono ?_
  rintro e w' ⟨rfl, rfl⟩
  cases e1 : inB (n : Int) 1 16
  · have HF : Hid (tabB xs = false) := Lib.hid (by simp [tabB, HL.out, e1])
    go_wp2
    go_ret
    exact ⟨ret_bool HF.out.symm, rfl⟩
  have HF : Hid (tabB xs = numsB xs) := Lib.hid (by simp [tabB, HL.out, e1])
  clear e1
  go_wp2_with fail
  refine (s_l1In _ _ _ _ _ HR.out hn).mono ?_
  rintro e w' ⟨rfl, rfl⟩
  go_wp2
  go_ret
  exact ⟨ret_bool HF.out.symm, rfl⟩
set_option maxHeartbeats 1000000 in
theorem i_TableOk (A : Option Addr) (n c : Nat) (xs : List Int) (w : World) (h : Rd w w.heap.size 1 A n (cI xs)) (hn : n ≤ 1048576) :
    Calls Try.prog 18 #[.slice A n c] w fun e w' => e = .returned (.bool (tabB xs)) ∧ w = w' := by
  have HL := Lib.hid h.len
  have HR := Lib.hid h
  clear h
  by_cases h1 : 1 ≤ n
  · by_cases h2 : n ≤ 16
    · have HF : Hid (tabB xs = numsB xs) := Lib.hid (by rw [tabB, HL.out, inB_t ⟨by omega, by omega⟩, Bool.true_and])
      go_enter Try.func18, Try.ntmps18
      go_wp2_with fail
      refine (i_numbersOk _ _ _ _ _ HR.out hn).mono ?_
      rintro e w' ⟨rfl, rfl⟩
      go_wp2
      go_ret
      exact ⟨ret_bool HF.out.symm, rfl⟩
    · have HF : Hid (tabB xs = false) := Lib.hid (by rw [tabB, HL.out, inB_f (by omega), Bool.false_and])
      go_enter Try.func18, Try.ntmps18
      go_wp2
      go_ret
      exact ⟨ret_bool HF.out.symm, rfl⟩
  · have HF : Hid (tabB xs = false) := Lib.hid (by rw [tabB, HL.out, inB_f (by omega), Bool.false_and])
    go_enter Try.func18, Try.ntmps18
    go_wp2
    go_ret
    exact ⟨ret_bool HF.out.symm, rfl⟩
theorem X_s_TableOk (v : Value) (d : List Int) (w : World) (h : RdIntS w w.heap.size v d) (hs : szIntS d ≤ 1048576) :
    Calls Try.prog 16 #[v] w fun e w' => e = .returned (.bool (tabB d)) ∧ Below w.heap.size w w' := by
  obtain ⟨A, n, c, rfl, _, r⟩ := h
  refine (s_TableOk A n c d w r (by have := r.len; unfold szIntS at hs; omega)).mono ?_
  rintro e w' ⟨rfl, rfl⟩
  exact ⟨rfl, Below.refl _ _⟩
theorem X_i_TableOk (v : Value) (d : List Int) (w : World) (h : RdIntS w w.heap.size v d) (hs : szIntS d ≤ 1048576) :
    Calls Try.prog 18 #[v] w fun e w' => e = .returned (.bool (tabB d)) ∧ Below w.heap.size w w' := by
  obtain ⟨A, n, c, rfl, _, r⟩ := h
  refine (i_TableOk A n c d w r (by have := r.len; unfold szIntS at hs; omega)).mono ?_
  rintro e w' ⟨rfl, rfl⟩
  exact ⟨rfl, Below.refl _ _⟩

set_option maxHeartbeats 1000000 in
theorem i_inSet (A : Option Addr) (n c : Nat) (i : Int) (ss : List Bool) (w : World) (hl : ss.length = n) :
    Calls Try.prog 52 #[.slice A n c, .int .i64 i] w fun e w' => e = .returned (.bool (pairB ss i)) ∧ w = w' := by
  have HL := Lib.hid hl
  clear hl
  by_cases h2 : n ≤ 16
  · have HF : Hid (pairB ss i = inB i 0 ((n : Int) - 1)) := Lib.hid (by
      unfold pairB; rw [HL.out]
      cases e : inB i 0 ((n : Int) - 1)
      · simp
      · have := inB_iff.1 e
        rw [inB_t ⟨by omega, by omega⟩]; rfl)
    go_enter Try.func52, Try.ntmps52
    go_wp2_with fail
    refine (i_indexOk _ _ _).mono ?_
    rintro e w' ⟨rfl, rfl⟩
    go_wp2
    go_ret
    exact ⟨ret_bool HF.out.symm, rfl⟩
  · have HF : Hid (pairB ss i = false) := Lib.hid (by unfold pairB; rw [HL.out, inB_f (by omega)]; rfl)
    go_enter Try.func52, Try.ntmps52
    go_wp2
    go_ret
    exact ⟨ret_bool HF.out.symm, rfl⟩

set_option maxHeartbeats 4000000 in
theorem s_PairTake (A : Option Addr) (n c : Nat) (ss : List Bool) (a b i : Int) (w : World) (h : Rd w w.heap.size 1 A n (cB ss)) (hn : n ≤ 1048576) :
    Calls Try.prog 28 #[.slice A n c, .int .i64 a, .int .i64 b, .int .i64 i] w fun e w' => e = .returned (.tuple #[.int .i64 (ptakeV ss a b i), .bool (ptakeB ss a b i)]) ∧ Below w.heap.size w w' := by
  have HL := Lib.hid h.blen
  have HR := Lib.hid h
  clear h
  go_enter Try.func28, Try.ntmps28
  go_wp2_with fail
  refine (s_l6In _ _ _ _).mono ?_
  rintro e w' ⟨rfl, rfl⟩
  cases e1 : inB (n : Int) 1 16
  · have HF : Hid (ptakeV ss a b i = 0 ∧ ptakeB ss a b i = false) := Lib.hid (by simp [ptakeV, ptakeB, pairB, HL.out, e1])
    go_wp2
    go_ret2
    exact ⟨ret_ib2 HF.out.1.symm HF.out.2.symm, Below.refl _ _⟩
  obtain ⟨n1, n16⟩ := inB_iff.1 e1
  have im : IntKind.i64.wrap ((n : Int) - 1) = (n : Int) - 1 := IntWalk.i64_in _ (by omega)
  go_wp2_with fail
  refine (s_l6In _ _ _ _).mono ?_
  rintro e w' ⟨rfl, rfl⟩
  cases e2 : inB i 0 ((n : Int) - 1)
  · have HF : Hid (ptakeV ss a b i = 0 ∧ ptakeB ss a b i = false) := Lib.hid (by simp [ptakeV, ptakeB, pairB, HL.out, e2])
    go_wp2
    go_ret2
    exact ⟨ret_ib2 HF.out.1.symm HF.out.2.symm, Below.refl _ _⟩
  have HP : Hid (pairB ss i = true) := Lib.hid (by simp [pairB, HL.out, e1, e2])
  obtain ⟨i0, i1'⟩ := inB_iff.1 e2
  go_wp2_with fail
  refine (s_NumOk _ _).mono ?_
  rintro e w' ⟨rfl, rfl⟩
  cases e3 : numB a
  · have HF : Hid (ptakeV ss a b i = 0 ∧ ptakeB ss a b i = false) := Lib.hid (by simp [ptakeV, ptakeB, e3])
    go_wp2
    go_ret2
    exact ⟨ret_ib2 HF.out.1.symm HF.out.2.symm, Below.refl _ _⟩
  go_wp2_with fail
  refine (s_NumOk _ _).mono ?_
  rintro e w' ⟨rfl, rfl⟩
  cases e4 : numB b
  · have HF : Hid (ptakeV ss a b i = 0 ∧ ptakeB ss a b i = false) := Lib.hid (by simp [ptakeV, ptakeB, e4])
    go_wp2
    go_ret2
    exact ⟨ret_ib2 HF.out.1.symm HF.out.2.symm, Below.refl _ _⟩
  have HB : Hid (ptakeB ss a b i = true) := Lib.hid (by simp [ptakeB, HP.out, e3, e4])
  obtain ⟨a0, a1⟩ := (numB_iff a).1 e3
  obtain ⟨b0, b1⟩ := (numB_iff b).1 e4
  clear e1 e2 e3 e4
  obtain ⟨k, hk⟩ : ∃ k : Nat, i = (k : Int) := ⟨i.toNat, by omega⟩
  subst hk
  have hkn : k < n := by omega
  obtain ⟨ad, z, rfl, ab, ac, HZ⟩ := HR.out.boolAt hkn
  have i1 : (k : Int) < (n : Int) := by omega
  have HV : Hid (ptakeV ss a b k = if z = true then (a - b) % 113 else (b - a) % 113) := Lib.hid (by unfold ptakeV; rw [if_pos HB.out, HZ.out, Int.toNat_natCast])
  cases z
  · have HV2 : Hid (ptakeV ss a b k = (b - a) % 113) := Lib.hid (by rw [HV.out]; simp)
    clear HV
    go_wp2_with fail
    refine (s_l1Sub _ _ _ b0 b1 a0 a1).mono ?_
    rintro e w' ⟨rfl, rfl⟩
    go_wp2
    go_ret2
    exact ⟨ret_ib2 HV2.out.symm HB.out.symm, Below.refl _ _⟩
  · have HV2 : Hid (ptakeV ss a b k = (a - b) % 113) := Lib.hid (by rw [HV.out]; simp)
    clear HV
    go_wp2_with fail
    refine (s_l1Sub _ _ _ a0 a1 b0 b1).mono ?_
    rintro e w' ⟨rfl, rfl⟩
    go_wp2
    go_ret2
    exact ⟨ret_ib2 HV2.out.symm HB.out.symm, Below.refl _ _⟩
set_option maxHeartbeats 4000000 in
theorem i_PairTake (A : Option Addr) (n c : Nat) (ss : List Bool) (a b i : Int) (w : World) (h : Rd w w.heap.size 1 A n (cB ss)) (_hn : n ≤ 1048576) :
    Calls Try.prog 29 #[.slice A n c, .int .i64 a, .int .i64 b, .int .i64 i] w fun e w' => e = .returned (.tuple #[.int .i64 (ptakeV ss a b i), .bool (ptakeB ss a b i)]) ∧ Below w.heap.size w w' := by
  have HL := Lib.hid h.blen
  have HR := Lib.hid h
  clear h
  go_enter Try.func29, Try.ntmps29
  go_wp2_with fail
  refine (i_inSet A n c i ss _ HL.out).mono ?_
  rintro e w' ⟨rfl, rfl⟩
  cases e1 : pairB ss i
  · have HF : Hid (ptakeV ss a b i = 0 ∧ ptakeB ss a b i = false) := Lib.hid (by simp [ptakeV, ptakeB, e1])
    go_wp2
    go_ret2
    exact ⟨ret_ib2 HF.out.1.symm HF.out.2.symm, Below.refl _ _⟩
  have hp := e1
  simp only [pairB, Bool.and_eq_true, inB_iff] at hp
  rw [HL.out] at hp
  obtain ⟨⟨n1, n16⟩, i0, i1'⟩ := hp
  obtain ⟨k, hk⟩ : ∃ k : Nat, i = (k : Int) := ⟨i.toNat, by omega⟩
  subst hk
  have hkn : k < n := by omega
  obtain ⟨ad, z, rfl, ab, ac, HZ⟩ := HR.out.boolAt hkn
  have i1 : (k : Int) < (n : Int) := by omega
  have HP := Lib.hid e1
  clear e1
  cases z
  · cases e3 : numB b && numB a
    · have HF : Hid (ptakeV ss a b k = 0 ∧ ptakeB ss a b k = false) := Lib.hid (by have : ptakeB ss a b k = false := (by unfold ptakeB; rw [Bool.and_comm (numB a), e3, Bool.and_false]); exact ⟨by unfold ptakeV; rw [this]; rfl, this⟩)
      go_wp2_with fail
      refine (i_NumSub_no _ _ _ e3).mono ?_
      rintro e w' ⟨rfl, rfl⟩
      go_wp2
      go_ret2
      exact ⟨ret_ib2 HF.out.1.symm HF.out.2.symm, Below.refl _ _⟩
    · have HB : Hid (ptakeB ss a b k = true) := Lib.hid (by unfold ptakeB; rw [Bool.and_comm (numB a), e3, HP.out]; rfl)
      have HV : Hid (ptakeV ss a b k = (b - a) % 113) := Lib.hid (by unfold ptakeV; rw [if_pos HB.out, Int.toNat_natCast, ← HZ.out]; rfl)
      rw [Bool.and_eq_true] at e3
      go_wp2_with fail
      refine (i_NumSub _ _ _ e3.1 e3.2).mono ?_
      rintro e w' ⟨rfl, rfl⟩
      go_wp2
      go_ret2
      exact ⟨ret_ib2 HV.out.symm HB.out.symm, Below.refl _ _⟩
  · cases e3 : numB a && numB b
    · have HF : Hid (ptakeV ss a b k = 0 ∧ ptakeB ss a b k = false) := Lib.hid (by have : ptakeB ss a b k = false := (by unfold ptakeB; rw [e3, Bool.and_false]); exact ⟨by unfold ptakeV; rw [this]; rfl, this⟩)
      go_wp2_with fail
      refine (i_NumSub_no _ _ _ e3).mono ?_
      rintro e w' ⟨rfl, rfl⟩
      go_wp2
      go_ret2
      exact ⟨ret_ib2 HF.out.1.symm HF.out.2.symm, Below.refl _ _⟩
    · have HB : Hid (ptakeB ss a b k = true) := Lib.hid (by unfold ptakeB; rw [e3, HP.out]; rfl)
      have HV : Hid (ptakeV ss a b k = (a - b) % 113) := Lib.hid (by unfold ptakeV; rw [if_pos HB.out, Int.toNat_natCast, ← HZ.out]; rfl)
      rw [Bool.and_eq_true] at e3
      go_wp2_with fail
      refine (i_NumSub _ _ _ e3.1 e3.2).mono ?_
      rintro e w' ⟨rfl, rfl⟩
      go_wp2
      go_ret2
      exact ⟨ret_ib2 HV.out.symm HB.out.symm, Below.refl _ _⟩
theorem X_s_PairTake (v : Value) (d : List Bool) (a b i : Int) (w : World) (h : RdBoolS w w.heap.size v d) (hs : szBoolS d ≤ 1048576) :
    Calls Try.prog 28 #[v, .int .i64 a, .int .i64 b, .int .i64 i] w fun e w' => e = .returned (.tuple #[.int .i64 (ptakeV d a b i), .bool (ptakeB d a b i)]) ∧ Below w.heap.size w w' := by
  obtain ⟨A, n, c, rfl, _, r⟩ := h
  exact s_PairTake A n c d a b i w r (by have := r.blen; unfold szBoolS at hs; omega)
theorem X_i_PairTake (v : Value) (d : List Bool) (a b i : Int) (w : World) (h : RdBoolS w w.heap.size v d) (hs : szBoolS d ≤ 1048576) :
    Calls Try.prog 29 #[v, .int .i64 a, .int .i64 b, .int .i64 i] w fun e w' => e = .returned (.tuple #[.int .i64 (ptakeV d a b i), .bool (ptakeB d a b i)]) ∧ Below w.heap.size w w' := by
  obtain ⟨A, n, c, rfl, _, r⟩ := h
  exact i_PairTake A n c d a b i w r (by have := r.blen; unfold szBoolS at hs; omega)

set_option maxHeartbeats 4000000 in
theorem s_PairAnswer (A : Option Addr) (n c : Nat) (xs : List Int) (A' : Option Addr) (n' c' : Nat) (ss : List Bool) (w : World) (h : Rd w w.heap.size 1 A n (cI xs)) (hn : n ≤ 1048576) (h' : Rd w w.heap.size 1 A' n' (cB ss)) (hn' : n' ≤ 1048576) :
    Calls Try.prog 26 #[.slice A n c, .slice A' n' c'] w fun e w' => e = .returned (.tuple #[.int .i64 (answV xs ss), .bool (answB xs ss)]) ∧ Below w.heap.size w w' := by
  have HL := Lib.hid h.len
  have HL' := Lib.hid h'.blen
  have HR := Lib.hid h
  have HR' := Lib.hid h'
  clear h h'
  go_enter Try.func26, Try.ntmps26
  go_wp2_with fail
  refine (s_TableOk _ _ _ _ _ HR.out hn).mono ?_
  rintro e w' ⟨rfl, rfl⟩
  cases e1 : tabB xs
  · have HF : Hid (answV xs ss = 0 ∧ answB xs ss = false) := Lib.hid (by simp [answV, answB, e1])
    go_wp2
    go_ret2
    exact ⟨ret_ib2 HF.out.1.symm HF.out.2.symm, Below.refl _ _⟩
  have hp := e1
  simp only [tabB, Bool.and_eq_true, inB_iff] at hp
  rw [HL.out] at hp
  obtain ⟨⟨n1, n16⟩, hN⟩ := hp
  by_cases hnn : n' = n
  · subst hnn
    have HB : Hid (answB xs ss = true) := Lib.hid (by simp [answB, e1, HL.out, HL'.out])
    have HV : Hid (answV xs ss = sumK xs ss n') := Lib.hid (by rw [answV, if_pos HB.out, HL.out])
    have HN := Lib.hid (nums_of_B hN)
    clear e1 hN
    have hnz : ¬ n' = 0 := by omega
    go_wp2
    go_loop [6, 7] (fun s i => ∃ (k : Nat) (sm : Int), k ≤ n' ∧ i = .int .i64 k ∧ s = .int .i64 sm ∧ Hid (sm = sumK xs ss k)) (fun _ i => n' - (intOf i).toNat)
    case atStart => exact ⟨0, 0, Nat.zero_le _, rfl, rfl, Lib.hid rfl⟩
    case round =>
      obtain ⟨k, sm, hk, rfl, rfl, HS⟩ := hrel
      by_cases hlt : k < n'
      · obtain ⟨a, x, hAa, hab, hcx, HX⟩ := HR.out.intAt hlt
        obtain ⟨a', z, hAa', hab', hcz, HZ⟩ := HR'.out.boolAt hlt
        subst hAa
        subst hAa'
        have sb := sumK_bd xs ss k
        have xb := HN.out k
        rw [← HS.out] at sb
        rw [← HX.out] at xb
        obtain ⟨s0, s1⟩ := sb
        obtain ⟨x0, x1⟩ := xb
        have HS2 : Hid (sumK xs ss (k + 1) = if z = true then (sm + x) % 113 else sm) := Lib.hid (by rw [sumK, ← HS.out, ← HX.out, ← HZ.out])
        have i0 : (0 : Int) ≤ (k : Int) := by omega
        have i1 : (k : Int) < (n' : Int) := by omega
        cases z
        · have HS3 : Hid (sm = sumK xs ss (k + 1)) := Lib.hid (by rw [HS2.out]; simp)
          clear HS2 HS
          go_wp2
          go_round
          case rel => exact ⟨k + 1, sm, by omega, by go_num, rfl, HS3⟩
          case measure => simp [intOf] <;> omega
        · have HS3 : Hid ((sm + x) % 113 = sumK xs ss (k + 1)) := Lib.hid (by rw [HS2.out]; simp)
          clear HS2 HS
          go_wp2
          go_round
          case rel => exact ⟨k + 1, _, by omega, by go_num, rfl, HS3⟩
          case measure => simp [intOf] <;> omega
      · obtain rfl : k = n' := by omega
        have HV2 : Hid (answV xs ss = sm) := Lib.hid (by rw [HV.out, HS.out])
        clear HS HV
        go_wp2
        go_ret2
        exact ⟨ret_ib2 HV2.out.symm HB.out.symm, Below.refl _ _⟩
  · have q0 : ((n' : Int) != (n : Int)) = true := by rw [bne_iff_ne]; omega
    have q1 : ¬ (n' : Int) = (n : Int) := by omega
    have HF : Hid (answV xs ss = 0 ∧ answB xs ss = false) := Lib.hid (by simp [answV, answB, e1, HL.out, HL'.out, hnn])
    clear e1 hN
    go_wp2
    go_ret2
    exact ⟨ret_ib2 HF.out.1.symm HF.out.2.symm, Below.refl _ _⟩

set_option maxHeartbeats 4000000 in
theorem i_sums1 (b bt : Nat) (A : Option Addr) (n c : Nat) (xs : List Int) (A' : Option Addr) (c' : Nat) (ss : List Bool) (w : World) (hb : w.cell? ⟨b, 0, none⟩ = some (.pointer (some ⟨bt, 0, none⟩))) (ht : w.cell? ⟨bt, 0, none⟩ = some (.slice A n c))
    (h : Rd w w.heap.size 1 A n (cI xs)) (hn : n ≤ 16) (h' : Rd w w.heap.size 1 A' n (cB ss)) (hN : Nums xs) :
    Calls Try.prog 79 #[.slice A' n c', .pointer (some ⟨b, 0, none⟩)] w fun e w' => e = .returned (.int .i64 (sumK xs ss n)) ∧ w = w' := by
  have HR := Lib.hid h
  have HR' := Lib.hid h'
  have HN := Lib.hid hN
  clear h h' hN
  go_enter Try.func79, Try.ntmps79
  go_wp2
  go_loop [4, 11] (fun s i => ∃ (k : Nat) (sm : Int), k ≤ n ∧ i = .int .i64 k ∧ s = .int .i64 sm ∧ Hid (sm = sumK xs ss k)) (fun _ i => n - (intOf i).toNat)
  case atStart => exact ⟨0, 0, Nat.zero_le _, rfl, rfl, Lib.hid rfl⟩
  case round =>
    obtain ⟨k, sm, hk, rfl, rfl, HS⟩ := hrel
    by_cases hlt : k < n
    · obtain ⟨a, x, hAa, hab, hcx, HX⟩ := HR.out.intAt hlt
      obtain ⟨a', z, hAa', hab', hcz, HZ⟩ := HR'.out.boolAt hlt
      subst hAa
      subst hAa'
      have sb := sumK_bd xs ss k
      have xb := HN.out k
      rw [← HS.out] at sb
      rw [← HX.out] at xb
      obtain ⟨s0, s1⟩ := sb
      obtain ⟨x0, x1⟩ := xb
      have HS2 : Hid (sumK xs ss (k + 1) = if z = true then (sm + x) % 113 else sm) := Lib.hid (by rw [sumK, ← HS.out, ← HX.out, ← HZ.out])
      have i0 : (0 : Int) ≤ (k : Int) := by omega
      have i1 : (k : Int) < (n : Int) := by omega
      cases z
      · have HS3 : Hid (sm = sumK xs ss (k + 1)) := Lib.hid (by rw [HS2.out]; simp)
        clear HS2 HS
        go_wp2
        go_round
        case rel => exact ⟨k + 1, sm, by omega, by go_num, rfl, HS3⟩
        case measure => simp [intOf] <;> omega
      · have HS3 : Hid ((sm + x) % 113 = sumK xs ss (k + 1)) := Lib.hid (by rw [HS2.out]; simp)
        clear HS2 HS
        go_wp2_with fail
        refine (i_plus _ _ _ s0 s1 x0 x1).mono ?_
        rintro e w' ⟨rfl, rfl⟩
        go_wp2
        go_round
        case rel => exact ⟨k + 1, _, by omega, by go_num, rfl, HS3⟩
        case measure => simp [intOf] <;> omega
    · obtain rfl : k = n := by omega
      have HV2 : Hid (sumK xs ss k = sm) := Lib.hid HS.out.symm
      clear HS
      go_wp2
      go_ret
      exact ⟨ret_i HV2.out.symm, rfl⟩
set_option maxHeartbeats 1000000 in
theorem i_sums (bt : Nat) (w : World) :
    Calls Try.prog 54 #[.pointer (some ⟨bt, 0, none⟩)] w fun e w' => e = .returned (.func (.func 79) #[] #[.pointer (some ⟨w.heap.size, 0, none⟩)]) ∧ w' = w.alloc (.cells #[.pointer (some ⟨bt, 0, none⟩)] 99) := by
  go_enter Try.func54, Try.ntmps54
  go_wp2
  go_ret
  exact ⟨rfl, rfl⟩

set_option maxHeartbeats 4000000 in
theorem i_PairAnswer (A : Option Addr) (n c : Nat) (xs : List Int) (A' : Option Addr) (n' c' : Nat) (ss : List Bool) (w : World) (h : Rd w w.heap.size 1 A n (cI xs)) (hn : n ≤ 1048576) (h' : Rd w w.heap.size 1 A' n' (cB ss)) (hn' : n' ≤ 1048576) :
    Calls Try.prog 27 #[.slice A n c, .slice A' n' c'] w fun e w' => e = .returned (.tuple #[.int .i64 (answV xs ss), .bool (answB xs ss)]) ∧ Below w.heap.size w w' := by
  have HL := Lib.hid h.len
  have HL' := Lib.hid h'.blen
  have HR := Lib.hid h
  have HR' := Lib.hid h'
  clear h h'
  go_enter Try.func27, Try.ntmps27
  go_wp2_with fail
  refine (i_TableOk _ _ _ _ _ HR.out hn).mono ?_
  rintro e w' ⟨rfl, rfl⟩
  cases e1 : tabB xs
  · have HF : Hid (answV xs ss = 0 ∧ answB xs ss = false) := Lib.hid (by simp [answV, answB, e1])
    go_wp2
    go_ret2
    exact ⟨ret_ib2 HF.out.1.symm HF.out.2.symm, Below.refl _ _⟩
  have hp := e1
  simp only [tabB, Bool.and_eq_true, inB_iff] at hp
  rw [HL.out] at hp
  obtain ⟨⟨n1, n16⟩, hN⟩ := hp
  by_cases hnn : n' = n
  · subst hnn
    have HB : Hid (answB xs ss = true) := Lib.hid (by simp [answB, e1, HL.out, HL'.out])
    have HV : Hid (answV xs ss = sumK xs ss n') := Lib.hid (by rw [answV, if_pos HB.out, HL.out])
    have HN := Lib.hid (nums_of_B hN)
    clear e1 hN
    have hnz : ¬ n' = 0 := by omega
    obtain ⟨w1, HW1⟩ : ∃ w1, Hid (w.alloc (.cells #[.slice A n' c] 65) = w1) := ⟨_, Lib.hid rfl⟩
    have HB1 : Hid (Below w.heap.size w w1) := Lib.hid (HW1.out ▸ (Below.refl _ _).alloc (Nat.le_refl _) _)
    have HX1 : Hid (Bx w1 w.heap.size #[.slice A n' c] 65) := Lib.hid (HW1.out ▸ Bx.new _ _ _)
    go_wp2_with fail
    rw [HW1.out]
    refine (i_sums _ _).mono ?_
    rintro e w2 ⟨rfl, hw2⟩
    have HB2 : Hid (Below w.heap.size w w2) := Lib.hid (by rw [hw2]; exact HB1.out.alloc HB1.out.size _)
    have c1 : w2.cell? ⟨w1.heap.size, 0, none⟩ = some (.pointer (some ⟨w.heap.size, 0, none⟩)) := by rw [hw2]; exact (Bx.new _ _ _).cell 0
    have c2 : w2.cell? ⟨w.heap.size, 0, none⟩ = some (.slice A n' c) := by rw [hw2]; exact (HX1.out.alloc _).cell 0
    clear hw2
    go_wp2_with fail
    refine (i_sums1 _ _ A n' c xs A' c' ss w2 c1 c2 ((HR.out.below HB2.out).more HB2.out.size) (by omega) ((HR'.out.below HB2.out).more HB2.out.size) HN.out).mono ?_
    rintro e w' ⟨rfl, rfl⟩
    go_wp2
    go_ret2
    exact ⟨ret_ib2 HV.out.symm HB.out.symm, HB2.out⟩
  · have q0 : ((n' : Int) != (n : Int)) = true := by rw [bne_iff_ne]; omega
    have q1 : ¬ (n' : Int) = (n : Int) := by omega
    have HF : Hid (answV xs ss = 0 ∧ answB xs ss = false) := Lib.hid (by simp [answV, answB, e1, HL.out, HL'.out, hnn])
    clear e1 hN
    go_wp2
    go_ret2
    exact ⟨ret_ib2 HF.out.1.symm HF.out.2.symm, Below.refl _ _⟩
theorem X_s_PairAnswer (v v' : Value) (d : List Int) (d' : List Bool) (w : World) (h : RdIntS w w.heap.size v d) (h' : RdBoolS w w.heap.size v' d') (hs : szIntS d ≤ 1048576) (hs' : szBoolS d' ≤ 1048576) :
    Calls Try.prog 26 #[v, v'] w fun e w' => e = .returned (.tuple #[.int .i64 (answV d d'), .bool (answB d d')]) ∧ Below w.heap.size w w' := by
  obtain ⟨A, n, c, rfl, _, r⟩ := h
  obtain ⟨A', n', c', rfl, _, r'⟩ := h'
  exact s_PairAnswer A n c d A' n' c' d' w r (by have := r.len; unfold szIntS at hs; omega) r' (by have := r'.blen; unfold szBoolS at hs'; omega)
theorem X_i_PairAnswer (v v' : Value) (d : List Int) (d' : List Bool) (w : World) (h : RdIntS w w.heap.size v d) (h' : RdBoolS w w.heap.size v' d') (hs : szIntS d ≤ 1048576) (hs' : szBoolS d' ≤ 1048576) :
    Calls Try.prog 27 #[v, v'] w fun e w' => e = .returned (.tuple #[.int .i64 (answV d d'), .bool (answB d d')]) ∧ Below w.heap.size w w' := by
  obtain ⟨A, n, c, rfl, _, r⟩ := h
  obtain ⟨A', n', c', rfl, _, r'⟩ := h'
  exact i_PairAnswer A n c d A' n' c' d' w r (by have := r.len; unfold szIntS at hs; omega) r' (by have := r'.blen; unfold szBoolS at hs'; omega)
end Go.Proofs.Ytbabkaofhhaneaa

/- Chapter 12: a copy of truths; PairAsk of both sides. Made by tools/gen12/ask.py. -/
namespace Go.Proofs.Ytbabkaofhhaneaa
open Go.RowKit
set_option maxRecDepth 100000

set_option maxHeartbeats 2000000 in
theorem i_CloneB (a : Addr) (n c : Nat) (ss : List Bool) (w : World) (h : Rd w w.heap.size 1 (some a) n (cB ss)) (hn : n ≤ 1048576) :
    Calls Try.prog 53 #[.slice (some a) n c] w fun e w' => ∃ A' c', e = .returned (.slice A' n c') ∧ Ow w' w.heap.size w'.heap.size 4 1 A' n c' (cB ss) ∧ Below w.heap.size w w' := by
  have HLIT1 := Lib.hid (own_empty w 4 1)
  have HRD1 : Hid (Rd (w.alloc (.cells #[] 4)) w.heap.size 1 (some a) n (cB ss)) := Lib.hid (h.below ((Below.refl _ _).alloc (Nat.le_refl _) _))
  have he : ∀ w : World, (binOp .eql 26 (.slice (some a) n c) (.slice none 0 0)).run Try.prog w = .ok (.bool false) w := fun _ => rfl
  clear h
  go_enter Try.func53, Try.ntmps53
  go_wp2_with (at_builtin
               refine wpList_append_rd rfl (.tmp 5) (.tmp 6) _ rfl w.heap.size 4 _ 1 1 Try.underlying26 info_bool rfl (by decide) (.slice (some ⟨w.heap.size, 0, none⟩) 0 0) 0 [] rfl HLIT1.out _ _ n c (cB ss) rfl HRD1.out (cB_one _) (by unfold maxLen; omega) (by omega) (by simp) ?_
               intro v1 w1 hown hgr hat
               rw [Nat.zero_add, List.nil_append] at hown
               obtain ⟨A1, c1, hv1, ho1⟩ := Ow.of_own hown
               subst hv1
               have HO1 : Hid (Ow w1 w.heap.size w1.heap.size 4 1 A1 n c1 (cB ss)) := Lib.hid ho1
               have HB1 : Hid (Below w.heap.size w w1) := Lib.hid (below_grown ((Below.refl _ _).alloc (Nat.le_refl _) _) hgr (fun g e => by simp [Value.ownBlock] at e; omega) (by simp))
               clear hown hgr hat ho1 HLIT1 HRD1)
  go_ret
  exact ⟨_, _, rfl, HO1.out, HB1.out⟩

set_option maxHeartbeats 4000000 in
theorem X_s_PairAsk (v : Value) (ss : List Bool) (i : Int) (w : World) (h : RdBoolS w w.heap.size v ss) (hs : szBoolS ss ≤ 1048576) :
    Calls Try.prog 20 #[v, .int .i64 i] w fun e w' => ∃ g1 g2 mid, e = .returned (.tuple #[g1, g2, .bool (R_PairAsk_2 ss i)]) ∧ w.heap.size ≤ mid ∧ mid ≤ w'.heap.size ∧ OwBoolS w' w.heap.size mid g1 (R_PairAsk_0 ss i) ∧ OwBoolS w' mid w'.heap.size g2 (R_PairAsk_1 ss i) ∧ Below w.heap.size w w' := by
  obtain ⟨A, n, c, rfl, hm, h⟩ := h
  have hn : n ≤ 1048576 := by have := h.blen; unfold szBoolS at hs; omega
  have HL := Lib.hid h.blen
  have HR := Lib.hid h
  clear h hs hm
  go_enter Try.func20, Try.ntmps20
  go_wp2_with fail
  refine (s_l6In _ _ _ _).mono ?_
  rintro e w' ⟨rfl, rfl⟩
  cases e1 : inB (n : Int) 1 16
  · have HF : Hid (R_PairAsk_2 ss i = false ∧ R_PairAsk_0 ss i = [] ∧ R_PairAsk_1 ss i = []) := Lib.hid (by simp [R_PairAsk_2, R_PairAsk_1, R_PairAsk_0, pairB, HL.out, e1])
    go_wp2
    go_ret3
    refine ⟨_, _, w.heap.size, ret_vvb2 HF.out.1.symm, Nat.le_refl _, Nat.le_refl _, ?_, ?_, Below.refl _ _⟩
    · rw [HF.out.2.1]; exact OwBoolS.nil_ _ _ _
    · rw [HF.out.2.2]; exact OwBoolS.nil_ _ _ _
  obtain ⟨n1, n16⟩ := inB_iff.1 e1
  have im : IntKind.i64.wrap ((n : Int) - 1) = (n : Int) - 1 := IntWalk.i64_in _ (by omega)
  go_wp2_with fail
  refine (s_l6In _ _ _ _).mono ?_
  rintro e w' ⟨rfl, rfl⟩
  cases e2 : inB i 0 ((n : Int) - 1)
  · have HF : Hid (R_PairAsk_2 ss i = false ∧ R_PairAsk_0 ss i = [] ∧ R_PairAsk_1 ss i = []) := Lib.hid (by simp [R_PairAsk_2, R_PairAsk_1, R_PairAsk_0, pairB, HL.out, e2])
    go_wp2
    go_ret3
    refine ⟨_, _, w.heap.size, ret_vvb2 HF.out.1.symm, Nat.le_refl _, Nat.le_refl _, ?_, ?_, Below.refl _ _⟩
    · rw [HF.out.2.1]; exact OwBoolS.nil_ _ _ _
    · rw [HF.out.2.2]; exact OwBoolS.nil_ _ _ _
  have HP : Hid (pairB ss i = true) := Lib.hid (by simp [pairB, HL.out, e1, e2])
  obtain ⟨i0, i1'⟩ := inB_iff.1 e2
  clear e1 e2 im
  obtain ⟨k, hk⟩ : ∃ k : Nat, i = (k : Int) := ⟨i.toNat, by omega⟩
  subst hk
  have hkn : k < n := by omega
  obtain ⟨ad, z, hA, ab, ac, HZ⟩ := HR.out.boolAt hkn
  subst hA
  have i1 : (k : Int) < (n : Int) := by omega
  have HF0 : Hid (R_PairAsk_0 ss k = ss) := Lib.hid (by unfold R_PairAsk_0; rw [if_pos HP.out])
  have HF1 : Hid (R_PairAsk_1 ss k = ss.set k (!z)) := Lib.hid (by unfold R_PairAsk_1; rw [if_pos HP.out, Int.toNat_natCast, ← HZ.out])
  have HF2 : Hid (R_PairAsk_2 ss k = true) := Lib.hid HP.out
  have HLIT1 := Lib.hid (own_empty w 4 1)
  have HRD1 : Hid (Rd (w.alloc (.cells #[] 4)) w.heap.size 1 (some ad) n (cB ss)) := Lib.hid (HR.out.below ((Below.refl _ _).alloc (Nat.le_refl _) _))
  clear ac
  go_wp2_with (first
   | (at_builtin
      refine wpList_append_rd rfl (.tmp 21) (.tmp 22) _ rfl w.heap.size 4 _ 1 1 Try.underlying26 info_bool rfl (by decide) (.slice (some ⟨w.heap.size, 0, none⟩) 0 0) 0 [] rfl HLIT1.out _ _ n c (cB ss) rfl HRD1.out (cB_one _) (by unfold maxLen; omega) (by omega) (by simp) ?_
      intro v1 w1 hown hgr hat
      rw [Nat.zero_add, List.nil_append] at hown
      obtain ⟨A1, c1, hv1, ho1⟩ := Ow.of_own hown
      subst hv1
      have HO1 : Hid (Ow w1 w.heap.size w1.heap.size 4 1 A1 n c1 (cB ss)) := Lib.hid ho1
      have HB1 : Hid (Below w.heap.size w w1) := Lib.hid (below_grown ((Below.refl _ _).alloc (Nat.le_refl _) _) hgr (fun g e => by simp [Value.ownBlock] at e; omega) (by simp))
      have HLIT2 := Lib.hid (own_empty w1 4 1)
      have HRD2 : Hid (Rd (w1.alloc (.cells #[] 4)) w1.heap.size 1 (some ad) n (cB ss)) := Lib.hid (((HR.out.below HB1.out).more HB1.out.size).below ((Below.refl _ _).alloc (Nat.le_refl _) _))
      clear hown hgr hat ho1 HLIT1 HRD1)
   | (at_builtin
      refine wpList_append_rd rfl (.tmp 24) (.tmp 25) _ rfl w1.heap.size 4 _ 1 1 Try.underlying26 info_bool rfl (by decide) (.slice (some ⟨w1.heap.size, 0, none⟩) 0 0) 0 [] rfl HLIT2.out _ _ n c (cB ss) rfl HRD2.out (cB_one _) (by unfold maxLen; omega) (by omega) (by simp) ?_
      intro v2 w2 hown hgr hat
      rw [Nat.zero_add, List.nil_append] at hown
      obtain ⟨A2, c2, hv2, ho2⟩ := Ow.of_own hown
      subst hv2
      have HO2 : Hid (Ow w2 w1.heap.size w2.heap.size 4 1 A2 n c2 (cB ss)) := Lib.hid ho2
      have HB2 : Hid (Below w1.heap.size w1 w2) := Lib.hid (below_grown ((Below.refl _ _).alloc (Nat.le_refl _) _) hgr (fun g e => by simp [Value.ownBlock] at e; omega) (by simp))
      have HO12 := Lib.hid (HO1.out.below HB2.out (Nat.le_refl _))
      have HB12 := Lib.hid (HB1.out.trans (HB2.out.mono HB1.out.size))
      obtain ⟨g2, cs2, hA2, g20, g21, _, _⟩ := HO2.out.lt (by omega)
      subst hA2
      obtain ⟨z2, hc2, HZ2⟩ := HO2.out.boolAt hkn
      obtain rfl : z2 = z := HZ2.out.trans HZ.out.symm
      have hf2 := HO2.out.free (by omega) k
      have z21 := HB2.out.size
      have z1 := HB1.out.size
      clear hown hgr hat ho2 HLIT2 HRD2))
  go_ret3
  refine ⟨_, _, w1.heap.size, ret_vvb2 HF2.out.symm, z1, ?_, ?_, ?_, ?_⟩
  · rw [World.size_setCell]; exact z21
  · rw [HF0.out]
    exact ⟨by rw [HL.out]; exact hn, _, _, _, rfl, HO12.out.below (Below.setCell (Below.refl w1.heap.size _) (p := ⟨g2, k, none⟩) g20 _) (Nat.le_refl _)⟩
  · rw [HF1.out]
    refine ⟨by rw [List.length_set, HL.out]; exact hn, _, _, _, rfl, ?_⟩
    have := HO2.out.set k (.bool (!z2))
    rw [cB_set] at this
    rw [World.size_setCell]; exact this
  · exact HB12.out.setCell (p := ⟨g2, k, none⟩) (Nat.le_trans z1 g20) _

set_option maxHeartbeats 4000000 in
theorem X_i_PairAsk (v : Value) (ss : List Bool) (i : Int) (w : World) (h : RdBoolS w w.heap.size v ss) (hs : szBoolS ss ≤ 1048576) :
    Calls Try.prog 22 #[v, .int .i64 i] w fun e w' => ∃ g1 g2 mid, e = .returned (.tuple #[g1, g2, .bool (R_PairAsk_2 ss i)]) ∧ w.heap.size ≤ mid ∧ mid ≤ w'.heap.size ∧ OwBoolS w' mid w'.heap.size g1 (R_PairAsk_0 ss i) ∧ OwBoolS w' w.heap.size mid g2 (R_PairAsk_1 ss i) ∧ Below w.heap.size w w' := by
  obtain ⟨A, n, c, rfl, hm, h⟩ := h
  have hn : n ≤ 1048576 := by have := h.blen; unfold szBoolS at hs; omega
  have HL := Lib.hid h.blen
  have HR := Lib.hid h
  clear h hs hm
  go_enter Try.func22, Try.ntmps22
  go_wp2_with fail
  refine (i_inSet A n c i ss _ HL.out).mono ?_
  rintro e w' ⟨rfl, rfl⟩
  cases e1 : pairB ss i
  · have HF : Hid (R_PairAsk_2 ss i = false ∧ R_PairAsk_0 ss i = [] ∧ R_PairAsk_1 ss i = []) := Lib.hid (by simp [R_PairAsk_2, R_PairAsk_1, R_PairAsk_0, e1])
    go_wp2
    go_ret3
    refine ⟨_, _, w.heap.size, ret_vvb2 HF.out.1.symm, Nat.le_refl _, Nat.le_refl _, ?_, ?_, Below.refl _ _⟩
    · rw [HF.out.2.1]; exact OwBoolS.nil_ _ _ _
    · rw [HF.out.2.2]; exact OwBoolS.nil_ _ _ _
  have hp := e1
  simp only [pairB, Bool.and_eq_true, inB_iff] at hp
  rw [HL.out] at hp
  obtain ⟨⟨n1, n16⟩, i0, i1'⟩ := hp
  have HP := Lib.hid e1
  clear e1
  obtain ⟨k, hk⟩ : ∃ k : Nat, i = (k : Int) := ⟨i.toNat, by omega⟩
  subst hk
  have hkn : k < n := by omega
  obtain ⟨ad, z, hA, ab, ac, HZ⟩ := HR.out.boolAt hkn
  subst hA
  have i1 : (k : Int) < (n : Int) := by omega
  have HF0 : Hid (R_PairAsk_0 ss k = ss) := Lib.hid (by unfold R_PairAsk_0; rw [if_pos HP.out])
  have HF1 : Hid (R_PairAsk_1 ss k = ss.set k (!z)) := Lib.hid (by unfold R_PairAsk_1; rw [if_pos HP.out, Int.toNat_natCast, ← HZ.out])
  have HF2 : Hid (R_PairAsk_2 ss k = true) := Lib.hid HP.out
  clear ac
  go_wp2_with fail
  refine (i_CloneB ad n c ss w HR.out hn).mono ?_
  rintro e w1 ⟨A1, c1, rfl, ho, hb⟩
  have HB1 := Lib.hid hb
  have HO1 := Lib.hid ho
  clear hb ho
  obtain ⟨g2, cs2, hA2, g20, g21, _, _⟩ := HO1.out.lt (by omega)
  subst hA2
  obtain ⟨z2, hc2, HZ2⟩ := HO1.out.boolAt hkn
  obtain rfl : z2 = z := HZ2.out.trans HZ.out.symm
  have hf2 := HO1.out.free (by omega) k
  have z1 := HB1.out.size
  obtain ⟨w2, hw2⟩ : ∃ w2, Hid (w1.setCell ⟨g2, k, none⟩ (.bool (!z2)) = w2) := ⟨_, Lib.hid rfl⟩
  have hz2 : w2.heap.size = w1.heap.size := by rw [← hw2.out, World.size_setCell]
  have HB2 : Hid (Below w.heap.size w w2) := Lib.hid (by rw [← hw2.out]; exact HB1.out.setCell (p := ⟨g2, k, none⟩) g20 _)
  have HO2 : Hid (Ow w2 w.heap.size w2.heap.size 4 1 (some ⟨g2, 0, none⟩) n c1 (cB (ss.set k (!z2)))) := Lib.hid (by
    have := HO1.out.set k (.bool (!z2))
    rw [cB_set] at this
    rw [hz2, ← hw2.out]; exact this)
  go_wp2_with fail
  rw [hw2.out]
  refine (i_CloneB ad n c ss w2 ((HR.out.below HB2.out).more HB2.out.size) hn).mono ?_
  rintro e w3 ⟨A3, c3, rfl, ho, hb⟩
  have HO3 := Lib.hid ho
  have HB3 := Lib.hid hb
  clear ho hb
  have HO23 := Lib.hid (HO2.out.below HB3.out (Nat.le_refl _))
  go_wp2
  go_ret3
  refine ⟨_, _, w2.heap.size, ret_vvb2 HF2.out.symm, HB2.out.size, HB3.out.size, ?_, ?_, HB2.out.trans (HB3.out.mono HB2.out.size)⟩
  · rw [HF0.out]; exact ⟨by rw [HL.out]; exact hn, _, _, _, rfl, HO3.out⟩
  · rw [HF1.out]; exact ⟨by rw [List.length_set, HL.out]; exact hn, _, _, _, rfl, HO23.out⟩
end Go.Proofs.Ytbabkaofhhaneaa

/- Chapter 12: the iterator and the list over pointsFrom's closure (made from XWalk5g, XWalk5h by tools/gen5.py) -/
namespace Go.Proofs.Ytbabkaofhhaneaa
open Go.RowKit Go.Shelf
set_option maxRecDepth 100000
attribute [local go_sem] Oper.semAt_some

set_option maxHeartbeats 2000000 in
theorem i_it_pts (b1 b2 l Bn Bs n₀ cnt m : Nat) (hm : 1 ≤ m) (f : Nat → Int × Int) (w0 : World)
    (hS : ∀ W k, Below n₀ w0 W → k < cnt → Calls Try.prog 92 #[.int .i64 k, .pointer (some ⟨b1, 0, none⟩), .pointer (some ⟨b2, 0, none⟩)] W fun e W' => e = .returned (.agg #[.int .i64 (f k).1, .int .i64 (f k).2]) ∧ Below W.heap.size W W')
    (hcnt : cnt ≤ 1048576) (J Jx : List (Int × Int) → World → Prop) (W : World) (hJ : AbidesFrom W.heap.size J)
    (hY : ∀ pre x W1, J pre W1 → pre.length < cnt → YieldAt Fence.wide (m - 1) Try.prog l (encP x) W1 fun e W' =>
      (e = .returned (.bool true) ∧ J (pre ++ [x]) W' ∧ KpS n₀ Bs (.func (.func 92) #[] #[.pointer (some ⟨b1, 0, none⟩), .pointer (some ⟨b2, 0, none⟩)]) W1 W') ∨ (e = .returned (.bool false) ∧ Jx (pre ++ [x]) W'))
    (hBn : W.cell? ⟨Bn, 0, none⟩ = some (.int .i64 cnt)) (hBs : Boxed W Bs 101 (.func (.func 92) #[] #[.pointer (some ⟨b1, 0, none⟩), .pointer (some ⟨b2, 0, none⟩)])) (hn₀ : n₀ ≤ W.heap.size) (hbel : Below n₀ w0 W) (h0 : J [] W) :
    CallsIn Fence.wide m Try.prog 104 #[.func (.yield l) #[] #[], .pointer (some ⟨Bn, 0, none⟩), .pointer (some ⟨Bs, 0, none⟩)] W fun e W' => (∃ v, e = .returned v) ∧
      ((∃ ys, ys = uptoF f cnt ∧ J ys W') ∨ (∃ pre, True ∧ Jx pre W')) := by
  have hm1 : 1 ≤ m := hm
  refine callsIn_of_wp Try.func104 rfl trivial ?_ rfl
  simp only [Try.ntmps104, List.size_toArray, List.length_cons, List.length_nil, Nat.reduceAdd, Nat.reduceSub, Array.replicate_succ, Array.replicate_zero, List.push_toArray, List.append_toArray, List.nil_append, List.cons_append]
  gi_wp2
  gi_loopw [6] (fun i wr => ∃ k : Nat, k ≤ cnt ∧ i = .int .i64 k ∧ J (uptoF f k) wr ∧ Hid (Below n₀ w0 wr) ∧ Hid (n₀ ≤ wr.heap.size) ∧ Hid (Boxed wr Bs 101 (.func (.func 92) #[] #[.pointer (some ⟨b1, 0, none⟩), .pointer (some ⟨b2, 0, none⟩)])))
    (fun i _ => cnt - (intOf i).toNat)
  case atStart => exact ⟨0, Nat.zero_le _, rfl, h0, Lib.hid hbel, Lib.hid hn₀, Lib.hid hBs⟩
  case round =>
    obtain ⟨k, hk, rfl, hJs, HBL, HZ, HBS⟩ := hrel
    by_cases hlt : k < cnt
    · have hcs := HBS.out.cell
      have i0 : (0 : Int) ≤ (k : Int) := by omega
      have i1 : (k : Int) < (cnt : Int) := by omega
      gi_wp2_with (refine ⟨trivial, ?_⟩
                   gi_at_call 92
                   refine (callsIn_wide.2 (hS _ k HBL.out hlt)).mono ?_
                   rintro e W1 ⟨rfl, hb1⟩
                   have hJ1 := hJ _ _ _ none hJs (grown_of_below hb1) (fun r e => by cases e)
                   have HBS1 : Hid (Boxed W1 Bs 101 (.func (.func 92) #[] #[.pointer (some ⟨b1, 0, none⟩), .pointer (some ⟨b2, 0, none⟩)])) := Lib.hid (HBS.out.kept (grown_of_below hb1) (by simp))
                   have HBL1 : Hid (Below n₀ w0 W1) := Lib.hid (HBL.out.trans (hb1.mono HZ.out))
                   have HZ1 : Hid (n₀ ≤ W1.heap.size) := Lib.hid (Nat.le_trans HZ.out hb1.size)
                   obtain ⟨fn, tmps, assign, body, hy, hR⟩ := hY _ (f k) W1 hJ1 (by rw [uptoF_length]; exact hlt)
                   simp only [encP] at hy
                   clear hb1 HBL HZ HBS hJs hcs)
      refine hR.mono ?_
      rintro e W3 (⟨rfl, hJ3, hk3⟩ | ⟨rfl, hJx3⟩)
      · have HK3 := Lib.hid hk3
        clear hk3
        gi_wp2
        go_roundw
        case rel => exact ⟨k + 1, by omega, by go_num, by rw [uptoF_succ]; exact hJ3, Lib.hid (HBL1.out.trans HK3.out.1), Lib.hid (Nat.le_trans HZ1.out HK3.out.1.size), Lib.hid (HK3.out.2 HBS1.out)⟩
        case measure => simp [intOf] <;> omega
      · gi_wp2
        refine bodyPost_ret (results_none rfl _ _ _) rfl ?_
        exact ⟨⟨_, rfl⟩, .inr ⟨_, trivial, hJx3⟩⟩
    · obtain rfl : k = cnt := by omega
      gi_wp2
      go_end0
      exact ⟨⟨_, rfl⟩, .inl ⟨_, rfl, hJs⟩⟩
theorem stops_pts (b1 b2 Bn Bs n₀ cnt m : Nat) (hm : 1 ≤ m) (f : Nat → Int × Int) (w0 w : World)
    (hS : ∀ W k, Below n₀ w0 W → k < cnt → Calls Try.prog 92 #[.int .i64 k, .pointer (some ⟨b1, 0, none⟩), .pointer (some ⟨b2, 0, none⟩)] W fun e W' => e = .returned (.agg #[.int .i64 (f k).1, .int .i64 (f k).2]) ∧ Below W.heap.size W W')
    (hcnt : cnt ≤ 1048576) (hlt : Bn < w.heap.size) (hBn : w.cell? ⟨Bn, 0, none⟩ = some (.int .i64 cnt)) (hBs : Boxed w Bs 101 (.func (.func 92) #[] #[.pointer (some ⟨b1, 0, none⟩), .pointer (some ⟨b2, 0, none⟩)])) (hn₀ : n₀ ≤ w.heap.size) (hbel : Below n₀ w0 w) :
    SeqStopsK Fence.wide m Try.prog 104 #[.pointer (some ⟨Bn, 0, none⟩), .pointer (some ⟨Bs, 0, none⟩)] encP (KpS n₀ Bs (.func (.func 92) #[] #[.pointer (some ⟨b1, 0, none⟩), .pointer (some ⟨b2, 0, none⟩)])) (fun ys => ys = uptoF f cnt) (fun _ => True) cnt w := fun l J Jx W hW hJ _ hY h0 =>
  i_it_pts b1 b2 l Bn Bs n₀ cnt m hm f w0 hS hcnt J Jx W hJ hY ((hW.cell (p := ⟨Bn, 0, none⟩) hlt).trans hBn) ((hW.block Bs hBs.lt).trans hBs) (Nat.le_trans hn₀ hW.size) (hbel.trans (hW.mono hn₀)) h0

set_option maxHeartbeats 4000000 in
theorem i_listed_pts (b1 b2 cnt : Nat) (hcnt : cnt ≤ 1048576) (f : Nat → Int × Int) (w : World)
    (hS : ∀ W k, Below w.heap.size w W → k < cnt → Calls Try.prog 92 #[.int .i64 k, .pointer (some ⟨b1, 0, none⟩), .pointer (some ⟨b2, 0, none⟩)] W fun e W' => e = .returned (.agg #[.int .i64 (f k).1, .int .i64 (f k).2]) ∧ Below W.heap.size W W') :
    Calls Try.prog 82 #[.int .i64 cnt, .func (.func 92) #[] #[.pointer (some ⟨b1, 0, none⟩), .pointer (some ⟨b2, 0, none⟩)]] w fun e w' => ∃ g, e = .returned g ∧ OwPointS w' w.heap.size w'.heap.size g (uptoF f cnt) ∧ Below w.heap.size w w' := by
  refine (callsIn_wide (n := 9)).1 ?_
  obtain ⟨i0, hi, hz0, hz1, hz2⟩ := info_parts info_pt
  have hmk := fun W => run_make0 (P := Try.prog) Try.underlying48 info_pt cnt (by omega) (by omega) W
  have hcap : (madeCells (Value.agg #[.int .i64 0, .int .i64 0]).cells (cnt * 2)).size = cnt * 2 := madeCells_size _ _
  obtain ⟨cs, hcs⟩ : ∃ cs, madeCells (Value.agg #[.int .i64 0, .int .i64 0]).cells (cnt * 2) = cs := ⟨_, rfl⟩
  rw [hcs] at hmk hcap
  have HCAP := Lib.hid hcap
  clear hcs hcap
  have c0 : (0 : Int) ≤ (cnt : Int) := by omega
  refine callsIn_of_wp_marks Try.func82 rfl trivial ?_ rfl
  simp only [Try.ntmps82, List.size_toArray, List.length_cons, List.length_nil, Nat.reduceAdd, Nat.reduceSub, Array.replicate_succ, Array.replicate_zero, List.push_toArray, List.append_toArray, List.nil_append, List.cons_append]
  gi_wp2_with (refine ⟨trivial, ?_⟩
               gi_at_call 98
               refine (callsIn_wide.2 (i_shares _ _ _ _ _)).mono ?_
               rintro e w' ⟨rfl, rfl⟩)
  have bL := ((Boxed.new (w.alloc (.cells cs 78)) 48 (.slice (some ⟨w.heap.size, 0, none⟩) 0 cnt)).alloc (.cells #[.int .i64 cnt] 3)).alloc (.cells #[(.func (.func 92) #[] #[.pointer (some ⟨b1, 0, none⟩), .pointer (some ⟨b2, 0, none⟩)])] 101)
  have bN := (Boxed.new ((w.alloc (.cells cs 78)).alloc (.cells #[.slice (some ⟨w.heap.size, 0, none⟩) 0 cnt] 48)) 3 (.int .i64 cnt)).alloc (.cells #[(.func (.func 92) #[] #[.pointer (some ⟨b1, 0, none⟩), .pointer (some ⟨b2, 0, none⟩)])] 101)
  have bS := Boxed.new (((w.alloc (.cells cs 78)).alloc (.cells #[.slice (some ⟨w.heap.size, 0, none⟩) 0 cnt] 48)).alloc (.cells #[.int .i64 cnt] 3)) 101 (.func (.func 92) #[] #[.pointer (some ⟨b1, 0, none⟩), .pointer (some ⟨b2, 0, none⟩)])
  have hrow := (((own_make0 w cs 78 2 cnt HCAP.out (by unfold maxLen; omega)).alloc (.cells #[.slice (some ⟨w.heap.size, 0, none⟩) 0 cnt] 48)).alloc (.cells #[.int .i64 cnt] 3)).alloc (.cells #[(.func (.func 92) #[] #[.pointer (some ⟨b1, 0, none⟩), .pointer (some ⟨b2, 0, none⟩)])] 101)
  simp only [World.size_alloc] at bL bN bS
  have hB0 := ((((Below.refl w.heap.size w).alloc (Nat.le_refl _) (.cells cs 78)).alloc (by simp) (.cells #[.slice (some ⟨w.heap.size, 0, none⟩) 0 cnt] 48)).alloc (by simp; omega) (.cells #[.int .i64 cnt] 3)).alloc (by simp; omega) (.cells #[(.func (.func 92) #[] #[.pointer (some ⟨b1, 0, none⟩), .pointer (some ⟨b2, 0, none⟩)])] 101)
  have hsz : ((((w.alloc (.cells cs 78)).alloc (.cells #[.slice (some ⟨w.heap.size, 0, none⟩) 0 cnt] 48)).alloc (.cells #[.int .i64 cnt] 3)).alloc (.cells #[(.func (.func 92) #[] #[.pointer (some ⟨b1, 0, none⟩), .pointer (some ⟨b2, 0, none⟩)])] 101)).heap.size = w.heap.size + 4 := by simp
  obtain ⟨W0, hW0⟩ : ∃ W0, (((w.alloc (.cells cs 78)).alloc (.cells #[.slice (some ⟨w.heap.size, 0, none⟩) 0 cnt] 48)).alloc (.cells #[.int .i64 cnt] 3)).alloc (.cells #[(.func (.func 92) #[] #[.pointer (some ⟨b1, 0, none⟩), .pointer (some ⟨b2, 0, none⟩)])] 101) = W0 := ⟨_, rfl⟩
  rw [hW0] at bL bN bS hrow hB0 hsz ⊢
  clear hW0 hmk
  refine wpIn_rangeFunc_ownH rfl (by decide) (gf := 104) (lb := #[.pointer (some ⟨w.heap.size + 1 + 1, 0, none⟩), .pointer (some ⟨w.heap.size + 1 + 1 + 1, 0, none⟩)]) rfl trivial (enters_of Try.func104 (by kernel_rfl) rfl)
    (stops_pts b1 b2 (w.heap.size + 1 + 1) (w.heap.size + 1 + 1 + 1) w.heap.size cnt (9 - 1) (by decide) f w W0 hS hcnt (by omega) bN.cell bS (by omega) hB0) KpS_t (KpS_b (by omega)) (Below.refl _ _) (fun _ => rfl)
    (fun pre W => ((∃ v, Boxed W (w.heap.size + 1) 48 v ∧ W.ownsRow w.heap.size 78 2 v pre.length (cP pre) ∧ True) ∧ Below w.heap.size w W))
    (fun _ _ _ => False)
    (OwnFrom.and (Own.from (holdsRow_own w.heap.size (w.heap.size + 1) 48 78 2 (fun (pre : List (Int × Int)) => pre.length) (fun pre => cP pre) (fun _ _ => True)) _) (ownFrom_below (Nat.le_refl _) (by omega)))
    (fun _ _ _ _ _ hs _ _ => hs)
    ⟨⟨_, bL, hrow, trivial⟩, hB0⟩
    (fun x a' W => ∃ Bx, w.heap.size ≤ Bx ∧ W.heap[Bx]? = some (.cells #[.int .i64 x.1, .int .i64 x.2] 78 (0, 0)) ∧ a' = { tmps := #[.int .i64 cnt, (.func (.func 92) #[] #[.pointer (some ⟨b1, 0, none⟩), .pointer (some ⟨b2, 0, none⟩)]), undef, undef, .slice none 0 0, .pointer (some ⟨w.heap.size + 1, 0, none⟩), .pointer (some ⟨Bx, 0, none⟩), .int .i64 cnt, .slice (some ⟨w.heap.size, 0, none⟩) 0 cnt, .int .i64 cnt, (.func (.func 92) #[] #[.pointer (some ⟨b1, 0, none⟩), .pointer (some ⟨b2, 0, none⟩)]), .func (.func 104) #[] #[.pointer (some ⟨w.heap.size + 1 + 1, 0, none⟩), .pointer (some ⟨w.heap.size + 1 + 1 + 1, 0, none⟩)], .agg #[.int .i64 x.1, .int .i64 x.2], undef, undef, undef, undef, undef], defers := [] })
    (fun x a' _ X Y row hs hg hr => by
      obtain ⟨Bx, h1, h2, h3⟩ := hs
      refine ⟨Bx, h1, (hg.block Bx (Array.getElem?_eq_some_iff.1 h2).1 (fun e => ?_)).trans h2, h3⟩
      obtain ⟨_, o, ho, hc⟩ := hr Bx e.symm
      rw [h2] at ho; cases ho; cases hc)
    ?assign ?body ?done ?stop
  case assign =>
    rintro l pre x W K ⟨⟨v, hv, hr, _⟩, hB⟩ hK
    simp only [encP]
    gi_wp2
    exact hK _ _ ((KeepsOthers.alloc _ _).from _) ⟨(Below.refl _ W).alloc hB.size _, fun h => h.alloc _⟩ ⟨⟨v, hv.alloc _, hr.alloc _, trivial⟩, hB.alloc hB.size _⟩ ⟨W.heap.size, hB.size, heap_alloc_new _ _, rfl⟩
  case body =>
    rintro l pre x a' W hl ⟨r, hr⟩ ⟨⟨v, hv, hrow, _⟩, hB⟩ ⟨Bx, hBx, bX, rfl⟩ hlt
    have cL := hv.cell
    have cX0 : W.cell? ⟨Bx, 0, none⟩ = some (.int .i64 x.1) := by rw [cell_of_row W Bx 0 _ _ _ bX]; rfl
    have cX1 : W.cell? ⟨Bx, 1, none⟩ = some (.int .i64 x.2) := by rw [cell_of_row W Bx 1 _ _ _ bX]; rfl
    gi_wp2_with (gi_at_builtin
                 refine wpListIn_append_own _ rfl _ _ 48 rfl w.heap.size 78 i0 _ 2 16 Try.underlying48 hi hz0 hz1 hz2 rfl (by decide) _ _ _ rfl (hrow.alloc _) ⟨W.heap.size, 0, none⟩ 1 1 [.int .i64 x.1, .int .i64 x.2] rfl rfl (cell_two_new _ _ _ _) (by simp [Value.oneCell']) (by unfold maxLen; omega) (by omega) (by have := hB.size; simp; omega) ?_
                 intro v' w1 hown' hgrow _
                 obtain ⟨g', cap', rfl⟩ := ownsRow_succ hown'
                 obtain ⟨hv1, hv2, hr2, hk2, hb2⟩ := hv.appended (by decide) hrow hB.size (by omega) hown' hgrow
                 have hc1 := hv1.cell
                 have hf1 := hv1.frozen
                 have hbs : Boxed W (w.heap.size + 1 + 1 + 1) 101 (.func (.func 92) #[] #[.pointer (some ⟨b1, 0, none⟩), .pointer (some ⟨b2, 0, none⟩)]) → Boxed (w1.setCell ⟨w.heap.size + 1, 0, none⟩ (.slice (some ⟨g', 0, none⟩) (pre.length + 1) cap')) (w.heap.size + 1 + 1 + 1) 101 (.func (.func 92) #[] #[.pointer (some ⟨b1, 0, none⟩), .pointer (some ⟨b2, 0, none⟩)]) := fun h =>
                   ((h.alloc _).kept hgrow (h.not_row (by decide) hrow)).other (by omega) _)
    exact ⟨hk2.from _, ⟨hb2, hbs⟩, ⟨⟨_, hv2, by rw [cP_append, List.length_append]; exact hr2, trivial⟩, hB.trans hb2⟩⟩
  case done =>
    rintro D ys W hD rfl ⟨⟨v, hv, hrow, _⟩, hB⟩ hK
    have cL := hv.cell
    gi_wp2
    refine ⟨by simp, .inl ⟨_, _, rfl, run_takeDeferred hK, ?_⟩⟩
    refine ⟨_, results_tmp rfl _ _ _, v, rfl, ?_, hB.trans (belowK_b (w := w) (Nat.le_refl _) W D _ _ (by omega) hK rfl rfl)⟩
    exact done_pts (ownsRow_putObj hrow _ hK rfl) (by rw [uptoF_length]; exact hcnt)
  case stop =>
    rintro D c pre W _ _ h _
    exact h.elim
end Go.Proofs.Ytbabkaofhhaneaa

/- Chapter 4: the iterator and the list over given's closure (made from XWalk5g, XWalk5h by tools/gen5.py) -/
namespace Go.Proofs.Ytbabkaofhhaneaa
open Go.RowKit Go.Shelf
set_option maxRecDepth 100000
attribute [local go_sem] Oper.semAt_some

set_option maxHeartbeats 2000000 in
theorem i_it_given (b1 l Bn Bs n₀ cnt m : Nat) (hm : 1 ≤ m) (f : Nat → Int × Int) (w0 : World)
    (hS : ∀ W k, Below n₀ w0 W → k < cnt → Calls Try.prog 83 #[.int .i64 k, .pointer (some ⟨b1, 0, none⟩)] W fun e W' => e = .returned (.agg #[.int .i64 (f k).1, .int .i64 (f k).2]) ∧ Below W.heap.size W W')
    (hcnt : cnt ≤ 1048576) (J Jx : List (Int × Int) → World → Prop) (W : World) (hJ : AbidesFrom W.heap.size J)
    (hY : ∀ pre x W1, J pre W1 → pre.length < cnt → YieldAt Fence.wide (m - 1) Try.prog l (encP x) W1 fun e W' =>
      (e = .returned (.bool true) ∧ J (pre ++ [x]) W' ∧ KpS n₀ Bs (.func (.func 83) #[] #[.pointer (some ⟨b1, 0, none⟩)]) W1 W') ∨ (e = .returned (.bool false) ∧ Jx (pre ++ [x]) W'))
    (hBn : W.cell? ⟨Bn, 0, none⟩ = some (.int .i64 cnt)) (hBs : Boxed W Bs 101 (.func (.func 83) #[] #[.pointer (some ⟨b1, 0, none⟩)])) (hn₀ : n₀ ≤ W.heap.size) (hbel : Below n₀ w0 W) (h0 : J [] W) :
    CallsIn Fence.wide m Try.prog 104 #[.func (.yield l) #[] #[], .pointer (some ⟨Bn, 0, none⟩), .pointer (some ⟨Bs, 0, none⟩)] W fun e W' => (∃ v, e = .returned v) ∧
      ((∃ ys, ys = uptoF f cnt ∧ J ys W') ∨ (∃ pre, True ∧ Jx pre W')) := by
  have hm1 : 1 ≤ m := hm
  refine callsIn_of_wp Try.func104 rfl trivial ?_ rfl
  simp only [Try.ntmps104, List.size_toArray, List.length_cons, List.length_nil, Nat.reduceAdd, Nat.reduceSub, Array.replicate_succ, Array.replicate_zero, List.push_toArray, List.append_toArray, List.nil_append, List.cons_append]
  gi_wp2
  gi_loopw [6] (fun i wr => ∃ k : Nat, k ≤ cnt ∧ i = .int .i64 k ∧ J (uptoF f k) wr ∧ Hid (Below n₀ w0 wr) ∧ Hid (n₀ ≤ wr.heap.size) ∧ Hid (Boxed wr Bs 101 (.func (.func 83) #[] #[.pointer (some ⟨b1, 0, none⟩)])))
    (fun i _ => cnt - (intOf i).toNat)
  case atStart => exact ⟨0, Nat.zero_le _, rfl, h0, Lib.hid hbel, Lib.hid hn₀, Lib.hid hBs⟩
  case round =>
    obtain ⟨k, hk, rfl, hJs, HBL, HZ, HBS⟩ := hrel
    by_cases hlt : k < cnt
    · have hcs := HBS.out.cell
      have i0 : (0 : Int) ≤ (k : Int) := by omega
      have i1 : (k : Int) < (cnt : Int) := by omega
      gi_wp2_with (refine ⟨trivial, ?_⟩
                   gi_at_call 83
                   refine (callsIn_wide.2 (hS _ k HBL.out hlt)).mono ?_
                   rintro e W1 ⟨rfl, hb1⟩
                   have hJ1 := hJ _ _ _ none hJs (grown_of_below hb1) (fun r e => by cases e)
                   have HBS1 : Hid (Boxed W1 Bs 101 (.func (.func 83) #[] #[.pointer (some ⟨b1, 0, none⟩)])) := Lib.hid (HBS.out.kept (grown_of_below hb1) (by simp))
                   have HBL1 : Hid (Below n₀ w0 W1) := Lib.hid (HBL.out.trans (hb1.mono HZ.out))
                   have HZ1 : Hid (n₀ ≤ W1.heap.size) := Lib.hid (Nat.le_trans HZ.out hb1.size)
                   obtain ⟨fn, tmps, assign, body, hy, hR⟩ := hY _ (f k) W1 hJ1 (by rw [uptoF_length]; exact hlt)
                   simp only [encP] at hy
                   clear hb1 HBL HZ HBS hJs hcs)
      refine hR.mono ?_
      rintro e W3 (⟨rfl, hJ3, hk3⟩ | ⟨rfl, hJx3⟩)
      · have HK3 := Lib.hid hk3
        clear hk3
        gi_wp2
        go_roundw
        case rel => exact ⟨k + 1, by omega, by go_num, by rw [uptoF_succ]; exact hJ3, Lib.hid (HBL1.out.trans HK3.out.1), Lib.hid (Nat.le_trans HZ1.out HK3.out.1.size), Lib.hid (HK3.out.2 HBS1.out)⟩
        case measure => simp [intOf] <;> omega
      · gi_wp2
        refine bodyPost_ret (results_none rfl _ _ _) rfl ?_
        exact ⟨⟨_, rfl⟩, .inr ⟨_, trivial, hJx3⟩⟩
    · obtain rfl : k = cnt := by omega
      gi_wp2
      go_end0
      exact ⟨⟨_, rfl⟩, .inl ⟨_, rfl, hJs⟩⟩
theorem stops_given (b1 Bn Bs n₀ cnt m : Nat) (hm : 1 ≤ m) (f : Nat → Int × Int) (w0 w : World)
    (hS : ∀ W k, Below n₀ w0 W → k < cnt → Calls Try.prog 83 #[.int .i64 k, .pointer (some ⟨b1, 0, none⟩)] W fun e W' => e = .returned (.agg #[.int .i64 (f k).1, .int .i64 (f k).2]) ∧ Below W.heap.size W W')
    (hcnt : cnt ≤ 1048576) (hlt : Bn < w.heap.size) (hBn : w.cell? ⟨Bn, 0, none⟩ = some (.int .i64 cnt)) (hBs : Boxed w Bs 101 (.func (.func 83) #[] #[.pointer (some ⟨b1, 0, none⟩)])) (hn₀ : n₀ ≤ w.heap.size) (hbel : Below n₀ w0 w) :
    SeqStopsK Fence.wide m Try.prog 104 #[.pointer (some ⟨Bn, 0, none⟩), .pointer (some ⟨Bs, 0, none⟩)] encP (KpS n₀ Bs (.func (.func 83) #[] #[.pointer (some ⟨b1, 0, none⟩)])) (fun ys => ys = uptoF f cnt) (fun _ => True) cnt w := fun l J Jx W hW hJ _ hY h0 =>
  i_it_given b1 l Bn Bs n₀ cnt m hm f w0 hS hcnt J Jx W hJ hY ((hW.cell (p := ⟨Bn, 0, none⟩) hlt).trans hBn) ((hW.block Bs hBs.lt).trans hBs) (Nat.le_trans hn₀ hW.size) (hbel.trans (hW.mono hn₀)) h0

set_option maxHeartbeats 4000000 in
theorem i_listed_given (b1 cnt : Nat) (hcnt : cnt ≤ 1048576) (f : Nat → Int × Int) (w : World)
    (hS : ∀ W k, Below w.heap.size w W → k < cnt → Calls Try.prog 83 #[.int .i64 k, .pointer (some ⟨b1, 0, none⟩)] W fun e W' => e = .returned (.agg #[.int .i64 (f k).1, .int .i64 (f k).2]) ∧ Below W.heap.size W W') :
    Calls Try.prog 82 #[.int .i64 cnt, .func (.func 83) #[] #[.pointer (some ⟨b1, 0, none⟩)]] w fun e w' => ∃ g, e = .returned g ∧ OwPointS w' w.heap.size w'.heap.size g (uptoF f cnt) ∧ Below w.heap.size w w' := by
  refine (callsIn_wide (n := 9)).1 ?_
  obtain ⟨i0, hi, hz0, hz1, hz2⟩ := info_parts info_pt
  have hmk := fun W => run_make0 (P := Try.prog) Try.underlying48 info_pt cnt (by omega) (by omega) W
  have hcap : (madeCells (Value.agg #[.int .i64 0, .int .i64 0]).cells (cnt * 2)).size = cnt * 2 := madeCells_size _ _
  obtain ⟨cs, hcs⟩ : ∃ cs, madeCells (Value.agg #[.int .i64 0, .int .i64 0]).cells (cnt * 2) = cs := ⟨_, rfl⟩
  rw [hcs] at hmk hcap
  have HCAP := Lib.hid hcap
  clear hcs hcap
  have c0 : (0 : Int) ≤ (cnt : Int) := by omega
  refine callsIn_of_wp_marks Try.func82 rfl trivial ?_ rfl
  simp only [Try.ntmps82, List.size_toArray, List.length_cons, List.length_nil, Nat.reduceAdd, Nat.reduceSub, Array.replicate_succ, Array.replicate_zero, List.push_toArray, List.append_toArray, List.nil_append, List.cons_append]
  gi_wp2_with (refine ⟨trivial, ?_⟩
               gi_at_call 98
               refine (callsIn_wide.2 (i_shares _ _ _ _ _)).mono ?_
               rintro e w' ⟨rfl, rfl⟩)
  have bL := ((Boxed.new (w.alloc (.cells cs 78)) 48 (.slice (some ⟨w.heap.size, 0, none⟩) 0 cnt)).alloc (.cells #[.int .i64 cnt] 3)).alloc (.cells #[(.func (.func 83) #[] #[.pointer (some ⟨b1, 0, none⟩)])] 101)
  have bN := (Boxed.new ((w.alloc (.cells cs 78)).alloc (.cells #[.slice (some ⟨w.heap.size, 0, none⟩) 0 cnt] 48)) 3 (.int .i64 cnt)).alloc (.cells #[(.func (.func 83) #[] #[.pointer (some ⟨b1, 0, none⟩)])] 101)
  have bS := Boxed.new (((w.alloc (.cells cs 78)).alloc (.cells #[.slice (some ⟨w.heap.size, 0, none⟩) 0 cnt] 48)).alloc (.cells #[.int .i64 cnt] 3)) 101 (.func (.func 83) #[] #[.pointer (some ⟨b1, 0, none⟩)])
  have hrow := (((own_make0 w cs 78 2 cnt HCAP.out (by unfold maxLen; omega)).alloc (.cells #[.slice (some ⟨w.heap.size, 0, none⟩) 0 cnt] 48)).alloc (.cells #[.int .i64 cnt] 3)).alloc (.cells #[(.func (.func 83) #[] #[.pointer (some ⟨b1, 0, none⟩)])] 101)
  simp only [World.size_alloc] at bL bN bS
  have hB0 := ((((Below.refl w.heap.size w).alloc (Nat.le_refl _) (.cells cs 78)).alloc (by simp) (.cells #[.slice (some ⟨w.heap.size, 0, none⟩) 0 cnt] 48)).alloc (by simp; omega) (.cells #[.int .i64 cnt] 3)).alloc (by simp; omega) (.cells #[(.func (.func 83) #[] #[.pointer (some ⟨b1, 0, none⟩)])] 101)
  have hsz : ((((w.alloc (.cells cs 78)).alloc (.cells #[.slice (some ⟨w.heap.size, 0, none⟩) 0 cnt] 48)).alloc (.cells #[.int .i64 cnt] 3)).alloc (.cells #[(.func (.func 83) #[] #[.pointer (some ⟨b1, 0, none⟩)])] 101)).heap.size = w.heap.size + 4 := by simp
  obtain ⟨W0, hW0⟩ : ∃ W0, (((w.alloc (.cells cs 78)).alloc (.cells #[.slice (some ⟨w.heap.size, 0, none⟩) 0 cnt] 48)).alloc (.cells #[.int .i64 cnt] 3)).alloc (.cells #[(.func (.func 83) #[] #[.pointer (some ⟨b1, 0, none⟩)])] 101) = W0 := ⟨_, rfl⟩
  rw [hW0] at bL bN bS hrow hB0 hsz ⊢
  clear hW0 hmk
  refine wpIn_rangeFunc_ownH rfl (by decide) (gf := 104) (lb := #[.pointer (some ⟨w.heap.size + 1 + 1, 0, none⟩), .pointer (some ⟨w.heap.size + 1 + 1 + 1, 0, none⟩)]) rfl trivial (enters_of Try.func104 (by kernel_rfl) rfl)
    (stops_given b1 (w.heap.size + 1 + 1) (w.heap.size + 1 + 1 + 1) w.heap.size cnt (9 - 1) (by decide) f w W0 hS hcnt (by omega) bN.cell bS (by omega) hB0) KpS_t (KpS_b (by omega)) (Below.refl _ _) (fun _ => rfl)
    (fun pre W => ((∃ v, Boxed W (w.heap.size + 1) 48 v ∧ W.ownsRow w.heap.size 78 2 v pre.length (cP pre) ∧ True) ∧ Below w.heap.size w W))
    (fun _ _ _ => False)
    (OwnFrom.and (Own.from (holdsRow_own w.heap.size (w.heap.size + 1) 48 78 2 (fun (pre : List (Int × Int)) => pre.length) (fun pre => cP pre) (fun _ _ => True)) _) (ownFrom_below (Nat.le_refl _) (by omega)))
    (fun _ _ _ _ _ hs _ _ => hs)
    ⟨⟨_, bL, hrow, trivial⟩, hB0⟩
    (fun x a' W => ∃ Bx, w.heap.size ≤ Bx ∧ W.heap[Bx]? = some (.cells #[.int .i64 x.1, .int .i64 x.2] 78 (0, 0)) ∧ a' = { tmps := #[.int .i64 cnt, (.func (.func 83) #[] #[.pointer (some ⟨b1, 0, none⟩)]), undef, undef, .slice none 0 0, .pointer (some ⟨w.heap.size + 1, 0, none⟩), .pointer (some ⟨Bx, 0, none⟩), .int .i64 cnt, .slice (some ⟨w.heap.size, 0, none⟩) 0 cnt, .int .i64 cnt, (.func (.func 83) #[] #[.pointer (some ⟨b1, 0, none⟩)]), .func (.func 104) #[] #[.pointer (some ⟨w.heap.size + 1 + 1, 0, none⟩), .pointer (some ⟨w.heap.size + 1 + 1 + 1, 0, none⟩)], .agg #[.int .i64 x.1, .int .i64 x.2], undef, undef, undef, undef, undef], defers := [] })
    (fun x a' _ X Y row hs hg hr => by
      obtain ⟨Bx, h1, h2, h3⟩ := hs
      refine ⟨Bx, h1, (hg.block Bx (Array.getElem?_eq_some_iff.1 h2).1 (fun e => ?_)).trans h2, h3⟩
      obtain ⟨_, o, ho, hc⟩ := hr Bx e.symm
      rw [h2] at ho; cases ho; cases hc)
    ?assign ?body ?done ?stop
  case assign =>
    rintro l pre x W K ⟨⟨v, hv, hr, _⟩, hB⟩ hK
    simp only [encP]
    gi_wp2
    exact hK _ _ ((KeepsOthers.alloc _ _).from _) ⟨(Below.refl _ W).alloc hB.size _, fun h => h.alloc _⟩ ⟨⟨v, hv.alloc _, hr.alloc _, trivial⟩, hB.alloc hB.size _⟩ ⟨W.heap.size, hB.size, heap_alloc_new _ _, rfl⟩
  case body =>
    rintro l pre x a' W hl ⟨r, hr⟩ ⟨⟨v, hv, hrow, _⟩, hB⟩ ⟨Bx, hBx, bX, rfl⟩ hlt
    have cL := hv.cell
    have cX0 : W.cell? ⟨Bx, 0, none⟩ = some (.int .i64 x.1) := by rw [cell_of_row W Bx 0 _ _ _ bX]; rfl
    have cX1 : W.cell? ⟨Bx, 1, none⟩ = some (.int .i64 x.2) := by rw [cell_of_row W Bx 1 _ _ _ bX]; rfl
    gi_wp2_with (gi_at_builtin
                 refine wpListIn_append_own _ rfl _ _ 48 rfl w.heap.size 78 i0 _ 2 16 Try.underlying48 hi hz0 hz1 hz2 rfl (by decide) _ _ _ rfl (hrow.alloc _) ⟨W.heap.size, 0, none⟩ 1 1 [.int .i64 x.1, .int .i64 x.2] rfl rfl (cell_two_new _ _ _ _) (by simp [Value.oneCell']) (by unfold maxLen; omega) (by omega) (by have := hB.size; simp; omega) ?_
                 intro v' w1 hown' hgrow _
                 obtain ⟨g', cap', rfl⟩ := ownsRow_succ hown'
                 obtain ⟨hv1, hv2, hr2, hk2, hb2⟩ := hv.appended (by decide) hrow hB.size (by omega) hown' hgrow
                 have hc1 := hv1.cell
                 have hf1 := hv1.frozen
                 have hbs : Boxed W (w.heap.size + 1 + 1 + 1) 101 (.func (.func 83) #[] #[.pointer (some ⟨b1, 0, none⟩)]) → Boxed (w1.setCell ⟨w.heap.size + 1, 0, none⟩ (.slice (some ⟨g', 0, none⟩) (pre.length + 1) cap')) (w.heap.size + 1 + 1 + 1) 101 (.func (.func 83) #[] #[.pointer (some ⟨b1, 0, none⟩)]) := fun h =>
                   ((h.alloc _).kept hgrow (h.not_row (by decide) hrow)).other (by omega) _)
    exact ⟨hk2.from _, ⟨hb2, hbs⟩, ⟨⟨_, hv2, by rw [cP_append, List.length_append]; exact hr2, trivial⟩, hB.trans hb2⟩⟩
  case done =>
    rintro D ys W hD rfl ⟨⟨v, hv, hrow, _⟩, hB⟩ hK
    have cL := hv.cell
    gi_wp2
    refine ⟨by simp, .inl ⟨_, _, rfl, run_takeDeferred hK, ?_⟩⟩
    refine ⟨_, results_tmp rfl _ _ _, v, rfl, ?_, hB.trans (belowK_b (w := w) (Nat.le_refl _) W D _ _ (by omega) hK rfl rfl)⟩
    exact done_pts (ownsRow_putObj hrow _ hK rfl) (by rw [uptoF_length]; exact hcnt)
  case stop =>
    rintro D c pre W _ _ h _
    exact h.elim
end Go.Proofs.Ytbabkaofhhaneaa

/- append where the two types differ in name. -/
namespace Go.Proofs.Ytbabkaofhhaneaa
open Go.RowKit

theorem append_types {P : Program} {t t2 ty e e2 : TypeId} (ht : P.underlying t = some (.slice e)) (ht2 : P.underlying t2 = some (.slice e2)) (args : Array Value) (w : World) :
    (Builtin.append_ #[t, t2] ty args).run P w = (Builtin.append_ #[t, t] ty args).run P w := by
  unfold Builtin.append_
  cases args[0]? <;> cases args[1]? <;> simp [run_underlying ht]
  split <;> simp [run_underlying ht, run_underlying ht2]
theorem wpList_append_rd2 {P : Program} {w : World} {ops : Array Oper} {rest : List Oper} {o : Oper} {a : Act} {Q : Exit → Act → World → Prop} (hgd : o.guard = none) (s x : Operand) (t t2 e2 : TypeId)
    (ho : o.op = .call { callee := .builtin .append, args := #[s, x], argTypes := #[t, t2] })
    (base : Nat) (e : TypeId) (z : Value) (size bytes : Nat) (ht : P.underlying t = some (.slice e)) (ht2 : P.underlying t2 = some (.slice e2)) (hi : (P.info? e).map (fun i => (i.zero, i.size, i.bytes)) = some (some z, size, bytes))
    (hzs : z.cells.size = size) (hsz : 0 < size) (v : Value) (n : Nat) (xs : List Value) (hs : a.eval s = v) (hown : w.ownsRow base e size v n xs)
    (hb : Nat) (A : Option Addr) (m c : Nat) (news : List Value) (hx : a.eval x = .slice A m c) (hr : Rd w hb size A m news) (h1 : ∀ u ∈ news, u.oneCell' = true)
    (h63 : n + m ≤ maxLen) (hbytes : (n + m) * bytes ≤ 140737488355328) (hbase : base ≤ w.heap.size)
    (h : ∀ v' w', w'.ownsRow base e size v' (n + m) (xs ++ news) → w.grownBy w' v.ownBlock → (v'.ownBlock = v.ownBlock ∨ v'.ownBlock = some w.heap.size) → wpList P ops Q rest (a.put o.dst v') w') :
    wpList P ops Q (o :: rest) a w := by
  refine wpList_plain hgd fun K hK => ?_
  obtain ⟨v', w', hrun, h2, h3, h4⟩ := run_append_rd (P := P) (w := w) base t o.type e z size bytes ht hi hzs hsz v n xs hown hb A m c news hr h1 h63 hbytes hbase
  rw [← append_types ht ht2] at hrun
  unfold Oper.wp execOp
  simp only [ho, resolve, invoke, builtin, Sem.run_bind, Sem.run_pure, Result.andThen_ok, List.map_toArray, List.map_cons, List.map_nil, hs, hx, hrun]
  exact hK _ _ (h v' w' h2 h3 h4)
end Go.Proofs.Ytbabkaofhhaneaa

/- Chapter 4: SharesOf, in the model and in the program. -/
namespace Go.Proofs.Ytbabkaofhhaneaa
open Go.RowKit Go.Shelf
set_option maxRecDepth 100000

set_option maxHeartbeats 1000000 in
theorem i_secretWith (s : Int) (A : Option Addr) (m c : Nat) (zs : List Int) (w : World) (h : Rd w w.heap.size 1 A m (cI zs)) (hm : m ≤ 1000) :
    Calls Try.prog 61 #[.int .i64 s, .slice A m c] w fun e w' => ∃ A' c', e = .returned (.slice A' (1 + m) c') ∧ Ow w' w.heap.size w'.heap.size 3 1 A' (1 + m) c' (cI (s :: zs)) ∧ Below w.heap.size w w' := by
  have HLIT := Lib.hid (lit_int w s)
  have HRD : Hid (Rd (w.alloc (.cells #[.int .i64 s] 3)) w.heap.size 1 A m (cI zs)) := Lib.hid (h.below ((Below.refl _ _).alloc (Nat.le_refl _) _))
  clear h
  go_enter Try.func61, Try.ntmps61
  go_wp2_with (at_builtin
               refine wpList_append_rd2 rfl (.tmp 6) (.tmp 7) 75 22 3 rfl w.heap.size 3 _ 1 8 Try.underlying75 Try.underlying22 info_int rfl (by decide) (.slice (some ⟨w.heap.size, 0, none⟩) 1 1) 1 [.int .i64 s] rfl HLIT.out _ A m c (cI zs) rfl HRD.out (cI_one _) (by unfold maxLen; omega) (by omega) (by simp) ?_
               intro v5 w5 hown hgr hat
               obtain ⟨A5, c5, hv5, ho5⟩ := Ow.of_own hown
               subst hv5
               have HO5 : Hid (Ow w5 w.heap.size w5.heap.size 3 1 A5 (1 + m) c5 (cI (s :: zs))) := Lib.hid ho5
               have HB5 : Hid (Below w.heap.size w w5) := Lib.hid (below_grown ((Below.refl _ _).alloc (Nat.le_refl _) _) hgr (fun g e => by simp [Value.ownBlock] at e; omega) (by simp))
               clear hown hgr hat ho5)
  go_ret
  exact ⟨_, _, rfl, HO5.out, HB5.out⟩

set_option maxHeartbeats 1000000 in
theorem i_given1 (b1 : Nat) (A : Option Addr) (n c k : Nat) (cs : List Int) (w : World) (hb1 : w.cell? ⟨b1, 0, none⟩ = some (.slice A n c)) (hl1 : b1 < w.heap.size) (H : Rd w w.heap.size 1 A n (cI cs)) (hn : n ≤ 1048576) (hz : Nums cs) (hk : k < 20) :
    Calls Try.prog 83 #[.int .i64 k, .pointer (some ⟨b1, 0, none⟩)] w fun e w' => e = .returned (.agg #[.int .i64 (shF cs k).1, .int .i64 (shF cs k).2]) ∧ Below w.heap.size w w' := by
  have HB := (Below.refl w.heap.size w).alloc (Nat.le_refl _) (.cells #[.int .i64 0, .int .i64 0] 78)
  have hc1 := (HB.cell (p := ⟨b1, 0, none⟩) hl1).trans hb1
  have HRD := Lib.hid ((H.below HB).more (show w.heap.size ≤ (w.alloc (.cells #[.int .i64 0, .int .i64 0] 78)).heap.size by simp))
  have HBB := Lib.hid HB
  have hn0 : (w.alloc (.cells #[.int .i64 0, .int .i64 0] 78)).cell? ⟨w.heap.size, 0, none⟩ = some (.int .i64 0) := World.cell?_alloc_new w _ _ 0
  have hn1 : (w.alloc (.cells #[.int .i64 0, .int .i64 0] 78)).cell? ⟨w.heap.size, 1, none⟩ = some (.int .i64 0) := World.cell?_alloc_new w _ _ 1
  have hf := fun j => (Ow.new w #[.int .i64 0, .int .i64 0] 78 2 1 rfl).free (by omega) j
  have HNU := Lib.hid hz
  clear H HB hz
  have i0 : (0 : Int) ≤ (k : Int) := by omega
  have i1 : (k : Int) < 20 := by omega
  have hf0 := hf 0
  have hf1 := hf 1
  clear hf
  obtain ⟨W1, HW1⟩ : ∃ W1, Hid (w.alloc (.cells #[.int .i64 0, .int .i64 0] 78) = W1) := ⟨_, Lib.hid rfl⟩
  have HC1 := Lib.hid hc1
  have HN0 := Lib.hid (And.intro hn0 (And.intro hn1 (And.intro hf0 hf1)))
  clear hc1 hn0 hn1 hf0 hf1
  rw [HW1.out] at HC1 HN0 HBB HRD
  go_enter Try.func83, Try.ntmps83
  go_wp2_with fail
  rw [HW1.out]
  clear hb1
  refine (i_polynomial_at _ _ _ _ _ _ HRD.out HNU.out hn (by omega) (by omega)).mono ?_
  rintro e w2 ⟨rfl, q, rfl⟩
  obtain ⟨hn0, hn1, hf0, hf1⟩ := HN0.out
  go_wp2
  refine bodyPost_ret (v := .agg #[.int .i64 ((k : Int) + 1), .int .i64 (atI cs ((k : Int) + 1))]) (by simp [results, Try.results83, go_sem, hn0, hn1]) rfl ⟨rfl, ?_⟩
  exact ((below_drewN HBB.out q).setCell (p := ⟨w.heap.size, 0, none⟩) (Nat.le_refl _) _).setCell (p := ⟨w.heap.size, 1, none⟩) (Nat.le_refl _) _

set_option maxHeartbeats 1000000 in
theorem i_given (A : Option Addr) (n c N : Nat) (cs : List Int) (w : World) (H : Rd w w.heap.size 1 A n (cI cs)) (hn : n ≤ 1048576) (hz : Nums cs) (hN : N ≤ 20) :
    Calls Try.prog 60 #[.slice A n c, .int .i64 N] w fun e w' => ∃ g, e = .returned g ∧ OwPointS w' w.heap.size w'.heap.size g (uptoF (shF cs) N) ∧ Below w.heap.size w w' := by
  obtain ⟨w0, HW0⟩ : ∃ w0, Hid (w.alloc (.cells #[.slice A n c] 75) = w0) := ⟨_, Lib.hid rfl⟩
  have HB0 : Hid (Below w.heap.size w w0) := Lib.hid (HW0.out ▸ (Below.refl _ _).alloc (Nat.le_refl _) _)
  have HZ0 : Hid (w0.heap.size = w.heap.size + 1) := Lib.hid (by rw [← HW0.out]; simp)
  have HRD : Hid (Rd w0 w0.heap.size 1 A n (cI cs)) := Lib.hid ((H.below HB0.out).more (by have := HZ0.out; omega))
  have HC1 : Hid (w0.cell? ⟨w.heap.size, 0, none⟩ = some (.slice A n c)) := Lib.hid (by rw [← HW0.out]; exact (Boxed.new w _ _).cell)
  clear H
  go_enter Try.func60, Try.ntmps60
  go_wp2_with fail
  rw [HW0.out]
  refine (i_listed_given w.heap.size N (by omega) (shF cs) _ (fun W k hW hk => ?_)).mono ?_
  · exact i_given1 w.heap.size A n c k cs W ((hW.cell (p := ⟨w.heap.size, 0, none⟩) (by have := HZ0.out; simp; omega)).trans HC1.out) (by have := HZ0.out; have := hW.size; omega) ((HRD.out.below hW).more hW.size) hn hz (by omega)
  · rintro e w3 ⟨g, rfl, ho, hb3⟩
    have HO := Lib.hid (ho.widen (show w.heap.size ≤ _ by have := HZ0.out; omega) (Nat.le_refl _))
    have HB3 := Lib.hid (HB0.out.trans (hb3.mono (by have := HZ0.out; omega)))
    clear ho hb3
    go_wp2
    go_ret
    exact ⟨_, rfl, HO.out, HB3.out⟩
end Go.Proofs.Ytbabkaofhhaneaa

/- Chapter 12: points out of numbers; ManyTake, ManyAnswer, ManyAsk of both sides. Made by tools/gen12/many.py. -/
namespace Go.Proofs.Ytbabkaofhhaneaa
open Go.RowKit
set_option maxRecDepth 100000

set_option maxHeartbeats 1000000 in
theorem i_pts1 (b1 b2 : Nat) (A : Option Addr) (n c k f : Nat) (xs : List Int) (w : World) (hb1 : w.cell? ⟨b1, 0, none⟩ = some (.int .i64 f)) (hb2 : w.cell? ⟨b2, 0, none⟩ = some (.slice A n c))
    (hl1 : b1 < w.heap.size) (hl2 : b2 < w.heap.size) (H : Rd w w.heap.size 1 A n (cI xs)) (hf : f ≤ 1) (hn : n ≤ 1048576) (hk : k < n) :
    Calls Try.prog 92 #[.int .i64 k, .pointer (some ⟨b1, 0, none⟩), .pointer (some ⟨b2, 0, none⟩)] w fun e w' => e = .returned (.agg #[.int .i64 ((f + k : Nat) : Int), .int .i64 (xs.getD k 0)]) ∧ Below w.heap.size w w' := by
  obtain ⟨a, x, rfl, hab, hx0, HX⟩ := H.intAt hk
  rw [← HX.out]
  obtain ⟨s, hs⟩ : ∃ s : Int, ((f + k : Nat) : Int) = s := ⟨_, rfl⟩
  have hs2 : (f : Int) + (k : Int) = s := by omega
  have iw : IntKind.i64.wrap s = s := IntWalk.i64_in _ (by omega)
  rw [hs]
  have HB := (Below.refl w.heap.size w).alloc (Nat.le_refl _) (.cells #[.int .i64 0, .int .i64 0] 78)
  have hc1 := (HB.cell (p := ⟨b1, 0, none⟩) hl1).trans hb1
  have hc2 := (HB.cell (p := ⟨b2, 0, none⟩) hl2).trans hb2
  have hx := (HB.cell (p := a.add k) (by rw [add_block]; exact hab)).trans hx0
  have HBB := Lib.hid HB
  have hn0 : (w.alloc (.cells #[.int .i64 0, .int .i64 0] 78)).cell? ⟨w.heap.size, 0, none⟩ = some (.int .i64 0) := World.cell?_alloc_new w _ _ 0
  have hn1 : (w.alloc (.cells #[.int .i64 0, .int .i64 0] 78)).cell? ⟨w.heap.size, 1, none⟩ = some (.int .i64 0) := World.cell?_alloc_new w _ _ 1
  have hfz := fun j => (Ow.new w #[.int .i64 0, .int .i64 0] 78 2 1 rfl).free (by omega) j
  clear HX hb1 hb2 hx0 H HB hs
  have i0 : (0 : Int) ≤ (k : Int) := by omega
  have i1 : (k : Int) < (n : Int) := by omega
  go_enter Try.func92, Try.ntmps92
  go_wp2
  have hf0 := hfz 0
  have hf1 := hfz 1
  clear hfz
  obtain ⟨W1, hW1⟩ : ∃ W1, (w.alloc (.cells #[.int .i64 0, .int .i64 0] 78)) = W1 := ⟨_, rfl⟩
  rw [hW1] at hc1 hc2 hx hn0 hn1 hf0 hf1 HBB ⊢
  clear hW1
  go_still_tail 8, (by kernel_rfl)
  change wpList _ _ _ _ _ W1.drew
  go_wp2
  refine bodyPost_ret (v := .agg #[.int .i64 s, .int .i64 x]) (by simp [results, Try.results92, go_sem, hn0, hn1]) rfl ⟨rfl, ?_⟩
  exact below_drew ((HBB.out.setCell (p := ⟨w.heap.size, 0, none⟩) (Nat.le_refl _) _).setCell (p := ⟨w.heap.size, 1, none⟩) (Nat.le_refl _) _)

set_option maxHeartbeats 1000000 in
theorem i_pointsFrom (f : Nat) (A : Option Addr) (n c : Nat) (xs : List Int) (w : World) (H : Rd w w.heap.size 1 A n (cI xs)) (hn : n ≤ 1048576) (hf : f ≤ 1) :
    Calls Try.prog 66 #[.int .i64 f, .slice A n c] w fun e w' => ∃ g, e = .returned g ∧ OwPointS w' w.heap.size w'.heap.size g (ptsOf f xs) ∧ Below w.heap.size w w' := by
  have hlen := H.len
  obtain ⟨w0, HW0⟩ : ∃ w0, Hid ((w.alloc (.cells #[.int .i64 f] 3)).alloc (.cells #[.slice A n c] 22) = w0) := ⟨_, Lib.hid rfl⟩
  have HB0 : Hid (Below w.heap.size w w0) := Lib.hid (HW0.out ▸ ((Below.refl _ _).alloc (Nat.le_refl _) _).alloc (by simp) _)
  have HZ0 : Hid (w0.heap.size = w.heap.size + 1 + 1) := Lib.hid (by rw [← HW0.out]; simp)
  have HRD : Hid (Rd w0 w0.heap.size 1 A n (cI xs)) := Lib.hid ((H.below HB0.out).more (by have := HZ0.out; omega))
  have HC1 : Hid (w0.cell? ⟨w.heap.size, 0, none⟩ = some (.int .i64 f)) := Lib.hid (by rw [← HW0.out]; exact ((Bx.new w _ _).alloc _).cell 0)
  have HC2 : Hid (w0.cell? ⟨w.heap.size + 1, 0, none⟩ = some (.slice A n c)) := Lib.hid (by
    rw [← HW0.out]
    have := (Bx.new (w.alloc (.cells #[.int .i64 f] 3)) #[.slice A n c] 22).cell 0
    rw [World.size_alloc] at this; exact this)
  have c2 : w0.cell? ⟨w.heap.size + 1, 0, none⟩ = some (.slice A n c) := HC2.out
  clear H
  go_enter Try.func66, Try.ntmps66
  go_wp2_with fail
  try rw [HW0.out]
  refine (i_listed_pts w.heap.size (w.heap.size + 1) n hn (fun k => (((f + k : Nat) : Int), xs.getD k 0)) _ (fun W k hW hk => ?_)).mono ?_
  · exact i_pts1 w.heap.size (w.heap.size + 1) A n c k f xs W ((hW.cell (p := ⟨w.heap.size, 0, none⟩) (by have := HZ0.out; show w.heap.size < w0.heap.size; omega)).trans HC1.out) ((hW.cell (p := ⟨w.heap.size + 1, 0, none⟩) (by have := HZ0.out; show w.heap.size + 1 < w0.heap.size; omega)).trans HC2.out) (by have := HZ0.out; have := hW.size; omega) (by have := HZ0.out; have := hW.size; omega) ((HRD.out.below hW).more hW.size) hf hn hk
  · rintro e w3 ⟨g, rfl, ho, hb3⟩
    have HO : Hid (OwPointS w3 w.heap.size w3.heap.size g (ptsOf f xs)) := Lib.hid (by
      have := ho.widen (show w.heap.size ≤ _ by have := HZ0.out; omega) (Nat.le_refl _)
      rw [← hlen, uptoF_ptsOf] at this; exact this)
    have HB3 := Lib.hid (HB0.out.trans (hb3.mono (by have := HZ0.out; omega)))
    clear ho hb3 c2
    go_wp2
    go_ret
    exact ⟨_, rfl, HO.out, HB3.out⟩

set_option maxHeartbeats 4000000 in
theorem s_ManyTake (A : Option Addr) (n c : Nat) (xs : List Int) (w : World) (h : Rd w w.heap.size 1 A n (cI xs)) (hn : n ≤ 1048576) :
    Calls Try.prog 36 #[.slice A n c] w fun e w' => e = .returned (.tuple #[.int .i64 (mtakV xs), .bool (mtakB xs)]) ∧ Below w.heap.size w w' := by
  have HL := Lib.hid h.len
  have HR := Lib.hid h
  clear h
  go_enter Try.func36, Try.ntmps36
  go_wp2_with fail
  refine (s_l6In _ _ _ _).mono ?_
  rintro e w' ⟨rfl, rfl⟩
  cases e1 : inB (n : Int) 1 20
  · have HF : Hid (mtakV xs = 0 ∧ mtakB xs = false) := Lib.hid (by simp [mtakV, mtakB, HL.out, e1])
    go_wp2
    go_ret2
    exact ⟨ret_ib2 HF.out.1.symm HF.out.2.symm, Below.refl _ _⟩
  obtain ⟨n1, n20⟩ := inB_iff.1 e1
  go_wp2_with fail
  refine (s_l1In _ _ _ _ _ HR.out hn).mono ?_
  rintro e w' ⟨rfl, rfl⟩
  cases e2 : numsB xs
  · have HF : Hid (mtakV xs = 0 ∧ mtakB xs = false) := Lib.hid (by simp [mtakV, mtakB, e2])
    go_wp2
    go_ret2
    exact ⟨ret_ib2 HF.out.1.symm HF.out.2.symm, Below.refl _ _⟩
  have HV : Hid (mtakB xs = true ∧ mtakV xs = atI (thrS (ptsOf 1 xs) n n) 0) := Lib.hid (by have h1 : mtakB xs = true := (by simp [mtakB, HL.out, e1, e2]); exact ⟨h1, by rw [mtakV, if_pos h1, HL.out]⟩)
  have HN := Lib.hid (nums_of_B e2)
  clear e1 e2
  have HE0 : Hid ((w.alloc (.cells #[] 78)).ownsRow w.heap.size 78 2 (.slice (some ⟨w.heap.size, 0, none⟩) 0 0) 0 (cP (ptsU 1 xs 0))) := Lib.hid (own_empty w _ 2)
  have HB0 : Hid (Below w.heap.size w (w.alloc (.cells #[] 78))) := Lib.hid ((Below.refl _ _).alloc (Nat.le_refl _) _)
  go_wp2
  go_loopw [4, 5] (fun out i wr => ∃ (k : Nat) (Ao : Option Addr) (co : Nat), k ≤ n ∧ i = .int .i64 k ∧ out = .slice Ao k co ∧ Hid (wr.ownsRow w.heap.size 78 2 (.slice Ao k co) k (cP (ptsU 1 xs k))) ∧ Hid (Below w.heap.size w wr)) (fun _ i _ => n - (intOf i).toNat)
  case atStart => exact ⟨0, _, 0, Nat.zero_le _, rfl, rfl, HE0, HB0⟩
  case round =>
    clear HE0 HB0
    obtain ⟨k, Ao, co, hk, rfl, rfl, HO, HB⟩ := hrel
    by_cases hlt : k < n
    · obtain ⟨a, x, hA, hab, hx0, HX⟩ := HR.out.intAt hlt
      subst hA
      have hx := (HB.out.cell (p := a.add k) (by rw [add_block]; exact hab)).trans hx0
      have i0 : (0 : Int) ≤ (k : Int) := by omega
      have i1 : (k : Int) < (n : Int) := by omega
      have hzw := HB.out.size
      have HS := Lib.hid (ptsU_succ (f := 1) (k := k) (t := xs) (p := (k : Int) + 1) (x := x) (by omega) HX.out)
      have HOl := Lib.hid (HO.out.alloc (.cells #[.int .i64 ((k : Int) + 1), .int .i64 x] 78))
      have HLP : Hid (Rd (wr.alloc (.cells #[.int .i64 ((k : Int) + 1), .int .i64 x] 78)) (wr.heap.size + 1) 2 (some ⟨wr.heap.size, 0, none⟩) 1 (cP [((k : Int) + 1, x)])) := Lib.hid (lit_pt_at (heap_alloc_new _ _))
      clear hx0
      go_wp2_with (at_builtin
                   refine wpList_append_rd rfl (.tmp 22) (.tmp 30) _ rfl w.heap.size 78 _ 2 16 Try.underlying48 info_pt rfl (by decide) (.slice Ao k co) k _ rfl HOl.out _ _ 1 1 (cP [((k : Int) + 1, x)]) rfl HLP.out (cP_one _) (by unfold maxLen; omega) (by omega) (by simp; omega) ?_
                   intro v6 w6 hown hgr hat
                   obtain ⟨A6, c6, hv6, ho6⟩ := Ow.of_own hown
                   subst hv6
                   have HO6 : Hid (w6.ownsRow w.heap.size 78 2 (.slice A6 (k + 1) c6) (k + 1) (cP (ptsU 1 xs (k + 1)))) := Lib.hid (by rw [HS.out, cP_append]; exact hown)
                   have HB6 : Hid (Below w.heap.size w w6) := Lib.hid (below_grown (HB.out.alloc hzw _) hgr (own_block HO.out) (by simp; omega))
                   clear hown hgr hat ho6)
      go_roundw
      case rel => exact ⟨k + 1, A6, c6, by omega, by go_num, rfl, HO6, HB6⟩
      case measure => simp [intOf] <;> omega
    · obtain rfl : k = n := by omega
      have HOr : Hid (OwPointS wr w.heap.size wr.heap.size (.slice Ao k co) (ptsOf 1 xs)) := Lib.hid (by have := done_pts HO.out (by omega); rw [← HL.out, ptsU_len] at this; rw [← HL.out]; exact this)
      have hz0 := HB.out.size
      go_wp2_with fail
      refine (s_l2Through Ao k co (ptsOf 1 xs) wr (by obtain ⟨_, A', n', c', hv, ho⟩ := HOr.out; injection hv with h1 h2 h3; subst h1 h2 h3; exact ho.rd) (by omega) (by rw [← HL.out]; exact ptsOf_good 1 xs (by rw [HL.out]; omega) HN.out)).mono ?_
      rintro e w6 ⟨g6, rfl, ho6, hb6⟩
      obtain ⟨hsm, At, nt, ct, rfl, hot⟩ := ho6
      have HOT := Lib.hid hot.rd
      have hnt : nt ≤ k := by rw [← hot.len]; exact thrS_len _ _ _ (Nat.le_refl _)
      have HB6 : Hid (Below w.heap.size w w6) := Lib.hid (HB.out.trans (hb6.mono hz0))
      clear hot hb6 hsm HOr HO HB
      go_wp2_with fail
      refine (s_l2At At nt ct _ _ w6 HOT.out (thrS_nums _ _ _) (by omega) (by omega) (by omega)).mono ?_
      rintro e w7 ⟨rfl, rfl⟩
      go_wp2
      go_ret2
      refine ⟨ret_ib2 ?_ HV.out.1.symm, HB6.out⟩
      rw [HV.out.2]

set_option maxHeartbeats 4000000 in
theorem i_ManyTake (A : Option Addr) (n c : Nat) (xs : List Int) (w : World) (h : Rd w w.heap.size 1 A n (cI xs)) (hn : n ≤ 1048576) :
    Calls Try.prog 37 #[.slice A n c] w fun e w' => e = .returned (.tuple #[.int .i64 (mtakV xs), .bool (mtakB xs)]) ∧ Below w.heap.size w w' := by
  have HL := Lib.hid h.len
  have HR := Lib.hid h
  clear h
  by_cases h20 : n ≤ 20
  · have hj := join_ptsOf xs (by rw [HL.out]; exact h20)
    have HJ : Hid (joinI (ptsOf 1 xs) = mtakV xs ∧ joinB (ptsOf 1 xs) = mtakB xs) := Lib.hid ⟨by unfold joinI mtakV; rw [hj, ptsOf_length], hj⟩
    clear hj
    go_enter Try.func37, Try.ntmps37
    go_wp2_with fail
    refine (i_pointsFrom 1 A n c xs w HR.out hn (Nat.le_refl _)).mono ?_
    rintro e w1 ⟨g, rfl, ho, hb⟩
    have HO := Lib.hid ho
    have HB1 := Lib.hid hb
    have hz1 := hb.size
    clear ho hb
    go_wp2_with fail
    refine (X_i_SharesJoin g (ptsOf 1 xs) w1 HO.out.rd (by unfold szPointS; rw [ptsOf_length, HL.out]; exact hn)).mono ?_
    rintro e w2 ⟨rfl, hb⟩
    have HB2 := Lib.hid (HB1.out.trans (hb.mono hz1))
    clear hb
    go_wp2
    go_ret2
    exact ⟨ret_ib2 HJ.out.1 HJ.out.2, HB2.out⟩
  · have HF : Hid (mtakV xs = 0 ∧ mtakB xs = false) := Lib.hid (by have h1 : mtakB xs = false := (by rw [mtakB, HL.out, inB_f (by omega)]; rfl); exact ⟨by unfold mtakV; rw [h1]; rfl, h1⟩)
    go_enter Try.func37, Try.ntmps37
    go_wp2
    go_ret2
    exact ⟨ret_ib2 HF.out.1.symm HF.out.2.symm, Below.refl _ _⟩
theorem X_s_ManyTake (v : Value) (d : List Int) (w : World) (h : RdIntS w w.heap.size v d) (hs : szIntS d ≤ 1048576) :
    Calls Try.prog 36 #[v] w fun e w' => e = .returned (.tuple #[.int .i64 (mtakV d), .bool (mtakB d)]) ∧ Below w.heap.size w w' := by
  obtain ⟨A, n, c, rfl, _, r⟩ := h
  exact s_ManyTake A n c d w r (by have := r.len; unfold szIntS at hs; omega)
theorem X_i_ManyTake (v : Value) (d : List Int) (w : World) (h : RdIntS w w.heap.size v d) (hs : szIntS d ≤ 1048576) :
    Calls Try.prog 37 #[v] w fun e w' => e = .returned (.tuple #[.int .i64 (mtakV d), .bool (mtakB d)]) ∧ Below w.heap.size w w' := by
  obtain ⟨A, n, c, rfl, _, r⟩ := h
  exact i_ManyTake A n c d w r (by have := r.len; unfold szIntS at hs; omega)

set_option maxHeartbeats 4000000 in
theorem s_ManyAnswer (A : Option Addr) (n c : Nat) (xs : List Int) (p : Int) (w : World) (h : Rd w w.heap.size 1 A n (cI xs)) (hn : n ≤ 1048576) :
    Calls Try.prog 34 #[.slice A n c, .int .i64 p] w fun e w' => e = .returned (.tuple #[.int .i64 (mansV xs p), .bool (mansB xs p)]) ∧ Below w.heap.size w w' := by
  have HL := Lib.hid h.len
  have HR := Lib.hid h
  clear h
  go_enter Try.func34, Try.ntmps34
  go_wp2_with fail
  refine (s_TableOk _ _ _ _ _ HR.out hn).mono ?_
  rintro e w' ⟨rfl, rfl⟩
  cases e1 : tabB xs
  · have HF : Hid (mansV xs p = 0 ∧ mansB xs p = false) := Lib.hid (by simp [mansV, mansB, e1])
    go_wp2
    go_ret2
    exact ⟨ret_ib2 HF.out.1.symm HF.out.2.symm, Below.refl _ _⟩
  go_wp2_with fail
  refine (s_NumOk _ _).mono ?_
  rintro e w' ⟨rfl, rfl⟩
  cases e2 : numB p
  · have HF : Hid (mansV xs p = 0 ∧ mansB xs p = false) := Lib.hid (by simp [mansV, mansB, e2])
    go_wp2
    go_ret2
    exact ⟨ret_ib2 HF.out.1.symm HF.out.2.symm, Below.refl _ _⟩
  have HV : Hid (mansB xs p = true ∧ mansV xs p = atI (thrS (ptsOf 0 xs) n n) p) := Lib.hid (by have h1 : mansB xs p = true := (by simp [mansB, e1, e2]); exact ⟨h1, by rw [mansV, if_pos h1, HL.out]⟩)
  have hp := e1
  simp only [tabB, Bool.and_eq_true, inB_iff] at hp
  rw [HL.out] at hp
  obtain ⟨⟨n1, n16⟩, hN⟩ := hp
  obtain ⟨p0, p1⟩ := (numB_iff p).1 e2
  have HN := Lib.hid (nums_of_B hN)
  clear e1 e2 hN
  have HE0 : Hid ((w.alloc (.cells #[] 78)).ownsRow w.heap.size 78 2 (.slice (some ⟨w.heap.size, 0, none⟩) 0 0) 0 (cP (ptsU 0 xs 0))) := Lib.hid (own_empty w _ 2)
  have HB0 : Hid (Below w.heap.size w (w.alloc (.cells #[] 78))) := Lib.hid ((Below.refl _ _).alloc (Nat.le_refl _) _)
  go_wp2
  go_loopw [6, 7] (fun out i wr => ∃ (k : Nat) (Ao : Option Addr) (co : Nat), k ≤ n ∧ i = .int .i64 k ∧ out = .slice Ao k co ∧ Hid (wr.ownsRow w.heap.size 78 2 (.slice Ao k co) k (cP (ptsU 0 xs k))) ∧ Hid (Below w.heap.size w wr)) (fun _ i _ => n - (intOf i).toNat)
  case atStart => exact ⟨0, _, 0, Nat.zero_le _, rfl, rfl, HE0, HB0⟩
  case round =>
    clear HE0 HB0
    obtain ⟨k, Ao, co, hk, rfl, rfl, HO, HB⟩ := hrel
    by_cases hlt : k < n
    · obtain ⟨a, x, hA, hab, hx0, HX⟩ := HR.out.intAt hlt
      subst hA
      have hx := (HB.out.cell (p := a.add k) (by rw [add_block]; exact hab)).trans hx0
      have i0 : (0 : Int) ≤ (k : Int) := by omega
      have i1 : (k : Int) < (n : Int) := by omega
      have hzw := HB.out.size
      have HS := Lib.hid (ptsU_succ (f := 0) (k := k) (t := xs) (p := (k : Int)) (x := x) (by omega) HX.out)
      have HOl := Lib.hid (HO.out.alloc (.cells #[.int .i64 ((k : Int)), .int .i64 x] 78))
      have HLP : Hid (Rd (wr.alloc (.cells #[.int .i64 ((k : Int)), .int .i64 x] 78)) (wr.heap.size + 1) 2 (some ⟨wr.heap.size, 0, none⟩) 1 (cP [((k : Int), x)])) := Lib.hid (lit_pt_at (heap_alloc_new _ _))
      clear hx0
      go_wp2_with (at_builtin
                   refine wpList_append_rd rfl (.tmp 23) (.tmp 30) _ rfl w.heap.size 78 _ 2 16 Try.underlying48 info_pt rfl (by decide) (.slice Ao k co) k _ rfl HOl.out _ _ 1 1 (cP [((k : Int), x)]) rfl HLP.out (cP_one _) (by unfold maxLen; omega) (by omega) (by simp; omega) ?_
                   intro v6 w6 hown hgr hat
                   obtain ⟨A6, c6, hv6, ho6⟩ := Ow.of_own hown
                   subst hv6
                   have HO6 : Hid (w6.ownsRow w.heap.size 78 2 (.slice A6 (k + 1) c6) (k + 1) (cP (ptsU 0 xs (k + 1)))) := Lib.hid (by rw [HS.out, cP_append]; exact hown)
                   have HB6 : Hid (Below w.heap.size w w6) := Lib.hid (below_grown (HB.out.alloc hzw _) hgr (own_block HO.out) (by simp; omega))
                   clear hown hgr hat ho6)
      go_roundw
      case rel => exact ⟨k + 1, A6, c6, by omega, by go_num, rfl, HO6, HB6⟩
      case measure => simp [intOf] <;> omega
    · obtain rfl : k = n := by omega
      have HOr : Hid (OwPointS wr w.heap.size wr.heap.size (.slice Ao k co) (ptsOf 0 xs)) := Lib.hid (by have := done_pts HO.out (by omega); rw [← HL.out, ptsU_len] at this; rw [← HL.out]; exact this)
      have hz0 := HB.out.size
      go_wp2_with fail
      refine (s_l2Through Ao k co (ptsOf 0 xs) wr (by obtain ⟨_, A', n', c', hv, ho⟩ := HOr.out; injection hv with h1 h2 h3; subst h1 h2 h3; exact ho.rd) (by omega) (by rw [← HL.out]; exact ptsOf_good 0 xs (by rw [HL.out]; omega) HN.out)).mono ?_
      rintro e w6 ⟨g6, rfl, ho6, hb6⟩
      obtain ⟨hsm, At, nt, ct, rfl, hot⟩ := ho6
      have HOT := Lib.hid hot.rd
      have hnt : nt ≤ k := by rw [← hot.len]; exact thrS_len _ _ _ (Nat.le_refl _)
      have HB6 : Hid (Below w.heap.size w w6) := Lib.hid (HB.out.trans (hb6.mono hz0))
      clear hot hb6 hsm HOr HO HB
      go_wp2_with fail
      refine (s_l2At At nt ct _ _ w6 HOT.out (thrS_nums _ _ _) (by omega) p0 p1).mono ?_
      rintro e w7 ⟨rfl, rfl⟩
      go_wp2
      go_ret2
      refine ⟨ret_ib2 ?_ HV.out.1.symm, HB6.out⟩
      rw [HV.out.2]

set_option maxHeartbeats 4000000 in
theorem i_places1 (b bt : Nat) (A : Option Addr) (n c : Nat) (xs : List Int) (p : Int) (w : World) (hb : w.cell? ⟨b, 0, none⟩ = some (.pointer (some ⟨bt, 0, none⟩))) (ht : w.cell? ⟨bt, 0, none⟩ = some (.slice A n c))
    (h : Rd w w.heap.size 1 A n (cI xs)) (hn : n ≤ 16) (hN : Nums xs) (p0 : 0 ≤ p) (p1 : p ≤ 112) :
    Calls Try.prog 90 #[.int .i64 p, .pointer (some ⟨b, 0, none⟩)] w fun e w' => e = .returned (.int .i64 (atI (thrS (ptsOf 0 xs) n n) p)) ∧ Below w.heap.size w w' := by
  have HL := Lib.hid h.len
  have HR := Lib.hid h
  have HN := Lib.hid hN
  clear h hN
  go_enter Try.func90, Try.ntmps90
  go_wp2_with fail
  refine (i_pointsFrom 0 A n c xs w HR.out (by omega) (Nat.zero_le _)).mono ?_
  rintro e w1 ⟨g, rfl, ho, hb1⟩
  have HB1 := Lib.hid hb1
  have hz1 := hb1.size
  obtain ⟨hsm, A1, n1, c1, rfl, ho1⟩ := ho
  obtain rfl : n1 = n := by have := ho1.plen; rw [ptsOf_length, HL.out] at this; exact this.symm
  have HG : Good (ptsOf 0 xs) n1 := by have := ptsOf_good 0 xs (by rw [HL.out]; omega) HN.out; rwa [HL.out] at this
  have HT : Hid ((thrI (ptsOf 0 xs) n1).1 = thrS (ptsOf 0 xs) n1 n1) := Lib.hid (by
    have := through_one (ps := ptsOf 0 xs) (by rw [ptsOf_length, HL.out]; exact HG)
    rwa [ptsOf_length, HL.out] at this)
  have HO1 := Lib.hid ho1.rd
  clear ho1 hb1 hsm hb ht
  go_wp2_with fail
  refine (i_through A1 n1 c1 (ptsOf 0 xs) w1 HO1.out (by omega) HG).mono ?_
  rintro e w6 ⟨g6, rfl, ho6, hb6⟩
  rw [HT.out] at ho6
  obtain ⟨hsm, At, nt, ct, rfl, hot⟩ := ho6
  have HOT := Lib.hid hot.rd
  have hnt : nt ≤ n1 := by rw [← hot.len]; exact thrS_len _ _ _ (Nat.le_refl _)
  have HB6 : Hid (Below w.heap.size w w6) := Lib.hid (HB1.out.trans (hb6.mono hz1))
  clear hot hb6 hsm
  go_wp2_with fail
  refine (i_polynomial_at At nt ct _ _ w6 HOT.out (thrS_nums _ _ _) (by omega) p0 p1).mono ?_
  rintro e w7 ⟨rfl, hst⟩
  have HB7 := Lib.hid (HB6.out.trans ((hst.below w6.heap.size).mono HB6.out.size))
  clear hst
  go_wp2
  go_ret
  exact ⟨rfl, HB7.out⟩
set_option maxHeartbeats 1000000 in
theorem i_places (bt : Nat) (w : World) :
    Calls Try.prog 64 #[.pointer (some ⟨bt, 0, none⟩)] w fun e w' => e = .returned (.func (.func 90) #[] #[.pointer (some ⟨w.heap.size, 0, none⟩)]) ∧ w' = w.alloc (.cells #[.pointer (some ⟨bt, 0, none⟩)] 99) := by
  go_enter Try.func64, Try.ntmps64
  go_wp2
  go_ret
  exact ⟨rfl, rfl⟩

set_option maxHeartbeats 4000000 in
theorem i_ManyAnswer (A : Option Addr) (n c : Nat) (xs : List Int) (p : Int) (w : World) (h : Rd w w.heap.size 1 A n (cI xs)) (hn : n ≤ 1048576) :
    Calls Try.prog 35 #[.slice A n c, .int .i64 p] w fun e w' => e = .returned (.tuple #[.int .i64 (mansV xs p), .bool (mansB xs p)]) ∧ Below w.heap.size w w' := by
  have HL := Lib.hid h.len
  have HR := Lib.hid h
  clear h
  go_enter Try.func35, Try.ntmps35
  go_wp2_with fail
  refine (i_TableOk _ _ _ _ _ HR.out hn).mono ?_
  rintro e w' ⟨rfl, rfl⟩
  cases e1 : tabB xs
  · have HF : Hid (mansV xs p = 0 ∧ mansB xs p = false) := Lib.hid (by simp [mansV, mansB, e1])
    go_wp2
    go_ret2
    exact ⟨ret_ib2 HF.out.1.symm HF.out.2.symm, Below.refl _ _⟩
  go_wp2_with fail
  refine (i_NumOk _ _).mono ?_
  rintro e w' ⟨rfl, rfl⟩
  cases e2 : numB p
  · have HF : Hid (mansV xs p = 0 ∧ mansB xs p = false) := Lib.hid (by simp [mansV, mansB, e2])
    go_wp2
    go_ret2
    exact ⟨ret_ib2 HF.out.1.symm HF.out.2.symm, Below.refl _ _⟩
  have HV : Hid (mansB xs p = true ∧ mansV xs p = atI (thrS (ptsOf 0 xs) n n) p) := Lib.hid (by have h1 : mansB xs p = true := (by simp [mansB, e1, e2]); exact ⟨h1, by rw [mansV, if_pos h1, HL.out]⟩)
  have hp := e1
  simp only [tabB, Bool.and_eq_true, inB_iff] at hp
  rw [HL.out] at hp
  obtain ⟨⟨n1, n16⟩, hN⟩ := hp
  obtain ⟨p0, p1⟩ := (numB_iff p).1 e2
  have HN := Lib.hid (nums_of_B hN)
  clear e1 e2 hN
  obtain ⟨w1, HW1⟩ : ∃ w1, Hid (w.alloc (.cells #[.slice A n c] 65) = w1) := ⟨_, Lib.hid rfl⟩
  have HB1 : Hid (Below w.heap.size w w1) := Lib.hid (HW1.out ▸ (Below.refl _ _).alloc (Nat.le_refl _) _)
  have HX1 : Hid (Bx w1 w.heap.size #[.slice A n c] 65) := Lib.hid (HW1.out ▸ Bx.new _ _ _)
  go_wp2_with fail
  rw [HW1.out]
  refine (i_places _ _).mono ?_
  rintro e w2 ⟨rfl, hw2⟩
  have HB2 : Hid (Below w.heap.size w w2) := Lib.hid (by rw [hw2]; exact HB1.out.alloc HB1.out.size _)
  have c1 : w2.cell? ⟨w1.heap.size, 0, none⟩ = some (.pointer (some ⟨w.heap.size, 0, none⟩)) := by rw [hw2]; exact (Bx.new _ _ _).cell 0
  have c2 : w2.cell? ⟨w.heap.size, 0, none⟩ = some (.slice A n c) := by rw [hw2]; exact (HX1.out.alloc _).cell 0
  have hz2 := HB2.out.size
  clear hw2
  go_wp2_with fail
  refine (i_places1 _ _ A n c xs p w2 c1 c2 ((HR.out.below HB2.out).more HB2.out.size) (by omega) HN.out p0 p1).mono ?_
  rintro e w' ⟨rfl, hb⟩
  have HB3 := Lib.hid (HB2.out.trans (hb.mono hz2))
  clear hb
  go_wp2
  go_ret2
  exact ⟨ret_ib2 HV.out.2.symm HV.out.1.symm, HB3.out⟩
theorem X_s_ManyAnswer (v : Value) (d : List Int) (p : Int) (w : World) (h : RdIntS w w.heap.size v d) (hs : szIntS d ≤ 1048576) :
    Calls Try.prog 34 #[v, .int .i64 p] w fun e w' => e = .returned (.tuple #[.int .i64 (mansV d p), .bool (mansB d p)]) ∧ Below w.heap.size w w' := by
  obtain ⟨A, n, c, rfl, _, r⟩ := h
  exact s_ManyAnswer A n c d p w r (by have := r.len; unfold szIntS at hs; omega)
theorem X_i_ManyAnswer (v : Value) (d : List Int) (p : Int) (w : World) (h : RdIntS w w.heap.size v d) (hs : szIntS d ≤ 1048576) :
    Calls Try.prog 35 #[v, .int .i64 p] w fun e w' => e = .returned (.tuple #[.int .i64 (mansV d p), .bool (mansB d p)]) ∧ Below w.heap.size w w' := by
  obtain ⟨A, n, c, rfl, _, r⟩ := h
  exact i_ManyAnswer A n c d p w r (by have := r.len; unfold szIntS at hs; omega)
end Go.Proofs.Ytbabkaofhhaneaa

/- Chapter 12: ManyAsk of both sides. Made by tools/gen12/ask2.py. -/
namespace Go.Proofs.Ytbabkaofhhaneaa
open Go.RowKit
set_option maxRecDepth 100000

theorem done_ints {w1 : World} {B n c : Nat} {A : Option Addr} {ys : List Int} (h : w1.ownsRow B 3 1 (.slice A n c) n (cI ys)) (hs : n ≤ 1048576) : OwIntS w1 B w1.heap.size (.slice A n c) ys := by
  obtain ⟨A', c', he, ho⟩ := Ow.of_own h
  injection he with h1 h2 h3
  subst h1 h3
  exact ⟨by have := ho.len; omega, A, n, c, rfl, ho⟩

set_option maxHeartbeats 4000000 in
theorem X_s_ManyAsk (v : Value) (ix n : Int) (d : List Int) (w : World) (h : RdIntS w w.heap.size v d) (hs : szIntS d ≤ 1048576) :
    Calls Try.prog 30 #[.int .i64 ix, .int .i64 n, v] w fun e w' => ∃ g, e = .returned (.tuple #[g, .bool (R_ManyAsk_1 ix n d)]) ∧ OwIntS w' w.heap.size w'.heap.size g (R_ManyAsk_0 ix n d) ∧ Below w.heap.size w w' := by
  obtain ⟨A, m, c, rfl, _, h⟩ := h
  have hm : m ≤ 1048576 := by have := h.len; unfold szIntS at hs; omega
  have HL := Lib.hid h.len
  have HR := Lib.hid h
  clear h hs
  have no : maskB ix n d = false → Hid (R_ManyAsk_1 ix n d = false ∧ R_ManyAsk_0 ix n d = []) := fun h => Lib.hid ⟨h, by unfold R_ManyAsk_0; rw [h]; rfl⟩
  go_enter Try.func30, Try.ntmps30
  go_wp2_with fail
  refine (s_l6In _ _ _ _).mono ?_
  rintro e w' ⟨rfl, rfl⟩
  cases e1 : inB ix 0 15
  · have HF := no (by simp [maskB, e1])
    clear no
    go_wp2
    go_ret2
    refine ⟨_, ret_vb HF.out.1.symm, ?_, Below.refl _ _⟩
    rw [HF.out.2]; exact OwIntS.nil_ _ _ _
  have E1 := Lib.hid e1
  go_wp2_with fail
  refine (s_l6In _ _ _ _).mono ?_
  rintro e w' ⟨rfl, rfl⟩
  cases e2 : inB n 1 20
  · have HF := no (by simp [maskB, e2])
    clear no
    go_wp2
    go_ret2
    refine ⟨_, ret_vb HF.out.1.symm, ?_, Below.refl _ _⟩
    rw [HF.out.2]; exact OwIntS.nil_ _ _ _
  have E2 := Lib.hid e2
  clear e1 e2
  by_cases h7 : 7 < m
  · have HF := no (by unfold maskB; rw [HL.out, decide_eq_false (by omega)]; simp)
    have q : (7 : Int) < (m : Int) := by omega
    clear no
    go_wp2
    go_ret2
    refine ⟨_, ret_vb HF.out.1.symm, ?_, Below.refl _ _⟩
    rw [HF.out.2]; exact OwIntS.nil_ _ _ _
  have q7 : ¬ (7 : Int) < (m : Int) := by omega
  go_wp2_with fail
  refine (s_l1In _ _ _ _ _ HR.out hm).mono ?_
  rintro e w' ⟨rfl, rfl⟩
  cases e4 : numsB d
  · have HF := no (by simp [maskB, e4])
    clear no
    go_wp2
    go_ret2
    refine ⟨_, ret_vb HF.out.1.symm, ?_, Below.refl _ _⟩
    rw [HF.out.2]; exact OwIntS.nil_ _ _ _
  have E4 := Lib.hid e4
  clear e4
  have HX : Hid (maskB ix n d = true) := Lib.hid (by unfold maskB; rw [E1.out, E2.out, E4.out, HL.out, decide_eq_true (by omega)]; rfl)
  obtain ⟨x0, x1⟩ := inB_iff.1 E1.out
  obtain ⟨n1, n20⟩ := inB_iff.1 E2.out
  obtain ⟨N, hN⟩ : ∃ N : Nat, n = (N : Int) := ⟨n.toNat, by omega⟩
  subst hN
  have HF1 : Hid (R_ManyAsk_1 ix N d = true) := Lib.hid HX.out
  have HF2 : Hid (R_ManyAsk_0 ix N d = vals (ix :: d) N) := Lib.hid (by unfold R_ManyAsk_0; rw [if_pos HX.out]; rfl)
  have HNU := Lib.hid (nums_cons (s := ix) ⟨x0, by omega⟩ (nums_of_B E4.out))
  have hN1 : 1 ≤ N := by omega
  have hN20 : N ≤ 20 := by omega
  clear no E1 E2 E4 HX
  have HLIT := Lib.hid (lit_int w ix)
  have HRD : Hid (Rd (w.alloc (.cells #[.int .i64 ix] 3)) w.heap.size 1 A m (cI d)) := Lib.hid (HR.out.below ((Below.refl _ _).alloc (Nat.le_refl _) _))
  go_wp2_with (at_builtin
               refine wpList_append_rd rfl (.tmp 30) (.tmp 31) _ rfl w.heap.size 3 _ 1 8 Try.underlying22 info_int rfl (by decide) (.slice (some ⟨w.heap.size, 0, none⟩) 1 1) 1 [.int .i64 ix] rfl HLIT.out _ A m c (cI d) rfl HRD.out (cI_one _) (by unfold maxLen; omega) (by omega) (by simp) ?_
               intro v5 w5 hown hgr hat
               obtain ⟨A5, c5, hv5, ho5⟩ := Ow.of_own hown
               subst hv5
               have HRP : Hid (Rd w5 w5.heap.size 1 A5 (1 + m) (cI (ix :: d))) := Lib.hid ho5.rd
               have HB5 : Hid (Below w.heap.size w w5) := Lib.hid (below_grown ((Below.refl _ _).alloc (Nat.le_refl _) _) hgr (fun g e => by simp [Value.ownBlock] at e; omega) (by simp))
               have HO5 : Hid ((w5.alloc (.cells #[] 3)).ownsRow w5.heap.size 3 1 (.slice (some ⟨w5.heap.size, 0, none⟩) 0 0) 0 (cI (vals (ix :: d) 0))) := Lib.hid (own_empty w5 _ 1)
               have HB50 : Hid (Below w5.heap.size w5 (w5.alloc (.cells #[] 3))) := Lib.hid ((Below.refl _ _).alloc (Nat.le_refl _) _)
               clear hown hgr hat ho5)
  clear HLIT HRD
  go_loopw [9, 10] (fun out i wr => ∃ (k : Nat) (Ao : Option Addr) (co : Nat), k ≤ N ∧ i = .int .i64 ((k : Int) + 1) ∧ out = .slice Ao k co ∧ Hid (wr.ownsRow w5.heap.size 3 1 (.slice Ao k co) k (cI (vals (ix :: d) k))) ∧ Hid (Below w5.heap.size w5 wr)) (fun _ i _ => N + 1 - (intOf i).toNat)
  case atStart => exact ⟨0, _, 0, Nat.zero_le _, rfl, rfl, HO5, HB50⟩
  case round =>
    clear HO5 HB50
    obtain ⟨k, Ao, co, hk, rfl, rfl, HO, HB⟩ := hrel
    by_cases hlt : k < N
    · have i0 : (0 : Int) ≤ (k : Int) := by omega
      have i1 : (k : Int) + 1 ≤ (N : Int) := by omega
      go_wp2_with fail
      refine (s_l2At _ _ _ _ _ _ ((HRP.out.below HB.out).more HB.out.size) HNU.out (by omega) (by omega) (by omega)).mono ?_
      rintro e w2 ⟨rfl, rfl⟩
      have hzw := HB.out.size
      have HOl := Lib.hid (HO.out.alloc (.cells #[.int .i64 (atI (ix :: d) ((k : Int) + 1))] 3))
      have HLP : Hid (Rd (wr.alloc (.cells #[.int .i64 (atI (ix :: d) ((k : Int) + 1))] 3)) (wr.heap.size + 1) 1 (some ⟨wr.heap.size, 0, none⟩) 1 (cI [atI (ix :: d) ((k : Int) + 1)])) := Lib.hid (lit_at (heap_alloc_new _ _))
      go_wp2_with (at_builtin
                   refine wpList_append_rd rfl (.tmp 39) (.tmp 43) _ rfl w5.heap.size 3 _ 1 8 Try.underlying22 info_int rfl (by decide) (.slice Ao k co) k _ rfl HOl.out _ _ 1 1 (cI [atI (ix :: d) ((k : Int) + 1)]) rfl HLP.out (cI_one _) (by unfold maxLen; omega) (by omega) (by simp; omega) ?_
                   intro v6 w6 hown hgr hat
                   obtain ⟨A6, c6, hv6, ho6⟩ := Ow.of_own hown
                   subst hv6
                   have HO6 : Hid (w6.ownsRow w5.heap.size 3 1 (.slice A6 (k + 1) c6) (k + 1) (cI (vals (ix :: d) (k + 1)))) := Lib.hid (by rw [vals_succ]; simp only [cI, List.map_append]; exact hown)
                   have HB6 : Hid (Below w5.heap.size w5 w6) := Lib.hid (below_grown (HB.out.alloc hzw _) hgr (own_block HO.out) (by simp; omega))
                   clear hown hgr hat ho6)
      go_roundw
      case rel => exact ⟨k + 1, A6, c6, by omega, by go_num, rfl, HO6, HB6⟩
      case measure => simp [intOf] <;> omega
    · obtain rfl : N = k := by omega
      have HOr : Hid (OwIntS wr w.heap.size wr.heap.size (.slice Ao N co) (vals (ix :: d) N)) := Lib.hid (by
        exact (done_ints HO.out (by omega)).widen HB5.out.size (Nat.le_refl _))
      have HBB := Lib.hid (HB5.out.trans (HB.out.mono HB5.out.size))
      go_wp2
      go_ret2
      exact ⟨_, ret_vb HF1.out.symm, by rw [HF2.out]; exact HOr.out, HBB.out⟩

set_option maxHeartbeats 4000000 in
theorem X_i_ManyAsk (v : Value) (ix n : Int) (d : List Int) (w : World) (h : RdIntS w w.heap.size v d) (hs : szIntS d ≤ 1048576) :
    Calls Try.prog 31 #[.int .i64 ix, .int .i64 n, v] w fun e w' => ∃ g, e = .returned (.tuple #[g, .bool (R_ManyAsk_1 ix n d)]) ∧ OwIntS w' w.heap.size w'.heap.size g (R_ManyAsk_0 ix n d) ∧ Below w.heap.size w w' := by
  obtain ⟨A, m, c, rfl, _, h⟩ := h
  have hm : m ≤ 1048576 := by have := h.len; unfold szIntS at hs; omega
  have HL := Lib.hid h.len
  have HR := Lib.hid h
  clear h hs
  have no : maskB ix n d = false → Hid (R_ManyAsk_1 ix n d = false ∧ R_ManyAsk_0 ix n d = []) := fun h => Lib.hid ⟨h, by unfold R_ManyAsk_0; rw [h]; rfl⟩
  go_enter Try.func31, Try.ntmps31
  go_wp2_with fail
  refine (i_indexOk _ _ _).mono ?_
  rintro e w' ⟨rfl, rfl⟩
  rw [show inB ix 0 (16 - 1) = inB ix 0 15 from rfl]
  cases e1 : inB ix 0 15
  · have HF := no (by simp [maskB, e1])
    clear no
    go_wp2
    go_ret2
    refine ⟨_, ret_vb HF.out.1.symm, ?_, Below.refl _ _⟩
    rw [HF.out.2]; exact OwIntS.nil_ _ _ _
  have E1 := Lib.hid e1
  by_cases h2 : n < 1
  · have HF := no (by unfold maskB; rw [inB_f (n := n) (by omega)]; simp)
    clear no e1
    go_wp2
    go_ret2
    refine ⟨_, ret_vb HF.out.1.symm, ?_, Below.refl _ _⟩
    rw [HF.out.2]; exact OwIntS.nil_ _ _ _
  by_cases h3 : 20 < n
  · have HF := no (by unfold maskB; rw [inB_f (n := n) (by omega)]; simp)
    clear no e1
    go_wp2
    go_ret2
    refine ⟨_, ret_vb HF.out.1.symm, ?_, Below.refl _ _⟩
    rw [HF.out.2]; exact OwIntS.nil_ _ _ _
  have E2 : Hid (inB n 1 20 = true) := Lib.hid (inB_t ⟨by omega, by omega⟩)
  clear e1
  by_cases h7 : 7 < m
  · have HF := no (by unfold maskB; rw [HL.out, decide_eq_false (by omega)]; simp)
    have q : (7 : Int) < (m : Int) := by omega
    clear no
    go_wp2
    go_ret2
    refine ⟨_, ret_vb HF.out.1.symm, ?_, Below.refl _ _⟩
    rw [HF.out.2]; exact OwIntS.nil_ _ _ _
  have q7 : ¬ (7 : Int) < (m : Int) := by omega
  go_wp2_with fail
  refine (i_numbersOk _ _ _ _ _ HR.out hm).mono ?_
  rintro e w' ⟨rfl, rfl⟩
  cases e4 : numsB d
  · have HF := no (by simp [maskB, e4])
    clear no
    go_wp2
    go_ret2
    refine ⟨_, ret_vb HF.out.1.symm, ?_, Below.refl _ _⟩
    rw [HF.out.2]; exact OwIntS.nil_ _ _ _
  have E4 := Lib.hid e4
  clear e4
  have HX : Hid (maskB ix n d = true) := Lib.hid (by unfold maskB; rw [E1.out, E2.out, E4.out, HL.out, decide_eq_true (by omega)]; rfl)
  obtain ⟨x0, x1⟩ := inB_iff.1 E1.out
  obtain ⟨n1, n20⟩ := inB_iff.1 E2.out
  obtain ⟨N, hN⟩ : ∃ N : Nat, n = (N : Int) := ⟨n.toNat, by omega⟩
  subst hN
  have HF1 : Hid (R_ManyAsk_1 ix N d = true) := Lib.hid HX.out
  have HF2 : Hid (R_ManyAsk_0 ix N d = vals (ix :: d) N) := Lib.hid (by unfold R_ManyAsk_0; rw [if_pos HX.out]; rfl)
  have HNU := Lib.hid (nums_cons (s := ix) ⟨x0, by omega⟩ (nums_of_B E4.out))
  have hN1 : 1 ≤ N := by omega
  have hN20 : N ≤ 20 := by omega
  clear no E1 E2 E4 HX
  have hmk := fun W => run_make1 (P := Try.prog) Try.underlying22 info_int rfl N (by omega) (by omega) W
  obtain ⟨w1, HW1⟩ : ∃ w1, Hid (w.alloc (.cells (Array.replicate N (.int .i64 0)) 3) = w1) := ⟨_, Lib.hid rfl⟩
  have HB1 : Hid (Below w.heap.size w w1) := Lib.hid (by rw [← HW1.out]; exact (Below.refl _ _).alloc (Nat.le_refl _) _)
  have HZ1 : Hid (w1.heap.size = w.heap.size + 1) := Lib.hid (by rw [← HW1.out]; simp)
  have HO1 : Hid (Ow w1 w.heap.size (w.heap.size + 1) 3 1 (some ⟨w.heap.size, 0, none⟩) N N (cI ((vals (ix :: d) N).take 0 ++ List.replicate (N - 0) 0))) := Lib.hid (by
    rw [List.take_zero, List.nil_append, Nat.sub_zero, ← cI_zeros, ← HW1.out]; exact Ow.zeros _ _ _ _)
  go_wp2_with fail
  rw [HW1.out]
  refine (i_secretWith ix A m c d w1 ((HR.out.below HB1.out).more HB1.out.size) (by omega)).mono ?_
  rintro e w2 ⟨A2, c2, rfl, ho, hb⟩
  have HR2 := Lib.hid ho.rd
  have HB2 := Lib.hid hb
  clear ho hb hmk
  go_wp2_with fail
  refine (i_given A2 (1 + m) c2 N (ix :: d) w2 HR2.out (by omega) HNU.out hN20).mono ?_
  rintro e w3 ⟨g, rfl, ho, hb⟩
  obtain ⟨hsm, A3, n3, c3, rfl, ho3⟩ := ho
  obtain rfl : n3 = N := by have := ho3.plen; rw [uptoF_length] at this; exact this.symm
  have hz2 := HB2.out.size
  have hz3 := hb.size
  have HO3 : Hid (Ow w3 w1.heap.size w3.heap.size 78 2 A3 n3 c3 (cP (uptoF (shF (ix :: d)) n3))) := Lib.hid (ho3.widen hz2 (Nat.le_refl _))
  have HB3 : Hid (Below w1.heap.size w1 w3) := Lib.hid (HB2.out.trans (hb.mono hz2))
  have HO1' : Hid (Ow w3 w.heap.size w1.heap.size 3 1 (some ⟨w.heap.size, 0, none⟩) n3 n3 (cI ((vals (ix :: d) n3).take 0 ++ List.replicate (n3 - 0) 0))) := Lib.hid ((HO1.out.widen (Nat.le_refl _) (Nat.le_of_eq HZ1.out.symm)).below HB3.out (Nat.le_refl _))
  have HBB : Hid (Below w.heap.size w w3) := Lib.hid (HB1.out.trans (HB3.out.mono HB1.out.size))
  have hz1 := HB1.out.size
  have HZ13 : Hid (w.heap.size < w1.heap.size) := Lib.hid (by have := HZ1.out; omega)
  clear ho3 hb hsm HO1 HR2 HB1 HB2 HB3
  go_wp2
  go_loopw [40] (fun i wr => ∃ k : Nat, k ≤ n3 ∧ i = .int .i64 k ∧ Hid (Ow wr w.heap.size w1.heap.size 3 1 (some ⟨w.heap.size, 0, none⟩) n3 n3 (cI ((vals (ix :: d) n3).take k ++ List.replicate (n3 - k) 0))) ∧ Hid (Ow wr w1.heap.size w3.heap.size 78 2 A3 n3 c3 (cP (uptoF (shF (ix :: d)) n3))) ∧ Hid (Below w.heap.size w wr) ∧ Hid (w3.heap.size ≤ wr.heap.size)) (fun i _ => n3 - (intOf i).toNat)
  case atStart => exact ⟨0, Nat.zero_le _, rfl, HO1', HO3, HBB, Lib.hid (Nat.le_refl _)⟩
  case round =>
    clear HO1' HO3 HBB
    obtain ⟨k, hk, rfl, HO, HP, HB, HZ⟩ := hrel
    by_cases hlt : k < n3
    · obtain ⟨a, x, y, hA, hab, hx, hy, HXY⟩ := HP.out.rd.ptAt hlt
      subst hA
      have i0 : (0 : Int) ≤ (k : Int) := by omega
      have i1 : (k : Int) < (n3 : Int) := by omega
      have HY : Hid (y = (vals (ix :: d) n3).getD k 0) := Lib.hid (by
        have := HXY.out
        rw [uptoF_getD2 _ hlt] at this
        rw [vals_get _ _ _ hlt]
        injection this with _ h2; exact h2.symm)
      obtain ⟨W, hW⟩ : ∃ W, Hid (wr.alloc (.cells #[.int .i64 x, .int .i64 y] 78) = W) := ⟨_, Lib.hid rfl⟩
      have ha : Below wr.heap.size wr W := by rw [← hW.out]; exact (Below.refl _ _).alloc (Nat.le_refl _) _
      have za := ha.size
      have HOa := Lib.hid (HO.out.below ha (by have := HZ.out; omega))
      have HPa := Lib.hid (HP.out.below ha (by have := HZ.out; omega))
      have HBa := Lib.hid (HB.out.trans (ha.mono HB.out.size))
      have hd : W.cell? ⟨w.heap.size, k, none⟩ = some (.int .i64 (((vals (ix :: d) n3).take k ++ List.replicate (n3 - k) 0).getD k 0)) := HOa.out.cellAt (cI_get _ _ (by rw [List.length_append, List.length_take, List.length_replicate, vals_length]; omega))
      have hf := HOa.out.free (by omega) k
      obtain ⟨W2, hW2⟩ : ∃ W2, Hid (W.setCell ⟨w.heap.size, k, none⟩ (.int .i64 y) = W2) := ⟨_, Lib.hid rfl⟩
      have hk2 : Kept w.heap.size w1.heap.size W W2 := by rw [← hW2.out]; exact (Kept.refl _ _ _).setCell (p := ⟨w.heap.size, k, none⟩) (Nat.le_refl _) HZ13.out _
      have HO2 : Hid (Ow W2 w.heap.size w1.heap.size 3 1 (some ⟨w.heap.size, 0, none⟩) n3 n3 (cI ((vals (ix :: d) n3).take (k + 1) ++ List.replicate (n3 - (k + 1)) 0))) := Lib.hid (by
        have := HOa.out.set k (.int .i64 y)
        rw [cI_set, HY.out, copy_step (vals_length _ _) hlt] at this
        rw [← hW2.out, HY.out]; exact this)
      have HP2 := Lib.hid (HPa.out.kept hk2 (by have := HZ.out; omega) (.inl (Nat.le_refl _)))
      have HB2 : Hid (Below w.heap.size w W2) := Lib.hid (HBa.out.trans (hk2.to_below HBa.out.size))
      have HZ2 : Hid (w3.heap.size ≤ W2.heap.size) := Lib.hid (by have := hk2.size; have := HZ.out; omega)
      clear ha za HOa HPa HBa hk2 HO HP HB HZ HY
      rw [← hW.out] at hd hf
      go_wp2
      rw [hW.out, hW2.out]
      go_roundw
      case rel => exact ⟨k + 1, by omega, by go_num, HO2, HP2, HB2, HZ2⟩
      case measure => simp [intOf] <;> omega
    · obtain rfl : n3 = k := by omega
      have HOr : Hid (OwIntS wr w.heap.size wr.heap.size (.slice (some ⟨w.heap.size, 0, none⟩) n3 n3) (vals (ix :: d) n3)) := Lib.hid (by
        have h1 := HO.out
        rw [Nat.sub_self, List.replicate_zero, List.append_nil, List.take_of_length_le (by rw [vals_length]; exact Nat.le_refl _)] at h1
        exact OwIntS.widen ⟨by rw [vals_length]; omega, _, _, _, rfl, h1⟩ (Nat.le_refl _) (by have := HZ.out; omega))
      go_wp2
      go_ret2
      exact ⟨_, ret_vb HF1.out.symm, by rw [HF2.out]; exact HOr.out, HB.out⟩
end Go.Proofs.Ytbabkaofhhaneaa

/- Chapter 12: ManyExplain of both sides; the program's 'explained', which chapter 4 calls, too. Made by tools/gen12/explain.py. -/
namespace Go.Proofs.Ytbabkaofhhaneaa
open Go.RowKit
set_option maxRecDepth 100000

set_option maxHeartbeats 2000000 in
theorem X_s_ManyExplain (v : Value) (s : Int) (d : List (Int × Int)) (w : World) (h : RdPointS w w.heap.size v d) (hs : szPointS d ≤ 1048576) :
    Calls Try.prog 39 #[.int .i64 s, v] w fun e w' => ∃ g, e = .returned (.tuple #[g, .bool (R_ManyExplain_1 s d)]) ∧ OwIntS w' w.heap.size w'.heap.size g (R_ManyExplain_0 s d) ∧ Below w.heap.size w w' := by
  obtain ⟨A, n, c, rfl, hm, r⟩ := h
  have hn : n ≤ 1048576 := by have := r.plen; unfold szPointS at hs; omega
  have hl := Lib.hid r.plen
  have H := Lib.hid r
  clear r hs hm
  have no : mexpB s d = false → Hid (R_ManyExplain_1 s d = false ∧ R_ManyExplain_0 s d = []) := fun h => Lib.hid ⟨h, by unfold R_ManyExplain_0; rw [h]; rfl⟩
  cases hs : inB s 0 15
  · have HF := no (by simp [mexpB, hs])
    clear no
    go_enter Try.func39, Try.ntmps39
    go_wp2_with fail
    refine (s_l6In _ _ _ _).mono ?_
    rintro e w1 ⟨rfl, rfl⟩
    rw [hs]
    go_wp2
    go_ret2
    refine ⟨_, ret_vb HF.out.1.symm, ?_, Below.refl _ _⟩
    rw [HF.out.2]; exact OwIntS.nil_ _ _ _
  · by_cases h6 : n ≤ 7
    · have t6 : decide ((7 : Int) < (n : Int)) = false := decide_eq_false (by omega)
      cases hp : ptsB d
      · have HF := no (by simp [mexpB, shB, hp])
        clear no
        go_enter Try.func39, Try.ntmps39
        go_wp2_with fail
        refine (s_l6In _ _ _ _).mono ?_
        rintro e w1 ⟨rfl, rfl⟩
        rw [hs]
        go_wp2_with fail
        refine (s_l2Points _ _ _ _ _ H.out hn).mono ?_
        rintro e w1 ⟨rfl, hb⟩
        have HB : Hid (Below w.heap.size w w1) := Lib.hid (hb.below _)
        clear hb
        rw [hp]
        go_wp2
        go_ret2
        refine ⟨_, ret_vb HF.out.1.symm, ?_, HB.out⟩
        rw [HF.out.2]; exact OwIntS.nil_ _ _ _
      · have HE : Hid (mexpB s d = xsK d 112 n) := Lib.hid (by unfold mexpB shB; rw [hs, hp, hl.out, decide_eq_true h6]; rfl)
        have HS0 := Lib.hid hs
        have HP0 := Lib.hid hp
        have HNO := Lib.hid no
        go_enter Try.func39, Try.ntmps39
        go_wp2_with fail
        refine (s_l6In _ _ _ _).mono ?_
        rintro e w1 ⟨rfl, rfl⟩
        rw [hs]
        go_wp2_with fail
        refine (s_l2Points _ _ _ _ _ H.out hn).mono ?_
        rintro e w1 ⟨rfl, hb⟩
        have HS := Lib.hid hb
        clear hb no
        rw [hp]
        go_wp2
        clear hs hp
        go_loop [6] (fun i => ∃ k : Nat, k ≤ n ∧ i = .int .i64 k ∧ Hid (xsK d 112 k = true)) (fun i => n - (intOf i).toNat)
        case atStart => exact ⟨0, Nat.zero_le _, rfl, Lib.hid rfl⟩
        case round =>
          obtain ⟨k, hk, rfl, HK⟩ := hrel
          by_cases hlt : k < n
          · obtain ⟨a, x, y, rfl, hab, hx0, _, HP⟩ := H.out.ptAt hlt
            have hx := (HS.out.cell (a.add (k * 2))).trans hx0
            have HXY : Hid (px d k = x) := Lib.hid (by unfold px; rw [HP.out])
            clear hx0
            have i0 : (0 : Int) ≤ (k : Int) := by omega
            have i1 : (k : Int) < (n : Int) := by omega
            have hxr : 0 ≤ x ∧ x ≤ 112 := by rw [← HXY.out]; exact (shB_good rfl HP0.out).1.x0 k (by rw [hl.out]; exact hlt)
            by_cases h0 : x = 0
            · have HF := HNO.out (by
                rw [HE.out, xsK_bad (k := k) ?_ hlt]
                rw [xsK, HXY.out, HK.out, h0]; rfl)
              have hb0 : (x == 0) = true := by simp [h0]
              clear h0
              go_wp2
              go_ret2
              refine ⟨_, ret_vb HF.out.1.symm, ?_, HS.out.below _⟩
              rw [HF.out.2]; exact OwIntS.nil_ _ _ _
            · have hb0 : (x == 0) = false := by simp [h0]
              have HK2 : Hid (xsK d 112 (k + 1) = true) := Lib.hid (by
                rw [xsK, HK.out, HXY.out, decide_eq_true (show 1 ≤ x by omega), decide_eq_true hxr.2]; rfl)
              clear hxr
              go_wp2
              go_round
              case rel => exact ⟨k + 1, by omega, by go_num, HK2⟩
              case measure => simp [intOf] <;> omega
          · have HX : Hid (mexpB s d = true) := Lib.hid (by rw [HE.out, ← HK.out, show k = n by omega])
            have HF1 : Hid (R_ManyExplain_1 s d = true) := Lib.hid HX.out
            have HF2 : Hid (R_ManyExplain_0 s d = expL s d) := Lib.hid (by unfold R_ManyExplain_0; rw [if_pos HX.out])
            have hsh : shB d 112 = true := by unfold shB; rw [HP0.out, hl.out, ← HE.out, HX.out]; rfl
            have HG := Lib.hid (exp_good2 (s := s) (by have := inB_iff.1 HS0.out; omega) hsh)
            rw [hl.out] at HG
            have hz1 : w.heap.size ≤ w1.heap.size := (HS.out.below 0).size
            have HB1 : Hid (Below w.heap.size w w1) := Lib.hid (HS.out.below _)
            have HLIT := Lib.hid (lit_point w1 s)
            have HRD : Hid (Rd (w1.alloc (.cells #[.int .i64 0, .int .i64 s] 78)) (w1.alloc (.cells #[.int .i64 0, .int .i64 s] 78)).heap.size 2 A n (cP d)) := Lib.hid (((H.out.below HB1.out).below ((Below.refl _ _).alloc hz1 _)).more (by simp; omega))
            have hza : w1.heap.size ≤ (w1.alloc (.cells #[.int .i64 0, .int .i64 s] 78)).heap.size := by simp
            have hmk := fun W => run_make1 (P := Try.prog) Try.underlying22 info_int rfl n (by omega) (by omega) W
            clear hsh HNO
            go_wp2_with (at_builtin
                         refine wpList_append_rd rfl (.tmp 37) (.tmp 38) _ rfl w1.heap.size 78 _ 2 16 Try.underlying48 info_pt rfl (by decide) (.slice (some ⟨w1.heap.size, 0, none⟩) 1 1) 1 [.int .i64 0, .int .i64 s] rfl HLIT.out _ A n c (cP d) rfl HRD.out (cP_one d) (by unfold maxLen; omega) (by omega) hza ?_
                         intro v5 w5 hown hgr hat
                         obtain ⟨A5, c5, hv5, ho5⟩ := Ow.of_own hown
                         subst hv5
                         have HO5 : Hid (Ow w5 w1.heap.size w5.heap.size 78 2 A5 (1 + n) c5 (cP ((0, s) :: d))) := Lib.hid ho5
                         have HB5 : Hid (Below w1.heap.size w1 w5) := Lib.hid (below_grown ((Below.refl _ _).alloc (Nat.le_refl _) _) hgr (fun g e => by simp [Value.ownBlock] at e; omega) hza)
                         clear hown hgr hat ho5)
            refine (s_l2Through A5 (1 + n) c5 ((0, s) :: d) w5 HO5.out.rd (by omega) HG.out).mono ?_
            rintro e w6 ⟨g6, rfl, ho6, hb6⟩
            obtain ⟨hsm, At, nt, ct, rfl, hot⟩ := ho6
            have HOT := Lib.hid hot.rd
            have HTL := Lib.hid hot.len
            have hz5 := HB5.out.size
            have HB6 : Hid (Below w.heap.size w w6) := Lib.hid ((HB1.out.trans (HB5.out.mono hz1)).trans (hb6.mono (by omega)))
            have hnt : nt ≤ 1 + n := by rw [← hot.len]; exact thrS_len _ _ _ (Nat.le_refl _)
            have HEL : ∀ i, i < n → (expL s d).getD i 0 = (thrS ((0, s) :: d) (1 + n) (1 + n)).getD (i + 1) 0 := fun i hi => by
              have := expL_get s d i (by rw [hl.out]; exact hi)
              rwa [hl.out] at this
            have HEL := Lib.hid HEL
            have HEn : Hid ((expL s d).length = n) := Lib.hid (by rw [expL_length, hl.out])
            have HX0 : Hid (Ow (w6.alloc (.cells (Array.replicate n (.int .i64 0)) 3)) w6.heap.size (w6.heap.size + 1) 3 1 (some ⟨w6.heap.size, 0, none⟩) n n (cI ((expL s d).take 0 ++ List.replicate (n - 0) 0))) := Lib.hid (by
              have := Ow.zeros w6 (.int .i64 0) 3 n
              rw [cI_zeros] at this; exact this)
            have HBX : Hid (Below w6.heap.size w6 (w6.alloc (.cells (Array.replicate n (.int .i64 0)) 3))) := Lib.hid ((Below.refl _ _).alloc (Nat.le_refl _) _)
            clear hot hb6 hsm HLIT HRD hza HO5 HB5
            go_wp2
            clear hmk
            go_loopw [9] (fun i wr => ∃ k : Nat, k ≤ n ∧ i = .int .i64 k ∧ Hid (Ow wr w6.heap.size (w6.heap.size + 1) 3 1 (some ⟨w6.heap.size, 0, none⟩) n n (cI ((expL s d).take k ++ List.replicate (n - k) 0))) ∧ Hid (Below w6.heap.size w6 wr) ∧ Hid (w6.heap.size + 1 ≤ wr.heap.size)) (fun i _ => n - (intOf i).toNat)
            case atStart => exact ⟨0, Nat.zero_le _, rfl, HX0, HBX, Lib.hid (by simp)⟩
            case round =>
              clear HX0 HBX
              obtain ⟨j, hj, rfl, HX, HBX, HZX⟩ := hrel
              by_cases hltj : j < n
              · have j0 : (0 : Int) ≤ (j : Int) := by omega
                have j1 : (j : Int) < (n : Int) := by omega
                by_cases hin : j + 1 < nt
                · obtain ⟨ap, q, rfl, hap, hcq0, HQ⟩ := HOT.out.intAt hin
                  have hcq := (HBX.out.cell (p := ap.add (j + 1)) (by rw [add_block]; exact hap)).trans hcq0
                  obtain ⟨y, hcy, _⟩ := HX.out.intAt hltj
                  have hf := HX.out.free (by omega) j
                  have HX2 : Hid (Ow (wr.setCell ⟨w6.heap.size, j, none⟩ (.int .i64 q)) w6.heap.size (w6.heap.size + 1) 3 1 (some ⟨w6.heap.size, 0, none⟩) n n (cI ((expL s d).take (j + 1) ++ List.replicate (n - (j + 1)) 0))) := Lib.hid (by
                    have := HX.out.set j (.int .i64 q)
                    rw [cI_set] at this
                    rw [← copy_step HEn.out hltj, HEL.out j hltj, ← HQ.out]; exact this)
                  have HBX2 := Lib.hid (HBX.out.setCell (p := ⟨w6.heap.size, j, none⟩) (Nat.le_refl _) (.int .i64 q))
                  have HZX2 : Hid (w6.heap.size + 1 ≤ (wr.setCell ⟨w6.heap.size, j, none⟩ (.int .i64 q)).heap.size) := Lib.hid (by rw [World.size_setCell]; exact HZX.out)
                  clear HX HBX HZX hcq0 HQ
                  have j2 : (j : Int) + 1 < (nt : Int) := by omega
                  have j3 : (0 : Int) ≤ (j : Int) + 1 := by omega
                  have j4 : ((j : Int) + 1).toNat = j + 1 := by omega
                  rw [show ap.add (j + 1) = ⟨ap.block, ap.off + (j + 1), none⟩ by unfold Addr.add; simp] at hcq
                  go_wp2
                  go_roundw
                  case rel => exact ⟨j + 1, by omega, by go_num, HX2, HBX2, HZX2⟩
                  case measure => simp [intOf] <;> omega
                · have HX2 : Hid (Ow wr w6.heap.size (w6.heap.size + 1) 3 1 (some ⟨w6.heap.size, 0, none⟩) n n (cI ((expL s d).take (j + 1) ++ List.replicate (n - (j + 1)) 0))) := Lib.hid (by
                    rw [← fill_zero HEn.out hltj (by rw [HEL.out j hltj]; simp [List.getElem?_eq_none (show (thrS ((0, s) :: d) (1 + n) (1 + n)).length ≤ j + 1 by rw [HTL.out]; omega)])]
                    exact HX.out)
                  clear HX
                  have j2 : ¬ ((j : Int) + 1 < (nt : Int)) := by omega
                  go_wp2
                  go_roundw
                  case rel => exact ⟨j + 1, by omega, by go_num, HX2, HBX, HZX⟩
                  case measure => simp [intOf] <;> omega
              · obtain rfl : j = n := by omega
                have hz6 := HB6.out.size
                go_wp2
                go_ret2
                refine ⟨_, ret_vb HF1.out.symm, ?_, HB6.out.trans (HBX.out.mono hz6)⟩
                rw [HF2.out]
                have h1 := HX.out
                rw [Nat.sub_self, List.take_of_length_le (by rw [HEn.out]; exact Nat.le_refl _)] at h1
                refine ⟨by rw [HEn.out]; omega, _, _, _, rfl, ?_⟩
                have h2 : expL s d ++ List.replicate 0 (0 : Int) = expL s d := by simp
                rw [h2] at h1
                exact h1.widen hz6 HZX.out
    · have t6 : decide ((7 : Int) < (n : Int)) = true := decide_eq_true (by omega)
      have HF := no (by unfold mexpB; rw [decide_eq_false (by rw [hl.out]; exact h6)]; simp)
      clear no
      go_enter Try.func39, Try.ntmps39
      go_wp2_with fail
      refine (s_l6In _ _ _ _).mono ?_
      rintro e w1 ⟨rfl, rfl⟩
      rw [hs]
      go_wp2
      go_ret2
      refine ⟨_, ret_vb HF.out.1.symm, ?_, Below.refl _ _⟩
      rw [HF.out.2]; exact OwIntS.nil_ _ _ _

set_option maxHeartbeats 2000000 in
theorem i_explained (A : Option Addr) (n c : Nat) (s : Int) (d : List (Int × Int)) (w : World) (h : Rd w w.heap.size 2 A n (cP d)) (hn : n ≤ 7) (hg : Good ((0, s) :: d) (1 + n)) :
    Calls Try.prog 70 #[.int .i64 s, .slice A n c] w fun e w' => ∃ g, e = .returned g ∧ OwIntT w' w.heap.size w'.heap.size g (expL s d) ∧ Below w.heap.size w w' := by
  have hl := Lib.hid h.plen
  have H := Lib.hid h
  have HG := Lib.hid hg
  clear h hg
  have HQL : Hid (((0, s) :: d).length = 1 + n) := Lib.hid (by rw [List.length_cons, hl.out]; omega)
  have HTO : Hid ((thrI ((0, s) :: d) (1 + n)).1 = thrS ((0, s) :: d) (1 + n) (1 + n)) := Lib.hid (by have := through_one (ps := (0, s) :: d) (by rw [HQL.out]; exact HG.out); rwa [HQL.out] at this)
  go_enter Try.func70, Try.ntmps70
  have HLIT := Lib.hid (lit_point w s)
  have HRD : Hid (Rd (w.alloc (.cells #[.int .i64 0, .int .i64 s] 78)) (w.alloc (.cells #[.int .i64 0, .int .i64 s] 78)).heap.size 2 A n (cP d)) := Lib.hid ((H.out.below ((Below.refl _ _).alloc (Nat.le_refl _) _)).more (by simp))
  have hza : w.heap.size ≤ (w.alloc (.cells #[.int .i64 0, .int .i64 s] 78)).heap.size := by simp
  go_wp2_with (at_builtin
               refine wpList_append_rd rfl (.tmp 8) (.tmp 9) _ rfl w.heap.size 78 _ 2 16 Try.underlying48 info_pt rfl (by decide) (.slice (some ⟨w.heap.size, 0, none⟩) 1 1) 1 [.int .i64 0, .int .i64 s] rfl HLIT.out _ A n c (cP d) rfl HRD.out (cP_one d) (by unfold maxLen; omega) (by omega) hza ?_
               intro v5 w5 hown hgr hat
               obtain ⟨A5, c5, hv5, ho5⟩ := Ow.of_own hown
               subst hv5
               have HO5 : Hid (Ow w5 w.heap.size w5.heap.size 78 2 A5 (1 + n) c5 (cP ((0, s) :: d))) := Lib.hid ho5
               have HB5 : Hid (Below w.heap.size w w5) := Lib.hid (below_grown ((Below.refl _ _).alloc (Nat.le_refl _) _) hgr (fun g e => by simp [Value.ownBlock] at e; omega) hza)
               clear hown hgr hat ho5)
  refine (i_through A5 (1 + n) c5 ((0, s) :: d) w5 HO5.out.rd (by omega) HG.out).mono ?_
  rintro e w6 ⟨g6, rfl, ho6, hb6⟩
  rw [HTO.out] at ho6
  obtain ⟨hsm, At, nt, ct, rfl, hot⟩ := ho6
  have HOT := Lib.hid hot.rd
  have hz5 := HB5.out.size
  have HB6 : Hid (Below w.heap.size w w6) := Lib.hid (HB5.out.trans (hb6.mono (by omega)))
  have hnt : nt ≤ n + 1 := by have := thrS_len ((0, s) :: d) (1 + n) _ (Nat.le_refl _); rw [hot.len] at this; omega
  have HPL : Hid ((thrS ((0, s) :: d) (1 + n) (1 + n)).length ≤ n + 1) := Lib.hid (by rw [hot.len]; exact hnt)
  have hz6 := HB6.out.size
  clear hot hb6 hsm HLIT HRD hza HO5 HB5 HTO
  go_wp2_with fail
  refine (i_padded At nt ct (n + 1) _ w6 HOT.out hnt (by omega)).mono ?_
  rintro e w7 ⟨rfl, hop, hb7, hz7⟩
  have HB7 : Hid (Below w.heap.size w w7) := Lib.hid (HB6.out.trans (hb7.mono hz6))
  have HPO : Hid (OwT w7 w.heap.size w7.heap.size (some ⟨w6.heap.size, 1, none⟩) n (cI (expL s d))) := Lib.hid (by
    refine ⟨by rw [cI_length, expL_length, hl.out], ?_⟩
    obtain ⟨g', cs, hA, h1, h2, hb, ht⟩ := hop.lt (by omega)
    injection hA with hA; injection hA with hA; subst hA
    refine .inr ⟨_, 1, cs, rfl, by omega, by omega, hb, ?_⟩
    have hpl : (padL (thrS ((0, s) :: d) (1 + n) (1 + n)) (n + 1)).length = n + 1 := padL_length _ _ HPL.out
    have e1 : (cs.toList.drop 1).take n = ((cs.toList.take ((n + 1) * 1)).drop 1) := by rw [Nat.mul_one, List.drop_take, Nat.add_sub_cancel]
    rw [e1, ht]
    unfold cI
    rw [← List.map_drop]
    congr 1
    refine ext_getD (by rw [List.length_drop, hpl, expL_length, hl.out]; omega) fun j hj => ?_
    rw [List.length_drop, hpl] at hj
    have e2 := expL_get s d j (by rw [hl.out]; omega)
    rw [hl.out] at e2
    have e3 : (thrS ((0, s) :: d) (1 + n) (1 + n)).getD (j + 1) 0 = (padL (thrS ((0, s) :: d) (1 + n) (1 + n)) (n + 1)).getD (j + 1) 0 := (padL_get _ _ _).symm
    rw [e2, e3, List.getD_eq_getElem?_getD, List.getD_eq_getElem?_getD, List.getElem?_drop, Nat.add_comm 1 j])
  clear hop hb7
  by_cases hn0 : n = 0
  · subst hn0
    go_wp2
    go_ret
    exact ⟨_, rfl, ⟨by rw [expL_length, hl.out]; omega, _, _, _, rfl, HPO.out.1, .inl rfl⟩, HB7.out⟩
  · have hne : ¬ n + 1 = 1 := by omega
    go_wp2
    go_ret
    exact ⟨_, rfl, ⟨by rw [expL_length, hl.out]; omega, _, _, _, rfl, HPO.out⟩, HB7.out⟩

set_option maxHeartbeats 2000000 in
theorem X_i_ManyExplain (v : Value) (s : Int) (d : List (Int × Int)) (w : World) (h : RdPointS w w.heap.size v d) (hs : szPointS d ≤ 1048576) :
    Calls Try.prog 41 #[.int .i64 s, v] w fun e w' => ∃ g, e = .returned (.tuple #[g, .bool (R_ManyExplain_1 s d)]) ∧ OwIntT w' w.heap.size w'.heap.size g (R_ManyExplain_0 s d) ∧ Below w.heap.size w w' := by
  obtain ⟨A, n, c, rfl, hm, r⟩ := h
  have hn : n ≤ 1048576 := by have := r.plen; unfold szPointS at hs; omega
  have hl := Lib.hid r.plen
  have H := Lib.hid r
  clear r hs hm
  have no : mexpB s d = false → Hid (R_ManyExplain_1 s d = false ∧ R_ManyExplain_0 s d = []) := fun h => Lib.hid ⟨h, by unfold R_ManyExplain_0; rw [h]; rfl⟩
  go_enter Try.func41, Try.ntmps41
  go_wp2_with fail
  refine (i_indexOk _ _ _).mono ?_
  rintro e w1 ⟨rfl, rfl⟩
  rw [show inB s 0 (16 - 1) = inB s 0 15 from rfl]
  cases hs : inB s 0 15
  · have HF := no (by simp [mexpB, hs])
    clear no
    go_wp2
    go_ret2
    refine ⟨_, ret_vb HF.out.1.symm, ?_, Below.refl _ _⟩
    rw [HF.out.2]; exact OwIntT.nil_ _ _ _
  have HS := Lib.hid hs
  clear hs
  by_cases h6 : n ≤ 7
  · have t6 : decide ((7 : Int) < (n : Int)) = false := decide_eq_false (by omega)
    go_wp2_with fail
    refine (i_sharesOk _ _ _ _ _ _ H.out hn).mono ?_
    rintro e w1 ⟨rfl, hb⟩
    have HB := Lib.hid hb
    have hz := hb.size
    clear hb
    cases hp : shB d 112
    · have HF := no (by simp [mexpB, hp])
      clear no
      go_wp2
      go_ret2
      refine ⟨_, ret_vb HF.out.1.symm, ?_, HB.out⟩
      rw [HF.out.2]; exact OwIntT.nil_ _ _ _
    · have HX : Hid (mexpB s d = true) := Lib.hid (by unfold mexpB; rw [HS.out, hp, hl.out, decide_eq_true h6]; rfl)
      have HF1 : Hid (R_ManyExplain_1 s d = true) := Lib.hid HX.out
      have HF2 : Hid (R_ManyExplain_0 s d = expL s d) := Lib.hid (by unfold R_ManyExplain_0; rw [if_pos HX.out])
      have HG := exp_good2 (s := s) (by have := inB_iff.1 HS.out; omega) hp
      rw [hl.out] at HG
      clear no hp
      go_wp2_with fail
      refine (i_explained A n c s d w1 ((H.out.below HB.out).more hz) (by omega) HG).mono ?_
      rintro e w2 ⟨g, rfl, ho, hb⟩
      have HO := Lib.hid (ho.widen hz (Nat.le_refl _))
      have HB2 := Lib.hid (HB.out.trans (hb.mono hz))
      clear ho hb HG
      go_wp2
      go_ret2
      refine ⟨_, ret_vb HF1.out.symm, ?_, HB2.out⟩
      rw [HF2.out]
      exact HO.out
  · have t6 : decide ((7 : Int) < (n : Int)) = true := decide_eq_true (by omega)
    have HF := no (by unfold mexpB; rw [decide_eq_false (by rw [hl.out]; exact h6)]; simp)
    clear no
    go_wp2
    go_ret2
    refine ⟨_, ret_vb HF.out.1.symm, ?_, Below.refl _ _⟩
    rw [HF.out.2]; exact OwIntT.nil_ _ _ _

end Go.Proofs.Ytbabkaofhhaneaa

/- An argument of type []bool, opened. -/
namespace Go.Proofs.Ytbabkaofhhaneaa
open Go.ChangeShapes Go.WideShapes Go.ChangeAt Go.RowKit
set_option maxRecDepth 100000

theorem open_boolS {H : Type} {enc : TypeId × Value → H} {P : Program} {w : World} {b0 : Nat} {t e : TypeId} {r : Reach} {v : Value} {d : DataW H} {ps : List MemPlace} (ht : P.underlying t = some (.slice e)) (he : P.underlying e = some .bool) (hc : P.cellsOf e = 1)
    (hv : Value.okWide P w r b0 t v) (h : DataW.Trod enc P w 0 (fun _ => true) true t v d ps) :
    ∃ A n c zs, v = .slice A n c ∧ n ≤ 9223372036854775807 ∧ Rd w w.heap.size 1 A n (cB zs) := by
  obtain ⟨A, n, c, rfl⟩ : ∃ A n c, v = .slice A n c := by
    cases v <;> simp [Value.okWide, ht, Cell.okWide, Cell.ok] at hv
    exact ⟨_, _, _, rfl⟩
  obtain ⟨fuel, hf⟩ := h
  rcases Go.Deep.open_bools ht he hc hf with ⟨hn, _⟩ | ⟨a, len, cap, B, hs, _, hlc, hm, _, hcell⟩
  · simp [Value.cells] at hn
    obtain ⟨rfl, rfl, rfl⟩ := hn
    exact ⟨_, _, _, [], rfl, by omega, by simp [cB], fun h => by omega⟩
  · simp [Value.cells] at hs
    obtain ⟨rfl, rfl, rfl⟩ := hs
    unfold maxLen at hm
    refine ⟨_, _, _, (List.range n).map B, rfl, by omega, by rw [cB_length, List.length_map, List.length_range]; omega, fun hn => ⟨a, rfl, ?_, fun j u hu => ?_⟩⟩
    · have := hcell 0 (by omega)
      exact World.block_lt_of_cell? (a := a.add 0) _ this
    · have hj : j < n := by
        have := (List.getElem?_eq_some_iff.1 hu).1
        rw [cB_length, List.length_map, List.length_range] at this; exact this
      rw [cB_get _ _ (by rw [List.length_map, List.length_range]; exact hj)] at hu
      injection hu with hu
      rw [← hu, hcell j (by omega)]
      simp [hj]
end Go.Proofs.Ytbabkaofhhaneaa
