/- Chapter 11: counts and indexes; DealOk, ChoiceAsk, ChoicePlace, ChoiceTake of both sides. Made by tools/gen11/basics.py. -/
import Derived.Test.YthfkjaofgpgoeaaWalk10b
import Derived.Test.YthfkjaofgpgoeaaWalk2c
import Derived.Test.YthfkjaofgpgoeaaDeal
import Derived.Test.YthfkjaofgpgoeaaWalk3c
namespace Go.Proofs.Ythfkjaofgpgoeaa
open Go.RowKit
set_option maxRecDepth 100000

def placeB (n c a : Int) : Bool := inB n 2 8 && (inB c 0 (n - 1) && inB a 0 (n - 1))
def placeV (n c a : Int) : Int := if placeB n c a = true then (c + a) % n else -1
def dealB (d : List Int × Int) : Bool := inB d.1.length 2 8 && (numsB d.1 && inB d.2 0 (d.1.length - 1))
def askB (d : List Int × Int) (c : Int) : Bool := dealB d && inB c 0 (d.1.length - 1)
def askV (d : List Int × Int) (c : Int) : Int := if askB d c = true then (d.2 - c) % d.1.length else 0
def takeB (xs : List Int) (c m : Int) : Bool := inB xs.length 2 8 && (numsB xs && (inB c 0 (xs.length - 1) && numB m))
def takeV (xs : List Int) (c m : Int) : Int := if takeB xs c m = true then (xs.getD c.toNat 0 - m) % 113 else 0
theorem emod_bd (a : Int) {n : Int} (h : 0 < n) : 0 ≤ a % n ∧ a % n < n := ⟨Int.emod_nonneg _ (by omega), Int.emod_lt_of_pos _ h⟩
theorem minus_mod (p c : Int) {n : Int} : (p + n - c) % n = (p - c) % n := by
  rw [show p + n - c = (p - c) + n by omega, Int.add_emod_right]

set_option maxHeartbeats 1000000 in
theorem i_choiceCount (n : Int) (w : World) :
    Calls Try.prog 102 #[.int .i64 n] w fun e w' => e = .returned (.bool (inB n 2 8)) ∧ w = w' := by
  by_cases h1 : 2 ≤ n
  · by_cases h2 : n ≤ 8
    · have HF := Lib.hid (inB_t (And.intro h1 h2))
      go_enter Try.func102, Try.ntmps102
      go_wp2
      go_ret
      exact ⟨ret_bool HF.out.symm, rfl⟩
    · have HF : Hid (inB n 2 8 = false) := Lib.hid (inB_f (by omega))
      have q : 8 < n := by omega
      go_enter Try.func102, Try.ntmps102
      go_wp2
      go_ret
      exact ⟨ret_bool HF.out.symm, rfl⟩
  · have HF : Hid (inB n 2 8 = false) := Lib.hid (inB_f (by omega))
    have q : n < 2 := by omega
    go_enter Try.func102, Try.ntmps102
    go_wp2
    go_ret
    exact ⟨ret_bool HF.out.symm, rfl⟩
set_option maxHeartbeats 1000000 in
theorem i_indexOk (i n : Int) (w : World) :
    Calls Try.prog 103 #[.int .i64 i, .int .i64 n] w fun e w' => e = .returned (.bool (inB i 0 (n - 1))) ∧ w = w' := by
  by_cases h1 : 0 ≤ i
  · by_cases h2 : i < n
    · have HF : Hid (inB i 0 (n - 1) = true) := Lib.hid (inB_t ⟨h1, by omega⟩)
      go_enter Try.func103, Try.ntmps103
      go_wp2
      go_ret
      exact ⟨ret_bool HF.out.symm, rfl⟩
    · have HF : Hid (inB i 0 (n - 1) = false) := Lib.hid (inB_f (by omega))
      go_enter Try.func103, Try.ntmps103
      go_wp2
      go_ret
      exact ⟨ret_bool HF.out.symm, rfl⟩
  · have HF : Hid (inB i 0 (n - 1) = false) := Lib.hid (inB_f (by omega))
    have q : i < 0 := by omega
    go_enter Try.func103, Try.ntmps103
    go_wp2
    go_ret
    exact ⟨ret_bool HF.out.symm, rfl⟩
set_option maxHeartbeats 1000000 in
theorem i_indexPlus (i b n : Int) (w : World) (h0 : 0 ≤ i ∧ i < n) (h1 : 0 ≤ b ∧ b < n) (h2 : n ≤ 8) :
    Calls Try.prog 110 #[.int .i64 i, .int .i64 b, .int .i64 n] w fun e w' => e = .returned (.int .i64 ((i + b) % n)) ∧ w = w' := by
  have bd := emod_bd (i + b) (show 0 < n by omega)
  have q0 : (n == 0) = false := by rw [beq_eq_false_iff_ne]; omega
  have q1 : IntKind.i64.wrap (i + b) = i + b := IntWalk.i64_in _ (by omega)
  have q2 : (i + b).tmod n = (i + b) % n := Int.tmod_eq_emod_of_nonneg (by omega)
  have q3 : IntKind.i64.wrap ((i + b) % n) = (i + b) % n := IntWalk.i64_in _ (by omega)
  have q4 : ¬ n = 0 := by omega
  go_enter Try.func110, Try.ntmps110
  go_wp2
  go_ret
  exact ⟨rfl, rfl⟩
set_option maxHeartbeats 1000000 in
theorem i_indexMinus (i b n : Int) (w : World) (h0 : 0 ≤ i ∧ i < n) (h1 : 0 ≤ b ∧ b < n) (h2 : n ≤ 8) :
    Calls Try.prog 104 #[.int .i64 i, .int .i64 b, .int .i64 n] w fun e w' => e = .returned (.int .i64 ((i - b) % n)) ∧ w = w' := by
  have HR := Lib.hid (minus_mod i b (n := n))
  have bd := emod_bd (i + n - b) (show 0 < n by omega)
  have q0 : (n == 0) = false := by rw [beq_eq_false_iff_ne]; omega
  have q1 : IntKind.i64.wrap (i + n) = i + n := IntWalk.i64_in _ (by omega)
  have q5 : IntKind.i64.wrap (i + n - b) = i + n - b := IntWalk.i64_in _ (by omega)
  have q2 : (i + n - b).tmod n = (i + n - b) % n := Int.tmod_eq_emod_of_nonneg (by omega)
  have q3 : IntKind.i64.wrap ((i + n - b) % n) = (i + n - b) % n := IntWalk.i64_in _ (by omega)
  have q4 : ¬ n = 0 := by omega
  go_enter Try.func104, Try.ntmps104
  go_wp2
  go_ret
  exact ⟨ret_i HR.out, rfl⟩

set_option maxHeartbeats 2000000 in
theorem X_s_ChoicePlace (n c a : Int) (w : World) :
    Calls Try.prog 60 #[.int .i64 n, .int .i64 c, .int .i64 a] w fun e w' => e = .returned (.int .i64 (placeV n c a)) ∧ Below w.heap.size w w' := by
  cases e1 : inB n 2 8
  · have HF : Hid (placeV n c a = -1) := Lib.hid (by simp [placeV, placeB, e1])
    go_enter Try.func60, Try.ntmps60
    go_wp2_with fail
    refine (s_l6In _ _ _ _).mono ?_
    rintro e w' ⟨rfl, rfl⟩
    rw [e1]
    go_wp2
    go_ret
    exact ⟨ret_i HF.out.symm, Below.refl _ _⟩
  obtain ⟨n2, n8⟩ := inB_iff.1 e1
  have im : IntKind.i64.wrap (n - 1) = n - 1 := IntWalk.i64_in _ (by omega)
  cases e2 : inB c 0 (n - 1)
  · have HF : Hid (placeV n c a = -1) := Lib.hid (by simp [placeV, placeB, e2])
    go_enter Try.func60, Try.ntmps60
    go_wp2_with fail
    refine (s_l6In _ _ _ _).mono ?_
    rintro e w' ⟨rfl, rfl⟩
    rw [e1]
    go_wp2_with fail
    refine (s_l6In _ _ _ _).mono ?_
    rintro e w' ⟨rfl, rfl⟩
    rw [e2]
    go_wp2
    go_ret
    exact ⟨ret_i HF.out.symm, Below.refl _ _⟩
  cases e3 : inB a 0 (n - 1)
  · have HF : Hid (placeV n c a = -1) := Lib.hid (by simp [placeV, placeB, e3])
    go_enter Try.func60, Try.ntmps60
    go_wp2_with fail
    refine (s_l6In _ _ _ _).mono ?_
    rintro e w' ⟨rfl, rfl⟩
    rw [e1]
    go_wp2_with fail
    refine (s_l6In _ _ _ _).mono ?_
    rintro e w' ⟨rfl, rfl⟩
    rw [e2]
    go_wp2_with fail
    refine (s_l6In _ _ _ _).mono ?_
    rintro e w' ⟨rfl, rfl⟩
    rw [e3]
    go_wp2
    go_ret
    exact ⟨ret_i HF.out.symm, Below.refl _ _⟩
  have HF : Hid (placeV n c a = (c + a) % n) := Lib.hid (by simp [placeV, placeB, e1, e2, e3])
  obtain ⟨c0, c1⟩ := inB_iff.1 e2
  obtain ⟨a0, a1⟩ := inB_iff.1 e3
  have bd := emod_bd (c + a) (show 0 < n by omega)
  have q0 : (n == 0) = false := by rw [beq_eq_false_iff_ne]; omega
  have q1 : IntKind.i64.wrap (c + a) = c + a := IntWalk.i64_in _ (by omega)
  have q2 : (c + a).tmod n = (c + a) % n := Int.tmod_eq_emod_of_nonneg (by omega)
  have q3 : IntKind.i64.wrap ((c + a) % n) = (c + a) % n := IntWalk.i64_in _ (by omega)
  have q4 : ¬ n = 0 := by omega
  go_enter Try.func60, Try.ntmps60
  go_wp2_with fail
  refine (s_l6In _ _ _ _).mono ?_
  rintro e w' ⟨rfl, rfl⟩
  rw [e1]
  go_wp2_with fail
  refine (s_l6In _ _ _ _).mono ?_
  rintro e w' ⟨rfl, rfl⟩
  rw [e2]
  go_wp2_with fail
  refine (s_l6In _ _ _ _).mono ?_
  rintro e w' ⟨rfl, rfl⟩
  rw [e3]
  go_wp2
  go_ret
  exact ⟨ret_i HF.out.symm, Below.refl _ _⟩

set_option maxHeartbeats 2000000 in
theorem s_DealOk (A : Option Addr) (n c : Nat) (z : Int) (ds : List Int) (w : World) (h : Rd w w.heap.size 1 A n (cI ds)) (hn : n ≤ 1048576) :
    Calls Try.prog 48 #[.agg #[.slice A n c, .int .i64 z]] w fun e w' => e = .returned (.bool (dealB (ds, z))) ∧ Below w.heap.size w w' := by
  have hl := h.len
  have HB0 : Hid (Below w.heap.size w (w.alloc (.cells #[.slice A n c, .int .i64 z] 53))) := Lib.hid ((Below.refl _ _).alloc (Nat.le_refl _) _)
  have H : Hid (Rd (w.alloc (.cells #[.slice A n c, .int .i64 z] 53)) (w.alloc (.cells #[.slice A n c, .int .i64 z] 53)).heap.size 1 A n (cI ds)) := Lib.hid ((h.below HB0.out).more HB0.out.size)
  have HL := Lib.hid hl
  clear h hl
  cases e1 : inB (n : Int) 2 8
  · have HF : Hid (dealB (ds, z) = false) := Lib.hid (by simp [dealB, HL.out, e1])
    go_enter Try.func48, Try.ntmps48
    go_wp2_with fail
    refine (s_l6In _ _ _ _).mono ?_
    rintro e w' ⟨rfl, rfl⟩
    rw [e1]
    go_wp2
    go_ret
    exact ⟨ret_bool HF.out.symm, HB0.out⟩
  obtain ⟨n2, n8⟩ := inB_iff.1 e1
  have im : IntKind.i64.wrap ((n : Int) - 1) = (n : Int) - 1 := IntWalk.i64_in _ (by omega)
  cases e2 : numsB ds
  · have HF : Hid (dealB (ds, z) = false) := Lib.hid (by simp [dealB, e2])
    go_enter Try.func48, Try.ntmps48
    go_wp2_with fail
    refine (s_l6In _ _ _ _).mono ?_
    rintro e w' ⟨rfl, rfl⟩
    rw [e1]
    go_wp2_with fail
    refine (s_l1In _ _ _ _ _ H.out hn).mono ?_
    rintro e w' ⟨rfl, rfl⟩
    rw [e2]
    go_wp2
    go_ret
    exact ⟨ret_bool HF.out.symm, HB0.out⟩
  have HF : Hid (dealB (ds, z) = inB z 0 ((n : Int) - 1)) := Lib.hid (by simp [dealB, HL.out, e1, e2])
  go_enter Try.func48, Try.ntmps48
  go_wp2_with fail
  refine (s_l6In _ _ _ _).mono ?_
  rintro e w' ⟨rfl, rfl⟩
  rw [e1]
  go_wp2_with fail
  refine (s_l1In _ _ _ _ _ H.out hn).mono ?_
  rintro e w' ⟨rfl, rfl⟩
  rw [e2]
  go_wp2_with fail
  refine (s_l6In _ _ _ _).mono ?_
  rintro e w' ⟨rfl, rfl⟩
  go_wp2
  go_ret
  exact ⟨ret_bool HF.out.symm, HB0.out⟩
theorem X_s_DealOk (v : Value) (d : List Int × Int) (w : World) (h : RdDeal w w.heap.size v d) (hs : szDeal d ≤ 1048576) :
    Calls Try.prog 48 #[v] w fun e w' => e = .returned (.bool (dealB d)) ∧ Below w.heap.size w w' := by
  obtain ⟨A, n, c, rfl, B, k, q, hv, _, hr⟩ := h
  injection hv with h1 h2 h3
  subst h1 h2 h3
  have hl := hr.len
  exact s_DealOk A n c d.2 d.1 w hr (by unfold szDeal szIntS at hs; omega)

set_option maxHeartbeats 2000000 in
theorem s_ChoiceAsk (A : Option Addr) (n c : Nat) (z : Int) (ds : List Int) (ch : Int) (w : World) (h : Rd w w.heap.size 1 A n (cI ds)) (hn : n ≤ 1048576) :
    Calls Try.prog 52 #[.agg #[.slice A n c, .int .i64 z], .int .i64 ch] w fun e w' => e = .returned (.tuple #[.int .i64 (askV (ds, z) ch), .bool (askB (ds, z) ch)]) ∧ Below w.heap.size w w' := by
  have hl := h.len
  have HB0 : Hid (Below w.heap.size w (w.alloc (.cells #[.slice A n c, .int .i64 z] 53))) := Lib.hid ((Below.refl _ _).alloc (Nat.le_refl _) _)
  have HX0 : Hid (Bx (w.alloc (.cells #[.slice A n c, .int .i64 z] 53)) w.heap.size #[.slice A n c, .int .i64 z] 53) := Lib.hid (Bx.new _ _ _)
  have H : Hid (Rd (w.alloc (.cells #[.slice A n c, .int .i64 z] 53)) (w.alloc (.cells #[.slice A n c, .int .i64 z] 53)).heap.size 1 A n (cI ds)) := Lib.hid ((h.below HB0.out).more HB0.out.size)
  have HL := Lib.hid hl
  clear h hl
  go_enter Try.func52, Try.ntmps52
  go_wp2_with fail
  refine (s_DealOk A n c z ds _ H.out hn).mono ?_
  rintro e w1 ⟨rfl, hb⟩
  have HX1 := Lib.hid (HX0.out.below hb HX0.out.lt)
  have HB1 : Hid (Below w.heap.size w w1) := Lib.hid (HB0.out.trans (hb.mono HB0.out.size))
  clear hb
  cases e1 : dealB (ds, z)
  · have HF : Hid (askV (ds, z) ch = 0 ∧ askB (ds, z) ch = false) := Lib.hid (by simp [askV, askB, e1])
    go_wp2
    go_ret2
    exact ⟨ret_ib2 HF.out.1.symm HF.out.2.symm, HB1.out⟩
  have hd := e1
  simp only [dealB, Bool.and_eq_true, inB_iff] at hd
  obtain ⟨⟨n2, n8⟩, _, z0, z1⟩ := hd
  rw [HL.out] at n2 n8 z1
  have im : IntKind.i64.wrap ((n : Int) - 1) = (n : Int) - 1 := IntWalk.i64_in _ (by omega)
  go_wp2_with fail
  refine (s_l6In _ _ _ _).mono ?_
  rintro e w' ⟨rfl, rfl⟩
  cases e2 : inB ch 0 ((n : Int) - 1)
  · have HF : Hid (askV (ds, z) ch = 0 ∧ askB (ds, z) ch = false) := Lib.hid (by simp [askV, askB, HL.out, e2])
    go_wp2
    go_ret2
    exact ⟨ret_ib2 HF.out.1.symm HF.out.2.symm, HB1.out⟩
  have HF : Hid (askV (ds, z) ch = (z - ch) % n ∧ askB (ds, z) ch = true) := Lib.hid (by have h1 : askB (ds, z) ch = true := (by simp only [askB, e1, Bool.true_and]; rw [HL.out]; exact e2); exact ⟨by unfold askV; rw [if_pos h1, HL.out], h1⟩)
  obtain ⟨c0, c1⟩ := inB_iff.1 e2
  have b1 : w1.cell? ⟨w.heap.size, 1, none⟩ = some (.int .i64 z) := HX1.out.cell 1
  have bd := emod_bd (z - ch + n) (show 0 < (n : Int) by omega)
  have q1 : IntKind.i64.wrap (z - ch) = z - ch := IntWalk.i64_in _ (by omega)
  have q5 : IntKind.i64.wrap (z - ch + n) = z - ch + n := IntWalk.i64_in _ (by omega)
  have q2 : (z - ch + n).tmod n = (z - ch + n) % n := Int.tmod_eq_emod_of_nonneg (by omega)
  have q3 : IntKind.i64.wrap ((z - ch + n) % n) = (z - ch + n) % n := IntWalk.i64_in _ (by omega)
  have q4 : ¬ (n : Int) = 0 := by omega
  have q6 : ¬ n = 0 := by omega
  clear e1 e2
  go_wp2
  go_ret2
  exact ⟨ret_ib2 HF.out.1.symm HF.out.2.symm, HB1.out⟩
theorem X_s_ChoiceAsk (v : Value) (d : List Int × Int) (ch : Int) (w : World) (h : RdDeal w w.heap.size v d) (hs : szDeal d ≤ 1048576) :
    Calls Try.prog 52 #[v, .int .i64 ch] w fun e w' => e = .returned (.tuple #[.int .i64 (askV d ch), .bool (askB d ch)]) ∧ Below w.heap.size w w' := by
  obtain ⟨A, n, c, rfl, B, k, q, hv, _, hr⟩ := h
  injection hv with h1 h2 h3
  subst h1 h2 h3
  have hl := hr.len
  exact s_ChoiceAsk A n c d.2 d.1 ch w hr (by unfold szDeal szIntS at hs; omega)

set_option maxHeartbeats 2000000 in
theorem X_i_ChoicePlace (n c a : Int) (w : World) :
    Calls Try.prog 61 #[.int .i64 n, .int .i64 c, .int .i64 a] w fun e w' => e = .returned (.int .i64 (placeV n c a)) ∧ Below w.heap.size w w' := by
  cases e1 : inB n 2 8
  · have HF : Hid (placeV n c a = -1) := Lib.hid (by simp [placeV, placeB, e1])
    go_enter Try.func61, Try.ntmps61
    go_wp2_with fail
    refine (i_choiceCount _ _).mono ?_
    rintro e w' ⟨rfl, rfl⟩
    rw [e1]
    go_wp2
    go_ret
    exact ⟨ret_i HF.out.symm, Below.refl _ _⟩
  obtain ⟨n2, n8⟩ := inB_iff.1 e1
  have im : IntKind.i64.wrap (n - 1) = n - 1 := IntWalk.i64_in _ (by omega)
  cases e2 : inB c 0 (n - 1)
  · have HF : Hid (placeV n c a = -1) := Lib.hid (by simp [placeV, placeB, e2])
    go_enter Try.func61, Try.ntmps61
    go_wp2_with fail
    refine (i_choiceCount _ _).mono ?_
    rintro e w' ⟨rfl, rfl⟩
    rw [e1]
    go_wp2_with fail
    refine (i_indexOk _ _ _).mono ?_
    rintro e w' ⟨rfl, rfl⟩
    rw [e2]
    go_wp2
    go_ret
    exact ⟨ret_i HF.out.symm, Below.refl _ _⟩
  cases e3 : inB a 0 (n - 1)
  · have HF : Hid (placeV n c a = -1) := Lib.hid (by simp [placeV, placeB, e3])
    go_enter Try.func61, Try.ntmps61
    go_wp2_with fail
    refine (i_choiceCount _ _).mono ?_
    rintro e w' ⟨rfl, rfl⟩
    rw [e1]
    go_wp2_with fail
    refine (i_indexOk _ _ _).mono ?_
    rintro e w' ⟨rfl, rfl⟩
    rw [e2]
    go_wp2_with fail
    refine (i_indexOk _ _ _).mono ?_
    rintro e w' ⟨rfl, rfl⟩
    rw [e3]
    go_wp2
    go_ret
    exact ⟨ret_i HF.out.symm, Below.refl _ _⟩
  have HF : Hid (placeV n c a = (c + a) % n) := Lib.hid (by simp [placeV, placeB, e1, e2, e3])
  obtain ⟨c0, c1⟩ := inB_iff.1 e2
  obtain ⟨a0, a1⟩ := inB_iff.1 e3
  go_enter Try.func61, Try.ntmps61
  go_wp2_with fail
  refine (i_choiceCount _ _).mono ?_
  rintro e w' ⟨rfl, rfl⟩
  rw [e1]
  go_wp2_with fail
  refine (i_indexOk _ _ _).mono ?_
  rintro e w' ⟨rfl, rfl⟩
  rw [e2]
  go_wp2_with fail
  refine (i_indexOk _ _ _).mono ?_
  rintro e w' ⟨rfl, rfl⟩
  rw [e3]
  go_wp2_with fail
  refine (i_indexPlus _ _ _ _ ⟨c0, by omega⟩ ⟨a0, by omega⟩ n8).mono ?_
  rintro e w' ⟨rfl, rfl⟩
  go_wp2
  go_ret
  exact ⟨ret_i HF.out.symm, Below.refl _ _⟩

set_option maxHeartbeats 2000000 in
theorem i_DealOk (A : Option Addr) (n c : Nat) (z : Int) (ds : List Int) (w : World) (h : Rd w w.heap.size 1 A n (cI ds)) (hn : n ≤ 1048576) :
    Calls Try.prog 50 #[.agg #[.slice A n c, .int .i64 z]] w fun e w' => e = .returned (.bool (dealB (ds, z))) ∧ Below w.heap.size w w' := by
  have hl := h.len
  have HB0 : Hid (Below w.heap.size w (w.alloc (.cells #[.slice A n c, .int .i64 z] 53))) := Lib.hid ((Below.refl _ _).alloc (Nat.le_refl _) _)
  have H : Hid (Rd (w.alloc (.cells #[.slice A n c, .int .i64 z] 53)) (w.alloc (.cells #[.slice A n c, .int .i64 z] 53)).heap.size 1 A n (cI ds)) := Lib.hid ((h.below HB0.out).more HB0.out.size)
  have HL := Lib.hid hl
  clear h hl
  cases e1 : inB (n : Int) 2 8
  · have HF : Hid (dealB (ds, z) = false) := Lib.hid (by simp [dealB, HL.out, e1])
    go_enter Try.func50, Try.ntmps50
    go_wp2_with fail
    refine (i_choiceCount _ _).mono ?_
    rintro e w' ⟨rfl, rfl⟩
    rw [e1]
    go_wp2
    go_ret
    exact ⟨ret_bool HF.out.symm, HB0.out⟩
  obtain ⟨n2, n8⟩ := inB_iff.1 e1
  have im : IntKind.i64.wrap ((n : Int) - 1) = (n : Int) - 1 := IntWalk.i64_in _ (by omega)
  cases e2 : numsB ds
  · have HF : Hid (dealB (ds, z) = false) := Lib.hid (by simp [dealB, e2])
    go_enter Try.func50, Try.ntmps50
    go_wp2_with fail
    refine (i_choiceCount _ _).mono ?_
    rintro e w' ⟨rfl, rfl⟩
    rw [e1]
    go_wp2_with fail
    refine (i_numbersOk _ _ _ _ _ H.out hn).mono ?_
    rintro e w' ⟨rfl, rfl⟩
    rw [e2]
    go_wp2
    go_ret
    exact ⟨ret_bool HF.out.symm, HB0.out⟩
  have HF : Hid (dealB (ds, z) = inB z 0 ((n : Int) - 1)) := Lib.hid (by simp [dealB, HL.out, e1, e2])
  go_enter Try.func50, Try.ntmps50
  go_wp2_with fail
  refine (i_choiceCount _ _).mono ?_
  rintro e w' ⟨rfl, rfl⟩
  rw [e1]
  go_wp2_with fail
  refine (i_numbersOk _ _ _ _ _ H.out hn).mono ?_
  rintro e w' ⟨rfl, rfl⟩
  rw [e2]
  go_wp2_with fail
  refine (i_indexOk _ _ _).mono ?_
  rintro e w' ⟨rfl, rfl⟩
  go_wp2
  go_ret
  exact ⟨ret_bool HF.out.symm, HB0.out⟩
theorem X_i_DealOk (v : Value) (d : List Int × Int) (w : World) (h : RdDeal w w.heap.size v d) (hs : szDeal d ≤ 1048576) :
    Calls Try.prog 50 #[v] w fun e w' => e = .returned (.bool (dealB d)) ∧ Below w.heap.size w w' := by
  obtain ⟨A, n, c, rfl, B, k, q, hv, _, hr⟩ := h
  injection hv with h1 h2 h3
  subst h1 h2 h3
  have hl := hr.len
  exact i_DealOk A n c d.2 d.1 w hr (by unfold szDeal szIntS at hs; omega)

set_option maxHeartbeats 2000000 in
theorem i_ChoiceAsk (A : Option Addr) (n c : Nat) (z : Int) (ds : List Int) (ch : Int) (w : World) (h : Rd w w.heap.size 1 A n (cI ds)) (hn : n ≤ 1048576) :
    Calls Try.prog 53 #[.agg #[.slice A n c, .int .i64 z], .int .i64 ch] w fun e w' => e = .returned (.tuple #[.int .i64 (askV (ds, z) ch), .bool (askB (ds, z) ch)]) ∧ Below w.heap.size w w' := by
  have hl := h.len
  have HB0 : Hid (Below w.heap.size w (w.alloc (.cells #[.slice A n c, .int .i64 z] 53))) := Lib.hid ((Below.refl _ _).alloc (Nat.le_refl _) _)
  have HX0 : Hid (Bx (w.alloc (.cells #[.slice A n c, .int .i64 z] 53)) w.heap.size #[.slice A n c, .int .i64 z] 53) := Lib.hid (Bx.new _ _ _)
  have H : Hid (Rd (w.alloc (.cells #[.slice A n c, .int .i64 z] 53)) (w.alloc (.cells #[.slice A n c, .int .i64 z] 53)).heap.size 1 A n (cI ds)) := Lib.hid ((h.below HB0.out).more HB0.out.size)
  have HL := Lib.hid hl
  clear h hl
  go_enter Try.func53, Try.ntmps53
  go_wp2_with fail
  refine (i_DealOk A n c z ds _ H.out hn).mono ?_
  rintro e w1 ⟨rfl, hb⟩
  have HX1 := Lib.hid (HX0.out.below hb HX0.out.lt)
  have HB1 : Hid (Below w.heap.size w w1) := Lib.hid (HB0.out.trans (hb.mono HB0.out.size))
  clear hb
  cases e1 : dealB (ds, z)
  · have HF : Hid (askV (ds, z) ch = 0 ∧ askB (ds, z) ch = false) := Lib.hid (by simp [askV, askB, e1])
    go_wp2
    go_ret2
    exact ⟨ret_ib2 HF.out.1.symm HF.out.2.symm, HB1.out⟩
  have hd := e1
  simp only [dealB, Bool.and_eq_true, inB_iff] at hd
  obtain ⟨⟨n2, n8⟩, _, z0, z1⟩ := hd
  rw [HL.out] at n2 n8 z1
  have im : IntKind.i64.wrap ((n : Int) - 1) = (n : Int) - 1 := IntWalk.i64_in _ (by omega)
  go_wp2_with fail
  refine (i_indexOk _ _ _).mono ?_
  rintro e w' ⟨rfl, rfl⟩
  cases e2 : inB ch 0 ((n : Int) - 1)
  · have HF : Hid (askV (ds, z) ch = 0 ∧ askB (ds, z) ch = false) := Lib.hid (by simp [askV, askB, HL.out, e2])
    go_wp2
    go_ret2
    exact ⟨ret_ib2 HF.out.1.symm HF.out.2.symm, HB1.out⟩
  have HF : Hid (askV (ds, z) ch = (z - ch) % n ∧ askB (ds, z) ch = true) := Lib.hid (by have h1 : askB (ds, z) ch = true := (by simp only [askB, e1, Bool.true_and]; rw [HL.out]; exact e2); exact ⟨by unfold askV; rw [if_pos h1, HL.out], h1⟩)
  obtain ⟨c0, c1⟩ := inB_iff.1 e2
  have b1 : w1.cell? ⟨w.heap.size, 1, none⟩ = some (.int .i64 z) := HX1.out.cell 1
  clear e1 e2
  go_wp2_with fail
  refine (i_indexMinus _ _ _ _ ⟨z0, by omega⟩ ⟨c0, by omega⟩ n8).mono ?_
  rintro e w' ⟨rfl, rfl⟩
  go_wp2
  go_ret2
  exact ⟨ret_ib2 HF.out.1.symm HF.out.2.symm, HB1.out⟩
theorem X_i_ChoiceAsk (v : Value) (d : List Int × Int) (ch : Int) (w : World) (h : RdDeal w w.heap.size v d) (hs : szDeal d ≤ 1048576) :
    Calls Try.prog 53 #[v, .int .i64 ch] w fun e w' => e = .returned (.tuple #[.int .i64 (askV d ch), .bool (askB d ch)]) ∧ Below w.heap.size w w' := by
  obtain ⟨A, n, c, rfl, B, k, q, hv, _, hr⟩ := h
  injection hv with h1 h2 h3
  subst h1 h2 h3
  have hl := hr.len
  exact i_ChoiceAsk A n c d.2 d.1 ch w hr (by unfold szDeal szIntS at hs; omega)
end Go.Proofs.Ythfkjaofgpgoeaa
