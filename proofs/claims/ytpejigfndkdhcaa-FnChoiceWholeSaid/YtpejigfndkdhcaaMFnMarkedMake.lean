import Derived.Test.YtpejigfndkdhcaaWalk3a
import Derived.Test.YtpejigfndkdhcaaWalk2a
import Derived.Test.YtpejigfndkdhcaaWalk2b
import Derived.Test.YtpejigfndkdhcaaWalk10b
import Derived.Test.YtpejigfndkdhcaaDeal
import Derived.Test.YtpejigfndkdhcaaWalk3c
import Derived.Test.YtpejigfndkdhcaaWalk10a
import Derived.Deep.RegionHeld3
import Derived.BigQuiet
import Derived.Laws.EntriesVeiled
import Derived.Deep.RegionLaw
import Derived.Deep.Cut
import Derived.StillTailTactics
import Derived.Deep.RegionWith
import Derived.Test.YtpejigfndkdhcaaDraw15
import Derived.Test.YtpejigfndkdhcaaDraw2b
import Derived.Test.YtpejigfndkdhcaaLaw
/- Whether an index lies in a list's length. -/
namespace Go.Proofs.Ytpejigfndkdhcaa
open Go.RowKit
set_option maxRecDepth 100000

set_option maxHeartbeats 1000000 in
theorem i_indexOk (i n : Int) (w : World) :
    Calls Try.prog 84 #[.int .i64 i, .int .i64 n] w fun e w' => e = .returned (.bool (inB i 0 (n - 1))) ∧ w = w' := by
  by_cases h1 : 0 ≤ i
  · by_cases h2 : i < n
    · have HF : Hid (inB i 0 (n - 1) = true) := Lib.hid (inB_t ⟨h1, by omega⟩)
      go_enter Try.func84, Try.ntmps84
      go_wp2
      go_ret
      exact ⟨ret_bool HF.out.symm, rfl⟩
    · have HF : Hid (inB i 0 (n - 1) = false) := Lib.hid (inB_f (by omega))
      go_enter Try.func84, Try.ntmps84
      go_wp2
      go_ret
      exact ⟨ret_bool HF.out.symm, rfl⟩
  · have HF : Hid (inB i 0 (n - 1) = false) := Lib.hid (inB_f (by omega))
    have q : i < 0 := by omega
    go_enter Try.func84, Try.ntmps84
    go_wp2
    go_ret
    exact ⟨ret_bool HF.out.symm, rfl⟩
end Go.Proofs.Ytpejigfndkdhcaa

/- Chapter 2: PolyAt. -/
namespace Go.Proofs.Ytpejigfndkdhcaa
open Go.RowKit

def polyAtB (zs : List Int) (x : Int) : Bool := polyB zs && numB x
def polyAtV (zs : List Int) (x : Int) : Int := if polyAtB zs x = true then atI zs x else 0
theorem ret_ib2 {k : IntKind} {a b : Int} {c d : Bool} (h : a = b) (h2 : c = d) : Ending.returned (.tuple #[.int k a, .bool c]) = .returned (.tuple #[.int k b, .bool d]) := by rw [h, h2]
theorem polyAt_no {zs : List Int} {x : Int} (h : polyAtB zs x = false) : (0 : Int) = polyAtV zs x := by simp [polyAtV, h]
theorem polyAt_yes {zs : List Int} {x : Int} (h : polyAtB zs x = true) : atI zs x = polyAtV zs x := by simp [polyAtV, h]

end Go.Proofs.Ytpejigfndkdhcaa

/- Chapter 11: counts and indexes; DealOk, ChoiceAsk, ChoicePlace, ChoiceTake of both sides. Made by tools/gen11/basics.py. -/
namespace Go.Proofs.Ytpejigfndkdhcaa
open Go.RowKit
set_option maxRecDepth 100000

def placeB (n c a : Int) : Bool := inB n 2 8 && (inB c 0 (n - 1) && inB a 0 (n - 1))
def placeV (n c a : Int) : Int := if placeB n c a = true then (c + a) % n else -1
def dealB (d : List Int × Int) : Bool := inB d.1.length 2 8 && (numsB d.1 && inB d.2 0 (d.1.length - 1))
def askB (d : List Int × Int) (c : Int) : Bool := dealB d && inB c 0 (d.1.length - 1)
def askV (d : List Int × Int) (c : Int) : Int := if askB d c = true then (d.2 - c) % d.1.length else 0
def takeB (xs : List Int) (c m : Int) : Bool := inB xs.length 2 8 && (numsB xs && (inB c 0 (xs.length - 1) && numB m))
def takeV (xs : List Int) (c m : Int) : Int := if takeB xs c m = true then (xs.getD c.toNat 0 - m) % 113 else 0
theorem emod_bd (a : Int) {n : Int} (h : 0 < n) : 0 ≤ a % n ∧ a % n < n := ⟨Int.emod_nonneg _ (by omega), Int.emod_lt_of_pos _ h⟩
theorem minus_mod (p c : Int) {n : Int} : (p + n - c) % n = (p - c) % n := by
  rw [show p + n - c = (p - c) + n by omega, Int.add_emod_right]

set_option maxHeartbeats 1000000 in
theorem i_choiceCount (n : Int) (w : World) :
    Calls Try.prog 91 #[.int .i64 n] w fun e w' => e = .returned (.bool (inB n 2 8)) ∧ w = w' := by
  by_cases h1 : 2 ≤ n
  · by_cases h2 : n ≤ 8
    · have HF := Lib.hid (inB_t (And.intro h1 h2))
      go_enter Try.func91, Try.ntmps91
      go_wp2
      go_ret
      exact ⟨ret_bool HF.out.symm, rfl⟩
    · have HF : Hid (inB n 2 8 = false) := Lib.hid (inB_f (by omega))
      have q : 8 < n := by omega
      go_enter Try.func91, Try.ntmps91
      go_wp2
      go_ret
      exact ⟨ret_bool HF.out.symm, rfl⟩
  · have HF : Hid (inB n 2 8 = false) := Lib.hid (inB_f (by omega))
    have q : n < 2 := by omega
    go_enter Try.func91, Try.ntmps91
    go_wp2
    go_ret
    exact ⟨ret_bool HF.out.symm, rfl⟩
set_option maxHeartbeats 1000000 in
theorem i_indexPlus (i b n : Int) (w : World) (h0 : 0 ≤ i ∧ i < n) (h1 : 0 ≤ b ∧ b < n) (h2 : n ≤ 8) :
    Calls Try.prog 88 #[.int .i64 i, .int .i64 b, .int .i64 n] w fun e w' => e = .returned (.int .i64 ((i + b) % n)) ∧ w = w' := by
  have bd := emod_bd (i + b) (show 0 < n by omega)
  have q0 : (n == 0) = false := by rw [beq_eq_false_iff_ne]; omega
  have q1 : IntKind.i64.wrap (i + b) = i + b := IntWalk.i64_in _ (by omega)
  have q2 : (i + b).tmod n = (i + b) % n := Int.tmod_eq_emod_of_nonneg (by omega)
  have q3 : IntKind.i64.wrap ((i + b) % n) = (i + b) % n := IntWalk.i64_in _ (by omega)
  have q4 : ¬ n = 0 := by omega
  go_enter Try.func88, Try.ntmps88
  go_wp2
  go_ret
  exact ⟨rfl, rfl⟩
set_option maxHeartbeats 1000000 in
theorem i_indexMinus (i b n : Int) (w : World) (h0 : 0 ≤ i ∧ i < n) (h1 : 0 ≤ b ∧ b < n) (h2 : n ≤ 8) :
    Calls Try.prog 94 #[.int .i64 i, .int .i64 b, .int .i64 n] w fun e w' => e = .returned (.int .i64 ((i - b) % n)) ∧ w = w' := by
  have HR := Lib.hid (minus_mod i b (n := n))
  have bd := emod_bd (i + n - b) (show 0 < n by omega)
  have q0 : (n == 0) = false := by rw [beq_eq_false_iff_ne]; omega
  have q1 : IntKind.i64.wrap (i + n) = i + n := IntWalk.i64_in _ (by omega)
  have q5 : IntKind.i64.wrap (i + n - b) = i + n - b := IntWalk.i64_in _ (by omega)
  have q2 : (i + n - b).tmod n = (i + n - b) % n := Int.tmod_eq_emod_of_nonneg (by omega)
  have q3 : IntKind.i64.wrap ((i + n - b) % n) = (i + n - b) % n := IntWalk.i64_in _ (by omega)
  have q4 : ¬ n = 0 := by omega
  go_enter Try.func94, Try.ntmps94
  go_wp2
  go_ret
  exact ⟨ret_i HR.out, rfl⟩

set_option maxHeartbeats 2000000 in
theorem s_DealOk (A : Option Addr) (n c : Nat) (z : Int) (ds : List Int) (w : World) (h : Rd w w.heap.size 1 A n (cI ds)) (hn : n ≤ 1048576) :
    Calls Try.prog 95 #[.agg #[.slice A n c, .int .i64 z]] w fun e w' => e = .returned (.bool (dealB (ds, z))) ∧ Below w.heap.size w w' := by
  have hl := h.len
  have HB0 : Hid (Below w.heap.size w (w.alloc (.cells #[.slice A n c, .int .i64 z] 52))) := Lib.hid ((Below.refl _ _).alloc (Nat.le_refl _) _)
  have H : Hid (Rd (w.alloc (.cells #[.slice A n c, .int .i64 z] 52)) (w.alloc (.cells #[.slice A n c, .int .i64 z] 52)).heap.size 1 A n (cI ds)) := Lib.hid ((h.below HB0.out).more HB0.out.size)
  have HL := Lib.hid hl
  clear h hl
  cases e1 : inB (n : Int) 2 8
  · have HF : Hid (dealB (ds, z) = false) := Lib.hid (by simp [dealB, HL.out, e1])
    go_enter Try.func95, Try.ntmps95
    go_wp2_with fail
    refine (s_l6In _ _ _ _).mono ?_
    rintro e w' ⟨rfl, rfl⟩
    rw [e1]
    go_wp2
    go_ret
    exact ⟨ret_bool HF.out.symm, HB0.out⟩
  obtain ⟨n2, n8⟩ := inB_iff.1 e1
  have im : IntKind.i64.wrap ((n : Int) - 1) = (n : Int) - 1 := IntWalk.i64_in _ (by omega)
  cases e2 : numsB ds
  · have HF : Hid (dealB (ds, z) = false) := Lib.hid (by simp [dealB, e2])
    go_enter Try.func95, Try.ntmps95
    go_wp2_with fail
    refine (s_l6In _ _ _ _).mono ?_
    rintro e w' ⟨rfl, rfl⟩
    rw [e1]
    go_wp2_with fail
    refine (s_l1In _ _ _ _ _ H.out hn).mono ?_
    rintro e w' ⟨rfl, rfl⟩
    rw [e2]
    go_wp2
    go_ret
    exact ⟨ret_bool HF.out.symm, HB0.out⟩
  have HF : Hid (dealB (ds, z) = inB z 0 ((n : Int) - 1)) := Lib.hid (by simp [dealB, HL.out, e1, e2])
  go_enter Try.func95, Try.ntmps95
  go_wp2_with fail
  refine (s_l6In _ _ _ _).mono ?_
  rintro e w' ⟨rfl, rfl⟩
  rw [e1]
  go_wp2_with fail
  refine (s_l1In _ _ _ _ _ H.out hn).mono ?_
  rintro e w' ⟨rfl, rfl⟩
  rw [e2]
  go_wp2_with fail
  refine (s_l6In _ _ _ _).mono ?_
  rintro e w' ⟨rfl, rfl⟩
  go_wp2
  go_ret
  exact ⟨ret_bool HF.out.symm, HB0.out⟩
theorem X_s_DealOk (v : Value) (d : List Int × Int) (w : World) (h : RdDeal w w.heap.size v d) (hs : szDeal d ≤ 1048576) :
    Calls Try.prog 95 #[v] w fun e w' => e = .returned (.bool (dealB d)) ∧ Below w.heap.size w w' := by
  obtain ⟨A, n, c, rfl, B, k, q, hv, _, hr⟩ := h
  injection hv with h1 h2 h3
  subst h1 h2 h3
  have hl := hr.len
  exact s_DealOk A n c d.2 d.1 w hr (by unfold szDeal szIntS at hs; omega)

set_option maxHeartbeats 2000000 in
theorem s_ChoiceAsk (A : Option Addr) (n c : Nat) (z : Int) (ds : List Int) (ch : Int) (w : World) (h : Rd w w.heap.size 1 A n (cI ds)) (hn : n ≤ 1048576) :
    Calls Try.prog 41 #[.agg #[.slice A n c, .int .i64 z], .int .i64 ch] w fun e w' => e = .returned (.tuple #[.int .i64 (askV (ds, z) ch), .bool (askB (ds, z) ch)]) ∧ Below w.heap.size w w' := by
  have hl := h.len
  have HB0 : Hid (Below w.heap.size w (w.alloc (.cells #[.slice A n c, .int .i64 z] 52))) := Lib.hid ((Below.refl _ _).alloc (Nat.le_refl _) _)
  have HX0 : Hid (Bx (w.alloc (.cells #[.slice A n c, .int .i64 z] 52)) w.heap.size #[.slice A n c, .int .i64 z] 52) := Lib.hid (Bx.new _ _ _)
  have H : Hid (Rd (w.alloc (.cells #[.slice A n c, .int .i64 z] 52)) (w.alloc (.cells #[.slice A n c, .int .i64 z] 52)).heap.size 1 A n (cI ds)) := Lib.hid ((h.below HB0.out).more HB0.out.size)
  have HL := Lib.hid hl
  clear h hl
  go_enter Try.func41, Try.ntmps41
  go_wp2_with fail
  refine (s_DealOk A n c z ds _ H.out hn).mono ?_
  rintro e w1 ⟨rfl, hb⟩
  have HX1 := Lib.hid (HX0.out.below hb HX0.out.lt)
  have HB1 : Hid (Below w.heap.size w w1) := Lib.hid (HB0.out.trans (hb.mono HB0.out.size))
  clear hb
  cases e1 : dealB (ds, z)
  · have HF : Hid (askV (ds, z) ch = 0 ∧ askB (ds, z) ch = false) := Lib.hid (by simp [askV, askB, e1])
    go_wp2
    go_ret2
    exact ⟨ret_ib2 HF.out.1.symm HF.out.2.symm, HB1.out⟩
  have hd := e1
  simp only [dealB, Bool.and_eq_true, inB_iff] at hd
  obtain ⟨⟨n2, n8⟩, _, z0, z1⟩ := hd
  rw [HL.out] at n2 n8 z1
  have im : IntKind.i64.wrap ((n : Int) - 1) = (n : Int) - 1 := IntWalk.i64_in _ (by omega)
  go_wp2_with fail
  refine (s_l6In _ _ _ _).mono ?_
  rintro e w' ⟨rfl, rfl⟩
  cases e2 : inB ch 0 ((n : Int) - 1)
  · have HF : Hid (askV (ds, z) ch = 0 ∧ askB (ds, z) ch = false) := Lib.hid (by simp [askV, askB, HL.out, e2])
    go_wp2
    go_ret2
    exact ⟨ret_ib2 HF.out.1.symm HF.out.2.symm, HB1.out⟩
  have HF : Hid (askV (ds, z) ch = (z - ch) % n ∧ askB (ds, z) ch = true) := Lib.hid (by have h1 : askB (ds, z) ch = true := (by simp only [askB, e1, Bool.true_and]; rw [HL.out]; exact e2); exact ⟨by unfold askV; rw [if_pos h1, HL.out], h1⟩)
  obtain ⟨c0, c1⟩ := inB_iff.1 e2
  have b1 : w1.cell? ⟨w.heap.size, 1, none⟩ = some (.int .i64 z) := HX1.out.cell 1
  have bd := emod_bd (z - ch + n) (show 0 < (n : Int) by omega)
  have q1 : IntKind.i64.wrap (z - ch) = z - ch := IntWalk.i64_in _ (by omega)
  have q5 : IntKind.i64.wrap (z - ch + n) = z - ch + n := IntWalk.i64_in _ (by omega)
  have q2 : (z - ch + n).tmod n = (z - ch + n) % n := Int.tmod_eq_emod_of_nonneg (by omega)
  have q3 : IntKind.i64.wrap ((z - ch + n) % n) = (z - ch + n) % n := IntWalk.i64_in _ (by omega)
  have q4 : ¬ (n : Int) = 0 := by omega
  have q6 : ¬ n = 0 := by omega
  clear e1 e2
  go_wp2
  go_ret2
  exact ⟨ret_ib2 HF.out.1.symm HF.out.2.symm, HB1.out⟩
theorem X_s_ChoiceAsk (v : Value) (d : List Int × Int) (ch : Int) (w : World) (h : RdDeal w w.heap.size v d) (hs : szDeal d ≤ 1048576) :
    Calls Try.prog 41 #[v, .int .i64 ch] w fun e w' => e = .returned (.tuple #[.int .i64 (askV d ch), .bool (askB d ch)]) ∧ Below w.heap.size w w' := by
  obtain ⟨A, n, c, rfl, B, k, q, hv, _, hr⟩ := h
  injection hv with h1 h2 h3
  subst h1 h2 h3
  have hl := hr.len
  exact s_ChoiceAsk A n c d.2 d.1 ch w hr (by unfold szDeal szIntS at hs; omega)

set_option maxHeartbeats 2000000 in
theorem i_DealOk (A : Option Addr) (n c : Nat) (z : Int) (ds : List Int) (w : World) (h : Rd w w.heap.size 1 A n (cI ds)) (hn : n ≤ 1048576) :
    Calls Try.prog 83 #[.agg #[.slice A n c, .int .i64 z]] w fun e w' => e = .returned (.bool (dealB (ds, z))) ∧ Below w.heap.size w w' := by
  have hl := h.len
  have HB0 : Hid (Below w.heap.size w (w.alloc (.cells #[.slice A n c, .int .i64 z] 52))) := Lib.hid ((Below.refl _ _).alloc (Nat.le_refl _) _)
  have H : Hid (Rd (w.alloc (.cells #[.slice A n c, .int .i64 z] 52)) (w.alloc (.cells #[.slice A n c, .int .i64 z] 52)).heap.size 1 A n (cI ds)) := Lib.hid ((h.below HB0.out).more HB0.out.size)
  have HL := Lib.hid hl
  clear h hl
  cases e1 : inB (n : Int) 2 8
  · have HF : Hid (dealB (ds, z) = false) := Lib.hid (by simp [dealB, HL.out, e1])
    go_enter Try.func83, Try.ntmps83
    go_wp2_with fail
    refine (i_choiceCount _ _).mono ?_
    rintro e w' ⟨rfl, rfl⟩
    rw [e1]
    go_wp2
    go_ret
    exact ⟨ret_bool HF.out.symm, HB0.out⟩
  obtain ⟨n2, n8⟩ := inB_iff.1 e1
  have im : IntKind.i64.wrap ((n : Int) - 1) = (n : Int) - 1 := IntWalk.i64_in _ (by omega)
  cases e2 : numsB ds
  · have HF : Hid (dealB (ds, z) = false) := Lib.hid (by simp [dealB, e2])
    go_enter Try.func83, Try.ntmps83
    go_wp2_with fail
    refine (i_choiceCount _ _).mono ?_
    rintro e w' ⟨rfl, rfl⟩
    rw [e1]
    go_wp2_with fail
    refine (i_numbersOk _ _ _ _ _ H.out hn).mono ?_
    rintro e w' ⟨rfl, rfl⟩
    rw [e2]
    go_wp2
    go_ret
    exact ⟨ret_bool HF.out.symm, HB0.out⟩
  have HF : Hid (dealB (ds, z) = inB z 0 ((n : Int) - 1)) := Lib.hid (by simp [dealB, HL.out, e1, e2])
  go_enter Try.func83, Try.ntmps83
  go_wp2_with fail
  refine (i_choiceCount _ _).mono ?_
  rintro e w' ⟨rfl, rfl⟩
  rw [e1]
  go_wp2_with fail
  refine (i_numbersOk _ _ _ _ _ H.out hn).mono ?_
  rintro e w' ⟨rfl, rfl⟩
  rw [e2]
  go_wp2_with fail
  refine (i_indexOk _ _ _).mono ?_
  rintro e w' ⟨rfl, rfl⟩
  go_wp2
  go_ret
  exact ⟨ret_bool HF.out.symm, HB0.out⟩
theorem X_i_DealOk (v : Value) (d : List Int × Int) (w : World) (h : RdDeal w w.heap.size v d) (hs : szDeal d ≤ 1048576) :
    Calls Try.prog 83 #[v] w fun e w' => e = .returned (.bool (dealB d)) ∧ Below w.heap.size w w' := by
  obtain ⟨A, n, c, rfl, B, k, q, hv, _, hr⟩ := h
  injection hv with h1 h2 h3
  subst h1 h2 h3
  have hl := hr.len
  exact i_DealOk A n c d.2 d.1 w hr (by unfold szDeal szIntS at hs; omega)

set_option maxHeartbeats 2000000 in
theorem i_ChoiceAsk (A : Option Addr) (n c : Nat) (z : Int) (ds : List Int) (ch : Int) (w : World) (h : Rd w w.heap.size 1 A n (cI ds)) (hn : n ≤ 1048576) :
    Calls Try.prog 40 #[.agg #[.slice A n c, .int .i64 z], .int .i64 ch] w fun e w' => e = .returned (.tuple #[.int .i64 (askV (ds, z) ch), .bool (askB (ds, z) ch)]) ∧ Below w.heap.size w w' := by
  have hl := h.len
  have HB0 : Hid (Below w.heap.size w (w.alloc (.cells #[.slice A n c, .int .i64 z] 52))) := Lib.hid ((Below.refl _ _).alloc (Nat.le_refl _) _)
  have HX0 : Hid (Bx (w.alloc (.cells #[.slice A n c, .int .i64 z] 52)) w.heap.size #[.slice A n c, .int .i64 z] 52) := Lib.hid (Bx.new _ _ _)
  have H : Hid (Rd (w.alloc (.cells #[.slice A n c, .int .i64 z] 52)) (w.alloc (.cells #[.slice A n c, .int .i64 z] 52)).heap.size 1 A n (cI ds)) := Lib.hid ((h.below HB0.out).more HB0.out.size)
  have HL := Lib.hid hl
  clear h hl
  go_enter Try.func40, Try.ntmps40
  go_wp2_with fail
  refine (i_DealOk A n c z ds _ H.out hn).mono ?_
  rintro e w1 ⟨rfl, hb⟩
  have HX1 := Lib.hid (HX0.out.below hb HX0.out.lt)
  have HB1 : Hid (Below w.heap.size w w1) := Lib.hid (HB0.out.trans (hb.mono HB0.out.size))
  clear hb
  cases e1 : dealB (ds, z)
  · have HF : Hid (askV (ds, z) ch = 0 ∧ askB (ds, z) ch = false) := Lib.hid (by simp [askV, askB, e1])
    go_wp2
    go_ret2
    exact ⟨ret_ib2 HF.out.1.symm HF.out.2.symm, HB1.out⟩
  have hd := e1
  simp only [dealB, Bool.and_eq_true, inB_iff] at hd
  obtain ⟨⟨n2, n8⟩, _, z0, z1⟩ := hd
  rw [HL.out] at n2 n8 z1
  have im : IntKind.i64.wrap ((n : Int) - 1) = (n : Int) - 1 := IntWalk.i64_in _ (by omega)
  go_wp2_with fail
  refine (i_indexOk _ _ _).mono ?_
  rintro e w' ⟨rfl, rfl⟩
  cases e2 : inB ch 0 ((n : Int) - 1)
  · have HF : Hid (askV (ds, z) ch = 0 ∧ askB (ds, z) ch = false) := Lib.hid (by simp [askV, askB, HL.out, e2])
    go_wp2
    go_ret2
    exact ⟨ret_ib2 HF.out.1.symm HF.out.2.symm, HB1.out⟩
  have HF : Hid (askV (ds, z) ch = (z - ch) % n ∧ askB (ds, z) ch = true) := Lib.hid (by have h1 : askB (ds, z) ch = true := (by simp only [askB, e1, Bool.true_and]; rw [HL.out]; exact e2); exact ⟨by unfold askV; rw [if_pos h1, HL.out], h1⟩)
  obtain ⟨c0, c1⟩ := inB_iff.1 e2
  have b1 : w1.cell? ⟨w.heap.size, 1, none⟩ = some (.int .i64 z) := HX1.out.cell 1
  clear e1 e2
  go_wp2_with fail
  refine (i_indexMinus _ _ _ _ ⟨z0, by omega⟩ ⟨c0, by omega⟩ n8).mono ?_
  rintro e w' ⟨rfl, rfl⟩
  go_wp2
  go_ret2
  exact ⟨ret_ib2 HF.out.1.symm HF.out.2.symm, HB1.out⟩
theorem X_i_ChoiceAsk (v : Value) (d : List Int × Int) (ch : Int) (w : World) (h : RdDeal w w.heap.size v d) (hs : szDeal d ≤ 1048576) :
    Calls Try.prog 40 #[v, .int .i64 ch] w fun e w' => e = .returned (.tuple #[.int .i64 (askV d ch), .bool (askB d ch)]) ∧ Below w.heap.size w w' := by
  obtain ⟨A, n, c, rfl, B, k, q, hv, _, hr⟩ := h
  injection hv with h1 h2 h3
  subst h1 h2 h3
  have hl := hr.len
  exact i_ChoiceAsk A n c d.2 d.1 ch w hr (by unfold szDeal szIntS at hs; omega)
end Go.Proofs.Ytpejigfndkdhcaa

/- Chapter 11: masks on things: the list of it; ChoiceAnswer of the model. -/
namespace Go.Proofs.Ytpejigfndkdhcaa
open Go.RowKit
set_option maxRecDepth 100000

def mapE (op : Int → Int → Int) (xs : List Int) (ms : Nat → Int) (k : Nat) : Int := op (xs.getD k 0) (ms k) % 113
def mapK (op : Int → Int → Int) (xs : List Int) (ms : Nat → Int) : Nat → List Int
  | 0 => []
  | k + 1 => mapK op xs ms k ++ [mapE op xs ms k]
theorem mapK_length (op : Int → Int → Int) (xs : List Int) (ms : Nat → Int) (k : Nat) : (mapK op xs ms k).length = k := by
  induction k with
  | zero => rfl
  | succ k ih => simp [mapK, ih]
/-- the mask of a thing -/
def atM (ds : List Int) (a : Int) (n : Nat) (k : Nat) : Int := ds.getD (((k : Int) + a) % n).toNat 0
def thingsB (d : List Int × Int) (xs : List Int) : Bool := dealB d && (decide (xs.length = d.1.length) && numsB xs)
def R_ChoiceAnswer_1 (d : List Int × Int) (xs : List Int) (a : Int) : Bool := thingsB d xs && inB a 0 (d.1.length - 1)
def R_ChoiceAnswer_0 (d : List Int × Int) (xs : List Int) (a : Int) : List Int :=
  if R_ChoiceAnswer_1 d xs a = true then mapK (fun x y => x + y) xs (atM d.1 a d.1.length) d.1.length else []

set_option maxHeartbeats 2000000 in
theorem s_l11Answer (A A' : Option Addr) (n c n' c' : Nat) (ds xs : List Int) (t : Int) (w : World) (h : Rd w w.heap.size 1 A n (cI ds)) (h' : Rd w w.heap.size 1 A' n' (cI xs)) (hN : Nums ds) (hM : Nums xs) (hn : n ≤ 8) (hnn : n' = n) (t0 : 0 ≤ t) (t1 : t < n) :
    Calls Try.prog 90 #[.slice A n c, .slice A' n' c', .int .i64 t] w fun e w' => ∃ A3 c3, e = .returned (.slice A3 n c3) ∧ OwIntS w' w.heap.size w'.heap.size (.slice A3 n c3) (mapK (fun x y => x + y) xs (atM ds t n) n) ∧ Below w.heap.size w w' := by
  subst hnn
  have H := Lib.hid h
  have H' := Lib.hid h'
  have HN := Lib.hid hN
  have HM := Lib.hid hM
  clear h h' hN hM
  obtain ⟨L, hL⟩ : ∃ L, mapK (fun x y => x + y) xs (atM ds t n') = L := ⟨_, rfl⟩
  have HL := Lib.hid hL
  rw [hL]
  clear hL
  have H0 : Hid ((w.alloc (.cells #[] 3)).ownsRow w.heap.size 3 1 (.slice (some ⟨w.heap.size, 0, none⟩) 0 0) 0 (cI (L 0))) := Lib.hid (by rw [← HL.out]; exact own_empty w _ 1)
  have HB0 : Hid (Below w.heap.size w (w.alloc (.cells #[] 3))) := Lib.hid ((Below.refl _ _).alloc (Nat.le_refl _) _)
  go_enter Try.func90, Try.ntmps90
  go_wp2
  go_loopw [7, 8] (fun out i wr => ∃ (k : Nat) (Ao : Option Addr) (co : Nat), k ≤ n' ∧ i = .int .i64 k ∧ out = .slice Ao k co ∧ Hid (wr.ownsRow w.heap.size 3 1 (.slice Ao k co) k (cI (L k))) ∧ Hid (Below w.heap.size w wr)) (fun _ i _ => n' - (intOf i).toNat)
  case atStart => exact ⟨0, _, 0, Nat.zero_le _, rfl, rfl, H0, HB0⟩
  case round =>
    clear H0 HB0
    obtain ⟨k, Ao, co, hk, rfl, rfl, HO, HB⟩ := hrel
    by_cases hlt : k < n'
    · obtain ⟨bd0, bd1⟩ := emod_bd ((k : Int) + t) (show 0 < (n' : Int) by omega)
      obtain ⟨j, hj⟩ : ∃ j : Nat, ((k : Int) + t) % n' = (j : Int) := ⟨(((k : Int) + t) % n').toNat, by omega⟩
      have hjn : j < n' := by omega
      obtain ⟨a, x, rfl, hab, hx0, HX⟩ := H'.out.intAt hlt
      obtain ⟨a', y, rfl, hab', hy0, HY⟩ := H.out.intAt hjn
      have hx := (HB.out.cell (p := a.add k) (by rw [add_block]; exact hab)).trans hx0
      have hy := (HB.out.cell (p := a'.add j) (by rw [add_block]; exact hab')).trans hy0
      have HX0 := Lib.hid hx0
      have HY0 := Lib.hid hy0
      clear hx0 hy0
      have x0 : 0 ≤ x := by rw [HX.out]; exact (HM.out k).1
      have x1 : x ≤ 112 := by rw [HX.out]; exact (HM.out k).2
      have y0 : 0 ≤ y := by rw [HY.out]; exact (HN.out j).1
      have y1 : y ≤ 112 := by rw [HY.out]; exact (HN.out j).2
      have HE : Hid (L (k + 1) = L k ++ [(x + y) % 113]) := Lib.hid (by rw [← HL.out, mapK, mapE, atM, hj, Int.toNat_natCast, ← HX.out, ← HY.out])
      have i0 : (0 : Int) ≤ (k : Int) := by omega
      have i1 : (k : Int) < (n' : Int) := by omega
      have j0 : (0 : Int) ≤ (j : Int) := by omega
      have j1 : (j : Int) < (n' : Int) := by omega
      have q0 : ¬ (n' : Int) = 0 := by omega
      have q4 : ¬ n' = 0 := by omega
      have q1 : IntKind.i64.wrap ((k : Int) + t) = (k : Int) + t := IntWalk.i64_in _ (by omega)
      have q2 : ((k : Int) + t).tmod n' = (j : Int) := by rw [Int.tmod_eq_emod_of_nonneg (by omega)]; exact hj
      have q3 : IntKind.i64.wrap (j : Int) = (j : Int) := IntWalk.i64_in _ (by omega)
      have iw2 : IntKind.i64.wrap (x + y) = x + y := IntWalk.i64_in _ (by omega)
      have im : (x + y).tmod 113 = (x + y) % 113 := Int.tmod_eq_emod_of_nonneg (by omega)
      clear hj bd0 bd1
      go_wp2
      go_region_held3 (fun w' => w'.cell? (a.add k) = some (.int .i64 x) ∧ w'.cell? (a'.add j) = some (.int .i64 y)) (go_keep) (first
        | (refine step_int (w := w) (wr := wr) (p := (x + y) % 113) rfl (.tmp 16) (.tmp 32) rfl rfl rfl HO.out HB.out ?hW ?hl (by omega) ?_
           case hW => first | exact (Below.refl _ _).alloc (Nat.le_refl _) _ | exact below_drew ((Below.refl _ _).alloc (Nat.le_refl _) _) | exact (below_drew (Below.refl _ _)).alloc (Nat.le_refl _) _
           case hl => exact heap_alloc_new _ _
           intro A3 c3 w3 h6 h7
           have hx3 := (h7.out.cell (p := a.add k) (by rw [add_block]; exact hab)).trans HX0.out
           have hy3 := (h7.out.cell (p := a'.add j) (by rw [add_block]; exact hab')).trans HY0.out))
      all_goals (
        have HO2 : Hid (w3.ownsRow w.heap.size 3 1 (.slice A3 (k + 1) c3) (k + 1) (cI (L (k + 1)))) := Lib.hid (by
          rw [HE.out]; exact h6.out)
        clear h6 hx3 hy3 iw2 im q1 q2 q3
        go_wp2
        go_roundw
        case rel => exact ⟨k + 1, A3, c3, by omega, by go_num, rfl, HO2, h7⟩
        case measure => simp [intOf] <;> omega)
    · have hkn : k = n' := by omega
      subst hkn
      have HOF : Hid (OwIntS wr w.heap.size wr.heap.size (.slice Ao k co) (L k)) := Lib.hid (by
        obtain ⟨A, c, he, ho⟩ := own_fin HO.out (by omega)
        rw [he]; exact ho)
      go_wp2
      go_ret
      exact ⟨_, _, rfl, HOF.out, HB.out⟩

set_option maxHeartbeats 2000000 in
theorem s_l11Things (A : Option Addr) (n c : Nat) (z : Int) (ds : List Int) (A' : Option Addr) (n' c' : Nat) (xs : List Int) (w : World) (h : Rd w w.heap.size 1 A n (cI ds)) (hn : n ≤ 1048576) (h' : Rd w w.heap.size 1 A' n' (cI xs)) (hn' : n' ≤ 1048576) :
    Calls Try.prog 89 #[.agg #[.slice A n c, .int .i64 z], .slice A' n' c'] w fun e w' => e = .returned (.bool (thingsB (ds, z) xs)) ∧ Below w.heap.size w w' := by
  have hl := h.len
  have hl' := h'.len
  have HB0 : Hid (Below w.heap.size w (w.alloc (.cells #[.slice A n c, .int .i64 z] 52))) := Lib.hid ((Below.refl _ _).alloc (Nat.le_refl _) _)
  have HX0 : Hid (Bx (w.alloc (.cells #[.slice A n c, .int .i64 z] 52)) w.heap.size #[.slice A n c, .int .i64 z] 52) := Lib.hid (Bx.new _ _ _)
  have H : Hid (Rd (w.alloc (.cells #[.slice A n c, .int .i64 z] 52)) (w.alloc (.cells #[.slice A n c, .int .i64 z] 52)).heap.size 1 A n (cI ds)) := Lib.hid ((h.below HB0.out).more HB0.out.size)
  have HR := Lib.hid h'
  have HL := Lib.hid hl
  have HL' := Lib.hid hl'
  clear h hl h' hl'
  go_enter Try.func89, Try.ntmps89
  go_wp2_with fail
  refine (s_DealOk A n c z ds _ H.out hn).mono ?_
  rintro e w1 ⟨rfl, hb⟩
  have HX1 := Lib.hid (HX0.out.below hb HX0.out.lt)
  have HB1 : Hid (Below w.heap.size w w1) := Lib.hid (HB0.out.trans (hb.mono HB0.out.size))
  clear hb
  cases e1 : dealB (ds, z)
  · have HF : Hid (thingsB (ds, z) xs = false) := Lib.hid (by simp [thingsB, e1])
    go_wp2
    go_ret
    exact ⟨ret_bool HF.out.symm, HB1.out⟩
  have b0 : w1.cell? ⟨w.heap.size, 0, none⟩ = some (.slice A n c) := HX1.out.cell 0
  by_cases hnn : n' = n
  · subst hnn
    have HF : Hid (thingsB (ds, z) xs = numsB xs) := Lib.hid (by simp [thingsB, e1, HL.out, HL'.out])
    clear e1
    go_wp2_with fail
    refine (s_l1In _ _ _ _ _ ((HR.out.below HB1.out).more HB1.out.size) hn').mono ?_
    rintro e w' ⟨rfl, rfl⟩
    go_wp2
    go_ret
    exact ⟨ret_bool HF.out.symm, HB1.out⟩
  · have q0 : ((n' : Int) == (n : Int)) = false := by rw [beq_eq_false_iff_ne]; omega
    have q1 : ¬ (n' : Int) = (n : Int) := by omega
    have HF : Hid (thingsB (ds, z) xs = false) := Lib.hid (by simp [thingsB, e1, HL.out, HL'.out, hnn])
    clear e1
    go_wp2
    go_ret
    exact ⟨ret_bool HF.out.symm, HB1.out⟩

set_option maxHeartbeats 2000000 in
theorem s_ChoiceAnswer (A : Option Addr) (n c : Nat) (z : Int) (ds : List Int) (A' : Option Addr) (n' c' : Nat) (xs : List Int) (t : Int) (w : World) (h : Rd w w.heap.size 1 A n (cI ds)) (hn : n ≤ 1048576) (h' : Rd w w.heap.size 1 A' n' (cI xs)) (hn' : n' ≤ 1048576) :
    Calls Try.prog 36 #[.agg #[.slice A n c, .int .i64 z], .slice A' n' c', .int .i64 t] w fun e w' => ∃ g, e = .returned (.tuple #[g, .bool (R_ChoiceAnswer_1 (ds, z) xs t)]) ∧ OwIntS w' w.heap.size w'.heap.size g (R_ChoiceAnswer_0 (ds, z) xs t) ∧ Below w.heap.size w w' := by
  have hl := h.len
  have hl' := h'.len
  have HB0 : Hid (Below w.heap.size w (w.alloc (.cells #[.slice A n c, .int .i64 z] 52))) := Lib.hid ((Below.refl _ _).alloc (Nat.le_refl _) _)
  have HX0 : Hid (Bx (w.alloc (.cells #[.slice A n c, .int .i64 z] 52)) w.heap.size #[.slice A n c, .int .i64 z] 52) := Lib.hid (Bx.new _ _ _)
  have HD := Lib.hid h
  have HR := Lib.hid h'
  have HL := Lib.hid hl
  have HL' := Lib.hid hl'
  clear h hl h' hl'
  go_enter Try.func36, Try.ntmps36
  go_wp2_with fail
  refine (s_l11Things A n c z ds A' n' c' xs _ ((HD.out.below HB0.out).more HB0.out.size) hn ((HR.out.below HB0.out).more HB0.out.size) hn').mono ?_
  rintro e w1 ⟨rfl, hb⟩
  have HX1 := Lib.hid (HX0.out.below hb HX0.out.lt)
  have HB1 : Hid (Below w.heap.size w w1) := Lib.hid (HB0.out.trans (hb.mono HB0.out.size))
  clear hb
  cases e1 : thingsB (ds, z) xs
  · have HF : Hid (R_ChoiceAnswer_1 (ds, z) xs t = false) := Lib.hid (by simp [R_ChoiceAnswer_1, e1])
    have HE : Hid (R_ChoiceAnswer_0 (ds, z) xs t = []) := Lib.hid (by simp [R_ChoiceAnswer_0, HF.out])
    go_wp2
    go_ret2
    refine ⟨_, ret_vb HF.out.symm, ?_, HB1.out⟩
    rw [HE.out]; exact OwIntS.nil_ _ _ _
  have hd := e1
  simp only [thingsB, dealB, Bool.and_eq_true, inB_iff, decide_eq_true_eq] at hd
  obtain ⟨⟨⟨n2, n8⟩, hds, z0, z1⟩, hll, hxs⟩ := hd
  rw [HL.out, HL'.out] at hll
  rw [HL.out] at n2 n8 z1
  subst hll
  have im : IntKind.i64.wrap ((n' : Int) - 1) = (n' : Int) - 1 := IntWalk.i64_in _ (by omega)
  go_wp2_with fail
  refine (s_l6In _ _ _ _).mono ?_
  rintro e w' ⟨rfl, rfl⟩
  cases e2 : inB t 0 ((n' : Int) - 1)
  · have HF : Hid (R_ChoiceAnswer_1 (ds, z) xs t = false) := Lib.hid (by simp [R_ChoiceAnswer_1, HL.out, e2])
    have HE : Hid (R_ChoiceAnswer_0 (ds, z) xs t = []) := Lib.hid (by simp [R_ChoiceAnswer_0, HF.out])
    go_wp2
    go_ret2
    refine ⟨_, ret_vb HF.out.symm, ?_, HB1.out⟩
    rw [HE.out]; exact OwIntS.nil_ _ _ _
  have HF : Hid (R_ChoiceAnswer_1 (ds, z) xs t = true) := Lib.hid (by simp [R_ChoiceAnswer_1, e1, HL.out, e2])
  have HE : Hid (R_ChoiceAnswer_0 (ds, z) xs t = mapK (fun x y => x + y) xs (atM ds t n') n') := Lib.hid (by rw [R_ChoiceAnswer_0, if_pos HF.out, HL.out])
  obtain ⟨t0, t1⟩ := inB_iff.1 e2
  have b0 : w1.cell? ⟨w.heap.size, 0, none⟩ = some (.slice A n' c) := HX1.out.cell 0
  have HNd := Lib.hid (nums_of_B hds)
  have HNx := Lib.hid (nums_of_B hxs)
  clear e1 e2 hds hxs
  go_wp2_with fail
  refine (s_l11Answer A A' n' c n' c' ds xs t w1 ((HD.out.below HB1.out).more HB1.out.size) ((HR.out.below HB1.out).more HB1.out.size) HNd.out HNx.out (by omega) rfl t0 (by omega)).mono ?_
  rintro e w2 ⟨A3, c3, rfl, ho, hb⟩
  have HO : Hid (OwIntS w2 w.heap.size w2.heap.size (.slice A3 n' c3) (R_ChoiceAnswer_0 (ds, z) xs t)) := Lib.hid (by rw [HE.out]; exact ho.widen HB1.out.size (Nat.le_refl _))
  have HB2 : Hid (Below w.heap.size w w2) := Lib.hid (HB1.out.trans (hb.mono HB1.out.size))
  clear ho hb
  go_wp2
  go_ret2
  exact ⟨_, ret_vb HF.out.symm, HO.out, HB2.out⟩
theorem X_s_ChoiceAnswer (v v' : Value) (d : List Int × Int) (xs : List Int) (t : Int) (w : World) (h : RdDeal w w.heap.size v d) (h' : RdIntS w w.heap.size v' xs) (hs : szDeal d ≤ 1048576) (hs' : szIntS xs ≤ 1048576) :
    Calls Try.prog 36 #[v, v', .int .i64 t] w fun e w' => ∃ g, e = .returned (.tuple #[g, .bool (R_ChoiceAnswer_1 d xs t)]) ∧ OwIntS w' w.heap.size w'.heap.size g (R_ChoiceAnswer_0 d xs t) ∧ Below w.heap.size w w' := by
  obtain ⟨A, n, c, rfl, B, k, q, hv, _, hr⟩ := h
  injection hv with h1 h2 h3
  subst h1 h2 h3
  obtain ⟨A', n', c', rfl, _, r⟩ := h'
  have hl := hr.len
  exact s_ChoiceAnswer A n c d.2 d.1 A' n' c' xs t w hr (by unfold szDeal szIntS at hs; omega) r (by have := r.len; unfold szIntS at hs'; omega)
end Go.Proofs.Ytpejigfndkdhcaa

/- Chapter 11: putting masks on and off; ChoiceTake of both sides. Made by tools/gen11/take.py. -/
namespace Go.Proofs.Ytpejigfndkdhcaa
open Go.RowKit
set_option maxRecDepth 100000

set_option maxHeartbeats 1000000 in
theorem i_puttingOn (m : Int) (w : World) :
    Calls Try.prog 87 #[.int .i64 m] w fun e w' => ∃ b, e = .returned (.func (.func 115) #[] #[.pointer (some ⟨b, 0, none⟩)]) ∧ Hid (w.heap.size = b) ∧ Bx w' b #[.int .i64 m] 3 ∧ w' = w.alloc (.cells #[.int .i64 m] 3) := by
  go_enter Try.func87, Try.ntmps87
  go_wp2
  go_ret
  exact ⟨w.heap.size, rfl, Lib.hid rfl, Bx.new _ _ _, rfl⟩
set_option maxHeartbeats 1000000 in
theorem i_puttingOn1 (a m : Int) (b : Nat) (w : World) (hc : w.cell? ⟨b, 0, none⟩ = some (.int .i64 m)) (h1 : 0 ≤ a) (h2 : a ≤ 112) (h3 : 0 ≤ m) (h4 : m ≤ 112) :
    Calls Try.prog 115 #[.int .i64 a, .pointer (some ⟨b, 0, none⟩)] w fun e w' => e = .returned (.int .i64 ((a + m) % 113)) ∧ w = w' := by
  go_enter Try.func115, Try.ntmps115
  go_wp2_with fail
  refine (i_plus _ _ _ h1 h2 h3 h4).mono ?_
  rintro e w' ⟨rfl, rfl⟩
  go_wp2
  go_ret
  exact ⟨rfl, rfl⟩
set_option maxHeartbeats 1000000 in
theorem i_takingOff (m : Int) (w : World) :
    Calls Try.prog 92 #[.int .i64 m] w fun e w' => ∃ b, e = .returned (.func (.func 116) #[] #[.pointer (some ⟨b, 0, none⟩)]) ∧ Hid (w.heap.size = b) ∧ Bx w' b #[.int .i64 m] 3 ∧ w' = w.alloc (.cells #[.int .i64 m] 3) := by
  go_enter Try.func92, Try.ntmps92
  go_wp2
  go_ret
  exact ⟨w.heap.size, rfl, Lib.hid rfl, Bx.new _ _ _, rfl⟩
set_option maxHeartbeats 1000000 in
theorem i_takingOff1 (a m : Int) (b : Nat) (w : World) (hc : w.cell? ⟨b, 0, none⟩ = some (.int .i64 m)) (h1 : 0 ≤ a) (h2 : a ≤ 112) (h3 : 0 ≤ m) (h4 : m ≤ 112) :
    Calls Try.prog 116 #[.int .i64 a, .pointer (some ⟨b, 0, none⟩)] w fun e w' => e = .returned (.int .i64 ((a - m) % 113)) ∧ w = w' := by
  go_enter Try.func116, Try.ntmps116
  go_wp2_with fail
  refine (i_minus _ _ _ h1 h2 h3 h4).mono ?_
  rintro e w' ⟨rfl, rfl⟩
  go_wp2
  go_ret
  exact ⟨rfl, rfl⟩
set_option maxHeartbeats 4000000 in
theorem i_ChoiceTake (A : Option Addr) (n c : Nat) (xs : List Int) (ch m : Int) (w : World) (h : Rd w w.heap.size 1 A n (cI xs)) (hn : n ≤ 1048576) :
    Calls Try.prog 38 #[.slice A n c, .int .i64 ch, .int .i64 m] w fun e w' => e = .returned (.tuple #[.int .i64 (takeV xs ch m), .bool (takeB xs ch m)]) ∧ Below w.heap.size w w' := by
  have HL := Lib.hid h.len
  have HR := Lib.hid h
  clear h
  cases e1 : inB (n : Int) 2 8
  · have HF : Hid (takeV xs ch m = 0 ∧ takeB xs ch m = false) := Lib.hid (by simp [takeV, takeB, HL.out, e1])
    go_enter Try.func38, Try.ntmps38
    go_wp2_with fail
    refine (i_choiceCount _ _).mono ?_
    rintro e w' ⟨rfl, rfl⟩
    rw [e1]
    go_wp2
    go_ret2
    exact ⟨ret_ib2 HF.out.1.symm HF.out.2.symm, Below.refl _ _⟩
  obtain ⟨n2, n8⟩ := inB_iff.1 e1
  have im : IntKind.i64.wrap ((n : Int) - 1) = (n : Int) - 1 := IntWalk.i64_in _ (by omega)
  cases e2 : numsB xs
  · have HF : Hid (takeV xs ch m = 0 ∧ takeB xs ch m = false) := Lib.hid (by simp [takeV, takeB, HL.out, e1, e2])
    go_enter Try.func38, Try.ntmps38
    go_wp2_with fail
    refine (i_choiceCount _ _).mono ?_
    rintro e w' ⟨rfl, rfl⟩
    rw [e1]
    go_wp2_with fail
    refine (i_numbersOk _ _ _ _ _ HR.out hn).mono ?_
    rintro e w' ⟨rfl, rfl⟩
    rw [e2]
    go_wp2
    go_ret2
    exact ⟨ret_ib2 HF.out.1.symm HF.out.2.symm, Below.refl _ _⟩
  cases e3 : inB ch 0 ((n : Int) - 1)
  · have HF : Hid (takeV xs ch m = 0 ∧ takeB xs ch m = false) := Lib.hid (by simp [takeV, takeB, HL.out, e1, e2, e3])
    go_enter Try.func38, Try.ntmps38
    go_wp2_with fail
    refine (i_choiceCount _ _).mono ?_
    rintro e w' ⟨rfl, rfl⟩
    rw [e1]
    go_wp2_with fail
    refine (i_numbersOk _ _ _ _ _ HR.out hn).mono ?_
    rintro e w' ⟨rfl, rfl⟩
    rw [e2]
    go_wp2_with fail
    refine (i_indexOk _ _ _).mono ?_
    rintro e w' ⟨rfl, rfl⟩
    rw [e3]
    go_wp2
    go_ret2
    exact ⟨ret_ib2 HF.out.1.symm HF.out.2.symm, Below.refl _ _⟩
  cases e4 : numB m
  · have HF : Hid (takeV xs ch m = 0 ∧ takeB xs ch m = false) := Lib.hid (by simp [takeV, takeB, HL.out, e1, e2, e3, e4])
    go_enter Try.func38, Try.ntmps38
    go_wp2_with fail
    refine (i_choiceCount _ _).mono ?_
    rintro e w' ⟨rfl, rfl⟩
    rw [e1]
    go_wp2_with fail
    refine (i_numbersOk _ _ _ _ _ HR.out hn).mono ?_
    rintro e w' ⟨rfl, rfl⟩
    rw [e2]
    go_wp2_with fail
    refine (i_indexOk _ _ _).mono ?_
    rintro e w' ⟨rfl, rfl⟩
    rw [e3]
    go_wp2_with fail
    refine (i_NumOk _ _).mono ?_
    rintro e w' ⟨rfl, rfl⟩
    rw [e4]
    go_wp2
    go_ret2
    exact ⟨ret_ib2 HF.out.1.symm HF.out.2.symm, Below.refl _ _⟩
  have HB : Hid (takeB xs ch m = true) := Lib.hid (by simp [takeB, HL.out, e1, e2, e3, e4])
  obtain ⟨c0, c1⟩ := inB_iff.1 e3
  obtain ⟨m0, m1⟩ := (numB_iff m).1 e4
  obtain ⟨k, hk⟩ : ∃ k : Nat, ch = (k : Int) := ⟨ch.toNat, by omega⟩
  have HV : Hid (takeV xs ch m = (xs.getD k 0 - m) % 113) := Lib.hid (by unfold takeV; rw [if_pos HB.out, hk]; rfl)
  subst hk
  have hkn : k < n := by omega
  obtain ⟨a, z, rfl, ab, ac, HZ⟩ := HR.out.intAt hkn
  rw [← HZ.out] at HV
  have hz := nums_of_B e2 k
  rw [← HZ.out] at hz
  obtain ⟨z0, z1⟩ := hz
  have i1 : (k : Int) < (n : Int) := by omega
  go_enter Try.func38, Try.ntmps38
  go_wp2_with fail
  refine (i_choiceCount _ _).mono ?_
  rintro e w' ⟨rfl, rfl⟩
  rw [e1]
  go_wp2_with fail
  refine (i_numbersOk _ _ _ _ _ HR.out hn).mono ?_
  rintro e w' ⟨rfl, rfl⟩
  rw [e2]
  go_wp2_with fail
  refine (i_indexOk _ _ _).mono ?_
  rintro e w' ⟨rfl, rfl⟩
  rw [e3]
  go_wp2_with fail
  refine (i_NumOk _ _).mono ?_
  rintro e w' ⟨rfl, rfl⟩
  rw [e4]
  go_wp2
  clear e1 e2 e3 e4 c0 c1
  have hb := Below.refl w.heap.size w
  have hal : ∀ o, Below w.heap.size w (w.alloc o) ∧ (w.alloc o).cell? (a.add k) = some (.int .i64 z) := fun o => ⟨hb.alloc (Nat.le_refl _) o, ((hb.alloc (Nat.le_refl _) o).cell (p := a.add k) (by rw [add_block]; exact ab)).trans ac⟩
  have stq0 : True := trivial
  go_region_held3 (fun w' => Below w.heap.size w w' ∧ w'.cell? (a.add k) = some (.int .i64 z))
    (first | exact ⟨hb, ac⟩ | exact ⟨hb.drew, ac⟩ | exact hal _ | exact ⟨(hal _).1.drew, (hal _).2⟩)
    (first
      | (have stq1 := stq0
         clear stq0
         go_at_call 92
         refine (i_takingOff _ _).mono ?_
         rintro e w1 ⟨b, rfl, zb, hx, hw1⟩
         have hs1 : Below w.heap.size w w1 ∧ w1.cell? (a.add k) = some (.int .i64 z) := by rw [hw1]; first | exact hal _ | exact ⟨(hal _).1.drew, (hal _).2⟩
         replace hb := hs1.1
         replace ac := hs1.2
         have hx0 : w1.cell? ⟨b, 0, none⟩ = some (.int .i64 m) := hx.cell 0
         clear hal hs1 hw1 zb
         have hal : True := trivial)
      | (have stq2 := stq1
         clear stq1
         go_at_call 116
         refine (i_takingOff1 _ _ _ _ hx0 z0 z1 m0 m1).mono ?_
         rintro e w2 ⟨rfl, rfl⟩))
  have HB2 := Lib.hid hb
  clear hb
  go_wp2
  go_ret2
  exact ⟨ret_ib2 HV.out.symm HB.out.symm, HB2.out⟩
theorem X_i_ChoiceTake (v : Value) (xs : List Int) (ch m : Int) (w : World) (h : RdIntS w w.heap.size v xs) (hs : szIntS xs ≤ 1048576) :
    Calls Try.prog 38 #[v, .int .i64 ch, .int .i64 m] w fun e w' => e = .returned (.tuple #[.int .i64 (takeV xs ch m), .bool (takeB xs ch m)]) ∧ Below w.heap.size w w' := by
  obtain ⟨A, n, c, rfl, _, r⟩ := h
  exact i_ChoiceTake A n c xs ch m w r (by have := r.len; unfold szIntS at hs; omega)

end Go.Proofs.Ytpejigfndkdhcaa

/- Chapter 11: the program's masked, over any two closures; ChoiceAnswer's closure. -/
namespace Go.Proofs.Ytpejigfndkdhcaa
open Go.RowKit
set_option maxRecDepth 100000

theorem map_step (op : Int → Int → Int) (xs : List Int) (ms : Nat → Int) {k n : Nat} (hk : k < n) : (mapK op xs ms k ++ List.replicate (n - k) 0).set k (mapE op xs ms k) = mapK op xs ms (k + 1) ++ List.replicate (n - (k + 1)) 0 := by
  have hl := mapK_length op xs ms k
  rw [List.set_append_right _ _ (by omega), hl, Nat.sub_self, show n - k = (n - (k + 1)) + 1 by omega, List.replicate_succ, List.set_cons_zero, mapK, List.append_assoc, List.singleton_append]

set_option maxHeartbeats 4000000 in
theorem i_masked (F G : FuncId) (caps : Array Value) (op : Int → Int → Int) (ms : Nat → Int) (A : Option Addr) (n c : Nat) (xs : List Int) (w : World) (h : Rd w w.heap.size 1 A n (cI xs)) (hN : Nums xs) (hm : ∀ k, 0 ≤ ms k ∧ ms k ≤ 112) (hn : n ≤ 8)
    (eg : ∀ args W, (callFunc F args).run Try.prog W = .ok (.enter F args) W) (eg2 : ∀ args W, (callFunc G args).run Try.prog W = .ok (.enter G args) W)
    (hS : ∀ W (k : Nat), Below w.heap.size w W → k < n → Calls Try.prog F (#[.int .i64 k] ++ caps) W fun e W' => ∃ b, e = .returned (.func (.func G) #[] #[.pointer (some ⟨b, 0, none⟩)]) ∧ W'.cell? ⟨b, 0, none⟩ = some (.int .i64 (ms k)) ∧ Below W.heap.size W W')
    (hG : ∀ (a m : Int) (b : Nat) (W : World), W.cell? ⟨b, 0, none⟩ = some (.int .i64 m) → 0 ≤ a → a ≤ 112 → 0 ≤ m → m ≤ 112 → Calls Try.prog G #[.int .i64 a, .pointer (some ⟨b, 0, none⟩)] W fun e W' => e = .returned (.int .i64 (op a m % 113)) ∧ W = W') :
    Calls Try.prog 85 #[.slice A n c, .func (.func F) #[] caps] w fun e w' => ∃ A' c', e = .returned (.slice A' n c') ∧ OwIntS w' w.heap.size w'.heap.size (.slice A' n c') (mapK op xs ms n) ∧ Below w.heap.size w w' := by
  have HX := Lib.hid h
  have HN := Lib.hid hN
  have HM := Lib.hid hm
  have HS1 := Lib.hid hS
  have HG1 := Lib.hid hG
  clear h hN hm hS hG
  have hmk := fun W => run_make1 (P := Try.prog) Try.underlying22 info_int rfl n (by omega) (by omega) W
  have HO0 : Hid (Ow (w.alloc (.cells (Array.replicate n (.int .i64 0)) 3)) w.heap.size (w.heap.size + 1) 3 1 (some ⟨w.heap.size, 0, none⟩) n n (cI (mapK op xs ms 0 ++ List.replicate (n - 0) 0))) := Lib.hid (by
    have := Ow.zeros w (.int .i64 0) 3 n
    rw [cI_zeros] at this; exact this)
  have HB0 : Hid (Below w.heap.size w (w.alloc (.cells (Array.replicate n (.int .i64 0)) 3))) := Lib.hid ((Below.refl _ _).alloc (Nat.le_refl _) _)
  have HZ0 : Hid (w.heap.size < (w.alloc (.cells (Array.replicate n (.int .i64 0)) 3)).heap.size) := Lib.hid (by simp)
  go_enter Try.func85, Try.ntmps85
  go_wp2
  go_loopw [13] (fun i wr => ∃ k : Nat, k ≤ n ∧ i = .int .i64 k ∧ Hid (Ow wr w.heap.size (w.heap.size + 1) 3 1 (some ⟨w.heap.size, 0, none⟩) n n (cI (mapK op xs ms k ++ List.replicate (n - k) 0))) ∧ Hid (Below w.heap.size w wr) ∧ Hid (w.heap.size < wr.heap.size)) (fun i _ => n - (intOf i).toNat)
  case atStart => exact ⟨0, Nat.zero_le _, rfl, HO0, HB0, HZ0⟩
  case round =>
    clear HO0 HB0 HZ0
    obtain ⟨k, hk, rfl, HO, HB, HZ⟩ := hrel
    by_cases hlt : k < n
    · obtain ⟨a, x, rfl, hab, hx0, HP⟩ := HX.out.intAt hlt
      have hx := (HB.out.cell (p := a.add k) (by rw [add_block]; exact hab)).trans hx0
      obtain ⟨x0, x1⟩ := HN.out k
      rw [← HP.out] at x0 x1
      obtain ⟨y, hy⟩ : ∃ y, ms k = y := ⟨_, rfl⟩
      obtain ⟨y0, y1⟩ := HM.out k
      rw [hy] at y0 y1
      have HE : Hid (mapE op xs ms k = op x y % 113) := Lib.hid (by rw [mapE, hy, ← HP.out])
      have HY := Lib.hid hy
      obtain ⟨v, hv⟩ : ∃ v, op x y % 113 = v := ⟨_, rfl⟩
      have HV := Lib.hid hv
      clear hy hv hx0
      have i0 : (0 : Int) ≤ (k : Int) := by omega
      have i1 : (k : Int) < (n : Int) := by omega
      go_wp2_with fail
      refine (HS1.out wr k HB.out hlt).mono ?_
      rintro e w1 ⟨b, rfl, hc, hb⟩
      rw [HY.out] at hc
      have HO1 := Lib.hid (HO.out.below hb (by have := HZ.out; omega))
      have HB1 := Lib.hid (HB.out.trans (hb.mono HB.out.size))
      have HZ1 : Hid (w.heap.size < w1.heap.size) := Lib.hid (by have := HZ.out; have := hb.size; omega)
      clear HO HB HZ hb hx
      go_wp2_with fail
      refine (HG1.out x y b w1 hc x0 x1 y0 y1).mono ?_
      rintro e w2 ⟨rfl, rfl⟩
      rw [HV.out]
      obtain ⟨v0, hv0⟩ : ∃ v, w1.cell? ⟨w.heap.size, k, none⟩ = some v := ⟨_, HO1.out.cellAt (List.getElem?_eq_getElem (by have := HO1.out.1; omega))⟩
      have hf := HO1.out.free (by omega) k
      have HO2 := Lib.hid (HO1.out.set k (.int .i64 v))
      have HET : Hid ((mapK op xs ms k ++ List.replicate (n - k) 0).set k v = mapK op xs ms (k + 1) ++ List.replicate (n - (k + 1)) 0) := Lib.hid (by rw [← map_step op xs ms hlt, HE.out, HV.out])
      rw [cI_set, HET.out] at HO2
      have HB2 := Lib.hid (HB1.out.setCell (p := ⟨w.heap.size, k, none⟩) (by simp) (.int .i64 v))
      have HZ2 : Hid (w.heap.size < (w1.setCell ⟨w.heap.size, k, none⟩ (.int .i64 v)).heap.size) := Lib.hid (by rw [World.size_setCell]; exact HZ1.out)
      clear HO1 HB1 HZ1 HE HET hc HV HY
      go_wp2
      go_roundw
      case rel => exact ⟨k + 1, by omega, by go_num, HO2, HB2, HZ2⟩
      case measure => simp [intOf] <;> omega
    · have hkn : k = n := by omega
      have HOF : Hid (OwIntS wr w.heap.size wr.heap.size (.slice (some ⟨w.heap.size, 0, none⟩) n n) (mapK op xs ms n)) := Lib.hid (by
        have := HO.out
        rw [hkn, Nat.sub_self, List.replicate_zero, List.append_nil] at this
        exact ⟨by rw [mapK_length]; omega, _, _, _, rfl, this.widen (Nat.le_refl _) HZ.out⟩)
      clear HO hkn
      go_wp2
      go_ret
      exact ⟨_, _, rfl, HOF.out, HB.out⟩

set_option maxHeartbeats 4000000 in
theorem i_answer1 (k : Nat) (b1 b2 b3 : Nat) (A : Option Addr) (n c : Nat) (ds : List Int) (t : Int) (w : World) (h1 : w.cell? ⟨b1, 0, none⟩ = some (.slice A n c)) (h2 : w.cell? ⟨b2, 0, none⟩ = some (.int .i64 t)) (h3 : w.cell? ⟨b3, 0, none⟩ = some (.int .i64 n))
    (l1 : b1 < w.heap.size) (l2 : b2 < w.heap.size) (l3 : b3 < w.heap.size) (H : Rd w w.heap.size 1 A n (cI ds)) (hk : k < n) (hn : n ≤ 8) (t0 : 0 ≤ t) (t1 : t < n) :
    Calls Try.prog 86 #[.int .i64 k, .pointer (some ⟨b1, 0, none⟩), .pointer (some ⟨b2, 0, none⟩), .pointer (some ⟨b3, 0, none⟩)] w fun e w' => ∃ b, e = .returned (.func (.func 115) #[] #[.pointer (some ⟨b, 0, none⟩)]) ∧ w'.cell? ⟨b, 0, none⟩ = some (.int .i64 (atM ds t n k)) ∧ Below w.heap.size w w' := by
  obtain ⟨bd0, bd1⟩ := emod_bd ((k : Int) + t) (show 0 < (n : Int) by omega)
  obtain ⟨j, hj⟩ : ∃ j : Nat, ((k : Int) + t) % n = (j : Int) := ⟨(((k : Int) + t) % n).toNat, by omega⟩
  have hjn : j < n := by omega
  obtain ⟨a, y, rfl, hab, hy, HY⟩ := H.intAt hjn
  have HE : Hid (atM ds t n k = y) := Lib.hid (by rw [atM, hj, Int.toNat_natCast, ← HY.out])
  rw [HE.out]
  have HJ := Lib.hid hj
  have j0 : (0 : Int) ≤ (j : Int) := by omega
  have j1 : (j : Int) < (n : Int) := by omega
  have hb := Below.refl w.heap.size w
  have hal : ∀ o, Below w.heap.size w (w.alloc o) ∧ (w.alloc o).cell? ⟨b1, 0, none⟩ = some (.slice (some a) n c) ∧ (w.alloc o).cell? ⟨b2, 0, none⟩ = some (.int .i64 t) ∧ (w.alloc o).cell? ⟨b3, 0, none⟩ = some (.int .i64 n) ∧ (w.alloc o).cell? (a.add j) = some (.int .i64 y) := fun o =>
    have hB := hb.alloc (Nat.le_refl _) o
    ⟨hB, (hB.cell (p := ⟨b1, 0, none⟩) l1).trans h1, (hB.cell (p := ⟨b2, 0, none⟩) l2).trans h2, (hB.cell (p := ⟨b3, 0, none⟩) l3).trans h3, (hB.cell (p := a.add j) (by rw [add_block]; exact hab)).trans hy⟩
  clear hj bd0 bd1 H HE HY
  go_enter Try.func86, Try.ntmps86
  go_wp2
  go_region_held3 (fun w' => Below w.heap.size w w' ∧ w'.cell? ⟨b1, 0, none⟩ = some (.slice (some a) n c) ∧ w'.cell? ⟨b2, 0, none⟩ = some (.int .i64 t) ∧ w'.cell? ⟨b3, 0, none⟩ = some (.int .i64 n) ∧ w'.cell? (a.add j) = some (.int .i64 y))
    (first | exact ⟨hb, h1, h2, h3, hy⟩ | exact ⟨hb.drew, h1, h2, h3, hy⟩ | exact hal _ | exact ⟨(hal _).1.drew, (hal _).2⟩)
    (first
      | (go_at_call 88
         refine (i_indexPlus _ _ _ _ ⟨by omega, by omega⟩ ⟨t0, t1⟩ (by omega)).mono ?_
         rintro e w2 ⟨rfl, rfl⟩
         rw [HJ.out])
      | (go_at_call 87
         refine (i_puttingOn _ _).mono ?_
         rintro e w1 ⟨b, rfl, zb, hx, hw1⟩
         have hs1 : Below w.heap.size w w1 ∧ w1.cell? ⟨b1, 0, none⟩ = some (.slice (some a) n c) ∧ w1.cell? ⟨b2, 0, none⟩ = some (.int .i64 t) ∧ w1.cell? ⟨b3, 0, none⟩ = some (.int .i64 n) ∧ w1.cell? (a.add j) = some (.int .i64 y) := by rw [hw1]; first | exact hal _ | exact ⟨(hal _).1.drew, (hal _).2⟩
         obtain ⟨hb, h1, h2, h3, hy⟩ := hs1
         have hx0 : w1.cell? ⟨b, 0, none⟩ = some (.int .i64 y) := hx.cell 0
         clear hal hw1 zb
         have hal : True := trivial))
  have HB2 := Lib.hid hb
  have HX2 := Lib.hid hx0
  clear hb hx0
  go_wp2
  go_ret
  exact ⟨b, rfl, HX2.out, HB2.out⟩
end Go.Proofs.Ytpejigfndkdhcaa

/- Chapter 11: the closures of ChoiceMasks. Made by tools/gen11/masks1.py. -/
namespace Go.Proofs.Ytpejigfndkdhcaa
open Go.RowKit
set_option maxRecDepth 100000

/-- the thing at a place -/
def atT (xs : List Int) (a : Int) (n : Nat) (k : Nat) : Int := xs.getD (((k : Int) - a) % n).toNat 0
theorem atT_bd {xs : List Int} (h : Nums xs) (t : Int) (n k : Nat) : 0 ≤ atT xs t n k ∧ atT xs t n k ≤ 112 := h _

end Go.Proofs.Ytpejigfndkdhcaa

/- Chapter 11: the program's ChoiceAnswer. -/
namespace Go.Proofs.Ytpejigfndkdhcaa
open Go.RowKit
set_option maxRecDepth 100000

theorem eg_answer1 (args : Array Value) (W : World) : (callFunc 86 args).run Try.prog W = .ok (.enter 86 args) W := by kernel_rfl
theorem eg_putting1 (args : Array Value) (W : World) : (callFunc 115 args).run Try.prog W = .ok (.enter 115 args) W := by kernel_rfl
theorem atM_bd {ds : List Int} (h : Nums ds) (t : Int) (n k : Nat) : 0 ≤ atM ds t n k ∧ atM ds t n k ≤ 112 := h _
theorem i_dealOk_of (A : Option Addr) (n c : Nat) (z : Int) (ds : List Int) {w W : World} (h : Rd w w.heap.size 1 A n (cI ds)) (hn : n ≤ 1048576) (hb : Below w.heap.size w W) :
    Calls Try.prog 83 #[.agg #[.slice A n c, .int .i64 z]] W fun e w' => e = .returned (.bool (dealB (ds, z))) ∧ Below W.heap.size W w' := i_DealOk A n c z ds W ((h.below hb).more hb.size) hn

set_option maxHeartbeats 4000000 in
theorem i_ChoiceAnswer (A : Option Addr) (n c : Nat) (z : Int) (ds : List Int) (A' : Option Addr) (n' c' : Nat) (xs : List Int) (t : Int) (w : World) (h : Rd w w.heap.size 1 A n (cI ds)) (hn : n ≤ 1048576) (h' : Rd w w.heap.size 1 A' n' (cI xs)) (hn' : n' ≤ 1048576) :
    Calls Try.prog 35 #[.agg #[.slice A n c, .int .i64 z], .slice A' n' c', .int .i64 t] w fun e w' => ∃ g, e = .returned (.tuple #[g, .bool (R_ChoiceAnswer_1 (ds, z) xs t)]) ∧ OwIntS w' w.heap.size w'.heap.size g (R_ChoiceAnswer_0 (ds, z) xs t) ∧ Below w.heap.size w w' := by
  have HD := Lib.hid h
  have HR := Lib.hid h'
  have HL := Lib.hid h.len
  have HL' := Lib.hid h'.len
  clear h h'
  obtain ⟨W3, hW⟩ : ∃ W, Hid (((w.alloc (.cells #[.slice A n c, .int .i64 z] 52)).alloc (.cells #[.int .i64 t] 3)).alloc (.cells #[.int .i64 n] 3) = W) := ⟨_, Lib.hid rfl⟩
  have HB0 : Hid (Below w.heap.size w W3) := Lib.hid (by rw [← hW.out]; exact (((Below.refl _ _).alloc (Nat.le_refl _) _).alloc (by simp) _).alloc (by simp only [World.size_alloc]; omega) _)
  have HX0 : Hid (Bx W3 w.heap.size #[.slice A n c, .int .i64 z] 52) := Lib.hid (by rw [← hW.out]; exact ((Bx.new _ _ _).alloc _).alloc _)
  have HT0 : Hid (Bx W3 (w.heap.size + 1) #[.int .i64 t] 3) := Lib.hid (by
    rw [← hW.out]; have := (Bx.new (w.alloc (.cells #[.slice A n c, .int .i64 z] 52)) #[.int .i64 t] 3).alloc (.cells #[.int .i64 n] 3); rwa [World.size_alloc] at this)
  have HN0 : Hid (Bx W3 (w.heap.size + 1 + 1) #[.int .i64 n] 3) := Lib.hid (by
    rw [← hW.out]; have := Bx.new ((w.alloc (.cells #[.slice A n c, .int .i64 z] 52)).alloc (.cells #[.int .i64 t] 3)) #[.int .i64 n] 3; rwa [World.size_alloc, World.size_alloc] at this)
  go_enter Try.func35, Try.ntmps35
  go_wp2_with fail
  rw [hW.out]
  clear hW
  refine (i_dealOk_of A n c z ds HD.out hn HB0.out).mono ?_
  rintro e w1 ⟨rfl, hb⟩
  have HX1 := Lib.hid (HX0.out.below hb HX0.out.lt)
  have HT1 := Lib.hid (HT0.out.below hb HT0.out.lt)
  have HN1 := Lib.hid (HN0.out.below hb HN0.out.lt)
  have HB1 : Hid (Below w.heap.size w w1) := Lib.hid (HB0.out.trans (hb.mono HB0.out.size))
  clear hb HX0 HT0 HN0 HB0
  have c0 : w1.cell? ⟨w.heap.size, 0, none⟩ = some (.slice A n c) := HX1.out.cell 0
  have c1 : w1.cell? ⟨w.heap.size + 1, 0, none⟩ = some (.int .i64 t) := HT1.out.cell 0
  have c2 : w1.cell? ⟨w.heap.size + 1 + 1, 0, none⟩ = some (.int .i64 n) := HN1.out.cell 0
  cases e1 : dealB (ds, z)
  · have HF : Hid (R_ChoiceAnswer_1 (ds, z) xs t = false) := Lib.hid (by simp [R_ChoiceAnswer_1, thingsB, e1])
    have HE : Hid (R_ChoiceAnswer_0 (ds, z) xs t = []) := Lib.hid (by simp [R_ChoiceAnswer_0, HF.out])
    go_wp2
    go_ret2
    refine ⟨_, ret_vb HF.out.symm, ?_, HB1.out⟩
    rw [HE.out]; exact OwIntS.nil_ _ _ _
  have HT : Hid (thingsB (ds, z) xs = (decide ((n' : Int) = n) && numsB xs)) := Lib.hid (by simp only [thingsB, e1, HL.out, HL'.out, Bool.true_and, Int.ofNat_inj])
  go_wp2_with fail
  refine (i_manyNumbers _ _ _ _ _ _ ((HR.out.below HB1.out).more HB1.out.size) hn').mono ?_
  rintro e w' ⟨rfl, rfl⟩
  cases e2 : (decide ((n' : Int) = n) && numsB xs)
  · have HF : Hid (R_ChoiceAnswer_1 (ds, z) xs t = false) := Lib.hid (by simp only [R_ChoiceAnswer_1, HT.out, e2, Bool.false_and])
    have HE : Hid (R_ChoiceAnswer_0 (ds, z) xs t = []) := Lib.hid (by simp [R_ChoiceAnswer_0, HF.out])
    go_wp2
    go_ret2
    refine ⟨_, ret_vb HF.out.symm, ?_, HB1.out⟩
    rw [HE.out]; exact OwIntS.nil_ _ _ _
  have HT2 := Lib.hid (HT.out.trans e2)
  simp only [Bool.and_eq_true, decide_eq_true_eq] at e2
  obtain ⟨hnn, hxs⟩ := e2
  simp only [dealB, Bool.and_eq_true, inB_iff] at e1
  obtain ⟨⟨n2, n8⟩, hds, z0, z1⟩ := e1
  rw [HL.out] at n2 n8 z1
  have HNd := Lib.hid (nums_of_B hds)
  have HNx := Lib.hid (nums_of_B hxs)
  clear HT hds hxs
  obtain rfl : n = n' := by omega
  clear hnn
  go_wp2_with fail
  refine (i_indexOk _ _ _).mono ?_
  rintro e w' ⟨rfl, rfl⟩
  cases e3 : inB t 0 ((n : Int) - 1)
  · have HF : Hid (R_ChoiceAnswer_1 (ds, z) xs t = false) := Lib.hid (by simp [R_ChoiceAnswer_1, HL.out, e3])
    have HE : Hid (R_ChoiceAnswer_0 (ds, z) xs t = []) := Lib.hid (by simp [R_ChoiceAnswer_0, HF.out])
    go_wp2
    go_ret2
    refine ⟨_, ret_vb HF.out.symm, ?_, HB1.out⟩
    rw [HE.out]; exact OwIntS.nil_ _ _ _
  have HF : Hid (R_ChoiceAnswer_1 (ds, z) xs t = true) := Lib.hid (by simp [R_ChoiceAnswer_1, HT2.out, HL.out, e3])
  have HE : Hid (R_ChoiceAnswer_0 (ds, z) xs t = mapK (fun x y => x + y) xs (atM ds t n) n) := Lib.hid (by rw [R_ChoiceAnswer_0, if_pos HF.out, HL.out])
  obtain ⟨t0, t1⟩ := inB_iff.1 e3
  have HC := Lib.hid c0
  have HC1 := Lib.hid c1
  have HC2 := Lib.hid c2
  have hS : ∀ W (k : Nat), Below w1.heap.size w1 W → k < n → Calls Try.prog 86 (#[.int .i64 k] ++ #[.pointer (some ⟨w.heap.size, 0, none⟩), .pointer (some ⟨w.heap.size + 1, 0, none⟩), .pointer (some ⟨w.heap.size + 1 + 1, 0, none⟩)]) W fun e W' => ∃ b, e = .returned (.func (.func 115) #[] #[.pointer (some ⟨b, 0, none⟩)]) ∧ W'.cell? ⟨b, 0, none⟩ = some (.int .i64 (atM ds t n k)) ∧ Below W.heap.size W W' := fun W k hb hk =>
    i_answer1 k _ _ _ A n c ds t W ((hb.cell (p := ⟨w.heap.size, 0, none⟩) HX1.out.lt).trans HC.out) ((hb.cell (p := ⟨w.heap.size + 1, 0, none⟩) HT1.out.lt).trans HC1.out) ((hb.cell (p := ⟨w.heap.size + 1 + 1, 0, none⟩) HN1.out.lt).trans HC2.out)
      (Nat.lt_of_lt_of_le HX1.out.lt hb.size) (Nat.lt_of_lt_of_le HT1.out.lt hb.size) (Nat.lt_of_lt_of_le HN1.out.lt hb.size) ((((HD.out.below HB1.out).more HB1.out.size).below hb).more hb.size) hk (by omega) t0 (by omega)
  have HS := Lib.hid hS
  clear hS e3 c0 c1 c2
  go_wp2_with fail
  refine (i_masked 86 115 _ (fun x y => x + y) (atM ds t n) A' n c' xs w1 ((HR.out.below HB1.out).more HB1.out.size) HNx.out (fun k => atM_bd HNd.out t n k) (by omega) eg_answer1 eg_putting1 HS.out (fun a m b W hc a0 a1 m0 m1 => i_puttingOn1 a m b W hc a0 a1 m0 m1)).mono ?_
  rintro e w2 ⟨A3, c3, rfl, ho, hb⟩
  have HO : Hid (OwIntS w2 w.heap.size w2.heap.size (.slice A3 n c3) (R_ChoiceAnswer_0 (ds, z) xs t)) := Lib.hid (by rw [HE.out]; exact ho.widen HB1.out.size (Nat.le_refl _))
  have HB2 : Hid (Below w.heap.size w w2) := Lib.hid (HB1.out.trans (hb.mono HB1.out.size))
  clear ho hb
  go_wp2
  go_ret2
  exact ⟨_, ret_vb HF.out.symm, HO.out, HB2.out⟩
theorem X_i_ChoiceAnswer (v v' : Value) (d : List Int × Int) (xs : List Int) (t : Int) (w : World) (h : RdDeal w w.heap.size v d) (h' : RdIntS w w.heap.size v' xs) (hs : szDeal d ≤ 1048576) (hs' : szIntS xs ≤ 1048576) :
    Calls Try.prog 35 #[v, v', .int .i64 t] w fun e w' => ∃ g, e = .returned (.tuple #[g, .bool (R_ChoiceAnswer_1 d xs t)]) ∧ OwIntS w' w.heap.size w'.heap.size g (R_ChoiceAnswer_0 d xs t) ∧ Below w.heap.size w w' := by
  obtain ⟨A, n, c, rfl, B, k, q, hv, _, hr⟩ := h
  injection hv with h1 h2 h3
  subst h1 h2 h3
  obtain ⟨A', n', c', rfl, _, r⟩ := h'
  have hl := hr.len
  exact i_ChoiceAnswer A n c d.2 d.1 A' n' c' xs t w hr (by unfold szDeal szIntS at hs; omega) r (by have := r.len; unfold szIntS at hs'; omega)
end Go.Proofs.Ytpejigfndkdhcaa

/- Chapter 11: the program's ChoiceMasks. -/
namespace Go.Proofs.Ytpejigfndkdhcaa
open Go.RowKit
set_option maxRecDepth 100000

def sameB (xs ys : List Int) (c : Int) : Bool := decide (xs.getD c.toNat 0 = ys.getD c.toNat 0)
def R_ChoiceMasks_1 (d : List Int × Int) (c : Int) (xs ys : List Int) : Bool := askB d c && (thingsB d xs && (thingsB d ys && sameB xs ys c))
def R_ChoiceMasks_0 (d : List Int × Int) (c : Int) (xs ys : List Int) : List Int :=
  if R_ChoiceMasks_1 d c xs ys = true then mapK (fun x y => x - y) (mapK (fun x y => x + y) d.1 (atT xs (askV d c) d.1.length) d.1.length) (atT ys (askV d c) d.1.length) d.1.length else []
theorem eg_taking1 (args : Array Value) (W : World) : (callFunc 116 args).run Try.prog W = .ok (.enter 116 args) W := by kernel_rfl
theorem mapK_nums (op : Int → Int → Int) (xs : List Int) (ms : Nat → Int) (k : Nat) : Nums (mapK op xs ms k) := by
  induction k with
  | zero => intro j; simp [mapK]
  | succ k ih =>
    intro j
    have hl := mapK_length op xs ms k
    rw [mapK]
    by_cases h : j < k
    · rw [List.getD_eq_getElem?_getD, List.getElem?_append_left (by omega), ← List.getD_eq_getElem?_getD]; exact ih j
    · rw [List.getD_eq_getElem?_getD, List.getElem?_append_right (by omega), ← List.getD_eq_getElem?_getD, hl]
      cases hj : j - k with
      | zero => simp only [List.getD_cons_zero, mapE]; omega
      | succ m => simp

end Go.Proofs.Ytpejigfndkdhcaa

/- Chapter 11: the model's ChoiceMasks. -/
namespace Go.Proofs.Ytpejigfndkdhcaa
open Go.RowKit
set_option maxRecDepth 100000

theorem set_map {n : Nat} (f g : Nat → Int) {k : Nat} (h : ∀ j, j < n → j ≠ k → g j = f j) : ((List.range n).map f).set k (g k) = (List.range n).map g := by
  apply List.ext_getElem
  · simp
  · intro i h1 h2
    simp only [List.length_set, List.length_map, List.length_range] at h1
    rw [List.getElem_set]
    by_cases e : k = i
    · subst e; simp
    · rw [if_neg e]; simp [h i h1 (fun q => e q.symm)]
theorem mapK_map (op : Int → Int → Int) (xs : List Int) (ms : Nat → Int) (k : Nat) : mapK op xs ms k = (List.range k).map (mapE op xs ms) := by
  induction k with
  | zero => rfl
  | succ k ih => rw [mapK, ih, List.range_succ, List.map_append]; rfl
theorem mapK_at (op : Int → Int → Int) (xs : List Int) (ms : Nat → Int) {k n : Nat} (h : k < n) : (mapK op xs ms n).getD k 0 = mapE op xs ms k := by
  rw [mapK_map, List.getD_eq_getElem?_getD, List.getElem?_map, List.getElem?_range h]; rfl
theorem turn1 {n k v : Int} (hk : 0 ≤ k) (hn : k < n) : ((k + v) % n - v) % n = k := by
  have := Int.emod_add_emod (k + v) n (-v)
  rw [show (k + v) % n - v = (k + v) % n + -v by omega, this, show k + v + -v = k by omega, Int.emod_eq_of_lt hk hn]
theorem turn2 {n j v : Int} (hj : 0 ≤ j) (hn : j < n) : ((j - v) % n + v) % n = j := by
  rw [Int.emod_add_emod, show j - v + v = j by omega, Int.emod_eq_of_lt hj hn]
def valM (ds xs ys : List Int) (v : Int) (n : Nat) : Nat → Int := mapE (fun x y => x - y) (mapK (fun x y => x + y) ds (atT xs v n) n) (atT ys v n)
def turnL (ds xs ys : List Int) (v : Int) (n k : Nat) : List Int := (List.range n).map fun (j : Nat) => if ((j : Int) - v) % n < (k : Int) then valM ds xs ys v n j else 0
theorem turnL_zero (ds xs ys : List Int) (v : Int) (n : Nat) : turnL ds xs ys v n 0 = List.replicate n 0 := by
  rw [turnL]
  apply List.ext_getElem
  · simp
  · intro i h1 h2
    simp only [List.length_replicate] at h2
    have := Int.emod_nonneg ((i : Int) - v) (show (n : Int) ≠ 0 by omega)
    simp; omega
theorem turnL_all (ds xs ys : List Int) (v : Int) (n : Nat) : turnL ds xs ys v n n = mapK (fun x y => x - y) (mapK (fun x y => x + y) ds (atT xs v n) n) (atT ys v n) n := by
  rw [turnL, mapK_map _ _ (atT ys v n)]
  apply List.ext_getElem
  · simp
  · intro i h1 h2
    simp only [List.length_map, List.length_range] at h2
    have := Int.emod_lt_of_pos ((i : Int) - v) (show (0 : Int) < n by omega)
    simp only [List.getElem_map, List.getElem_range]
    rw [if_pos this]; rfl
theorem turnL_step (ds xs ys : List Int) (v : Int) {n k j : Nat} (hk : k < n) (hj : ((k : Int) + v) % n = (j : Int)) :
    (turnL ds xs ys v n k).set j ((ds.getD j 0 + (xs.getD k 0 - ys.getD k 0) % 113) % 113) = turnL ds xs ys v n (k + 1) := by
  have t1 := turn1 (n := n) (k := k) (v := v) (by omega) (by omega)
  rw [hj] at t1
  have jn : j < n := by have := Int.emod_lt_of_pos ((k : Int) + v) (show (0 : Int) < n by omega); omega
  have hv : (ds.getD j 0 + (xs.getD k 0 - ys.getD k 0) % 113) % 113 = (fun i : Nat => if ((i : Int) - v) % n < (k + 1 : Nat) then valM ds xs ys v n i else 0) j := by
    show _ = if ((j : Int) - v) % n < (k + 1 : Nat) then valM ds xs ys v n j else 0
    rw [t1, if_pos (by omega), valM, mapE, mapK_at _ _ _ jn, mapE, atT, atT, t1, Int.toNat_natCast]
    omega
  rw [hv, turnL]
  refine set_map (fun j : Nat => if ((j : Int) - v) % n < (k : Int) then valM ds xs ys v n j else 0) (fun i : Nat => if ((i : Int) - v) % n < ((k + 1 : Nat) : Int) then valM ds xs ys v n i else 0) (k := j) fun i hi hne => ?_
  show (if ((i : Int) - v) % n < ((k + 1 : Nat) : Int) then valM ds xs ys v n i else 0) = (if ((i : Int) - v) % n < (k : Int) then valM ds xs ys v n i else 0)
  have t2 := turn2 (n := n) (j := i) (v := v) (by omega) (by omega)
  have hne2 : ((i : Int) - v) % n ≠ k := fun q => hne (by rw [q, hj] at t2; omega)
  by_cases h : ((i : Int) - v) % n < (k : Int)
  · rw [if_pos h, if_pos (by omega)]
  · rw [if_neg h, if_neg (by omega)]
end Go.Proofs.Ytpejigfndkdhcaa

/- Chapter 10: MarkedOk, MarkedSum of both sides. -/
namespace Go.Proofs.Ytpejigfndkdhcaa
open Go.RowKit
set_option maxRecDepth 100000

theorem markB_1 {d0 d1 : List Int} (h : inB d0.length 2 7 = false) : markB (d0, d1) = false := by simp [markB, h]
theorem markB_2 {d0 d1 : List Int} (h : d1.length ≠ d0.length) : markB (d0, d1) = false := by simp [markB, h]
theorem markB_3 {d0 d1 : List Int} (h : numsB d0 = false) : markB (d0, d1) = false := by simp [markB, h]
theorem markB_4 {d0 d1 : List Int} (h : numsB d1 = false) : markB (d0, d1) = false := by simp [markB, h]
theorem markB_5 {d0 d1 : List Int} (h1 : inB d0.length 2 7 = true) (h2 : d1.length = d0.length) (h3 : numsB d0 = true) (h4 : numsB d1 = true) : markB (d0, d1) = true := by simp [markB, h1, h2, h3, h4]

set_option maxHeartbeats 4000000 in
theorem s_MarkedOk (A0 : Option Addr) (n0 c0 : Nat) (A1 : Option Addr) (n1 c1 : Nat) (d0 d1 : List Int) (w : World) (h0 : Rd w w.heap.size 1 A0 n0 (cI d0)) (h1 : Rd w w.heap.size 1 A1 n1 (cI d1)) (m0 : n0 ≤ 1048576) (m1 : n1 ≤ 1048576) :
    Calls Try.prog 50 #[.agg #[.slice A0 n0 c0, .slice A1 n1 c1]] w fun e w' => e = .returned (.bool (markB (d0, d1))) ∧ Below w.heap.size w w' := by
  have l0 : Hid (d0.length = n0) := Lib.hid h0.len
  have l1 : Hid (d1.length = n1) := Lib.hid h1.len
  have HB0 : Hid (Below w.heap.size w (w.alloc (.cells #[.slice A0 n0 c0, .slice A1 n1 c1] 26))) := Lib.hid ((Below.refl _ _).alloc (Nat.le_refl _) _)
  have H0 : Hid (Rd (w.alloc (.cells #[.slice A0 n0 c0, .slice A1 n1 c1] 26)) (w.alloc (.cells #[.slice A0 n0 c0, .slice A1 n1 c1] 26)).heap.size 1 A0 n0 (cI d0)) := Lib.hid ((h0.below HB0.out).more (by simp))
  have H1 : Hid (Rd (w.alloc (.cells #[.slice A0 n0 c0, .slice A1 n1 c1] 26)) (w.alloc (.cells #[.slice A0 n0 c0, .slice A1 n1 c1] 26)).heap.size 1 A1 n1 (cI d1)) := Lib.hid ((h1.below HB0.out).more (by simp))
  clear h0 h1
  cases e1 : inB (n0 : Int) 2 7
  · have HF := Lib.hid (markB_1 (d0 := d0) (d1 := d1) (by rw [l0.out]; exact e1))
    go_enter Try.func50, Try.ntmps50
    go_wp2_with fail
    refine (s_l6In _ _ _ _).mono ?_
    rintro e w' ⟨rfl, rfl⟩
    rw [e1]
    go_wp2
    go_ret
    exact ⟨ret_bool HF.out.symm, HB0.out⟩
  by_cases hl : n1 = n0
  rotate_left
  · have HF := Lib.hid (markB_2 (d0 := d0) (d1 := d1) (by rw [l0.out, l1.out]; exact hl))
    have q1 : ((n1 : Int) == (n0 : Int)) = false := by rw [beq_eq_false_iff_ne]; omega
    have q2 : (n1 == n0) = false := by rw [beq_eq_false_iff_ne]; omega
    go_enter Try.func50, Try.ntmps50
    go_wp2_with fail
    refine (s_l6In _ _ _ _).mono ?_
    rintro e w' ⟨rfl, rfl⟩
    rw [e1]
    go_wp2
    go_ret
    exact ⟨ret_bool HF.out.symm, HB0.out⟩
  subst hl
  cases e3 : numsB d0
  · have HF := Lib.hid (markB_3 (d1 := d1) e3)
    go_enter Try.func50, Try.ntmps50
    go_wp2_with fail
    refine (s_l6In _ _ _ _).mono ?_
    rintro e w' ⟨rfl, rfl⟩
    rw [e1]
    go_wp2_with fail
    refine (s_l1In _ _ _ _ _ H0.out m0).mono ?_
    rintro e w' ⟨rfl, rfl⟩
    rw [e3]
    go_wp2
    go_ret
    exact ⟨ret_bool HF.out.symm, HB0.out⟩
  have HF : Hid (markB (d0, d1) = numsB d1) := Lib.hid (by
    cases e4 : numsB d1
    · exact markB_4 e4
    · exact markB_5 (by rw [l0.out]; exact e1) (by rw [l0.out, l1.out]) e3 e4)
  go_enter Try.func50, Try.ntmps50
  go_wp2_with fail
  refine (s_l6In _ _ _ _).mono ?_
  rintro e w' ⟨rfl, rfl⟩
  rw [e1]
  go_wp2_with fail
  refine (s_l1In _ _ _ _ _ H0.out m0).mono ?_
  rintro e w' ⟨rfl, rfl⟩
  rw [e3]
  go_wp2_with fail
  refine (s_l1In _ _ _ _ _ H1.out m1).mono ?_
  rintro e w' ⟨rfl, rfl⟩
  go_wp2
  go_ret
  exact ⟨ret_bool HF.out.symm, HB0.out⟩

set_option maxHeartbeats 4000000 in
theorem i_MarkedOk (A0 : Option Addr) (n0 c0 : Nat) (A1 : Option Addr) (n1 c1 : Nat) (d0 d1 : List Int) (w : World) (h0 : Rd w w.heap.size 1 A0 n0 (cI d0)) (h1 : Rd w w.heap.size 1 A1 n1 (cI d1)) (m0 : n0 ≤ 1048576) (m1 : n1 ≤ 1048576) :
    Calls Try.prog 52 #[.agg #[.slice A0 n0 c0, .slice A1 n1 c1]] w fun e w' => e = .returned (.bool (markB (d0, d1))) ∧ Below w.heap.size w w' := by
  have l0 : Hid (d0.length = n0) := Lib.hid h0.len
  have l1 : Hid (d1.length = n1) := Lib.hid h1.len
  have HB0 : Hid (Below w.heap.size w (w.alloc (.cells #[.slice A0 n0 c0, .slice A1 n1 c1] 26))) := Lib.hid ((Below.refl _ _).alloc (Nat.le_refl _) _)
  have H0 : Hid (Rd (w.alloc (.cells #[.slice A0 n0 c0, .slice A1 n1 c1] 26)) (w.alloc (.cells #[.slice A0 n0 c0, .slice A1 n1 c1] 26)).heap.size 1 A0 n0 (cI d0)) := Lib.hid ((h0.below HB0.out).more (by simp))
  have H1 : Hid (Rd (w.alloc (.cells #[.slice A0 n0 c0, .slice A1 n1 c1] 26)) (w.alloc (.cells #[.slice A0 n0 c0, .slice A1 n1 c1] 26)).heap.size 1 A1 n1 (cI d1)) := Lib.hid ((h1.below HB0.out).more (by simp))
  clear h0 h1
  by_cases e0 : 2 ≤ n0
  rotate_left
  · have HF := Lib.hid (markB_1 (d0 := d0) (d1 := d1) (by rw [l0.out]; exact inB_f (by omega)))
    have q : (n0 : Int) < 2 := by omega
    go_enter Try.func52, Try.ntmps52
    go_wp2
    go_ret
    exact ⟨ret_bool HF.out.symm, HB0.out⟩
  by_cases e1 : n0 ≤ 7
  rotate_left
  · have HF := Lib.hid (markB_1 (d0 := d0) (d1 := d1) (by rw [l0.out]; exact inB_f (by omega)))
    have q : (2 : Int) ≤ n0 := by omega
    have q2 : (7 : Int) < n0 := by omega
    go_enter Try.func52, Try.ntmps52
    go_wp2
    go_ret
    exact ⟨ret_bool HF.out.symm, HB0.out⟩
  have q : (2 : Int) ≤ n0 := by omega
  have q2 : (n0 : Int) ≤ 7 := by omega
  cases e3 : numsB d0
  · have HF := Lib.hid (markB_3 (d1 := d1) e3)
    go_enter Try.func52, Try.ntmps52
    go_wp2_with fail
    refine (i_numbersOk _ _ _ _ _ H0.out m0).mono ?_
    rintro e w' ⟨rfl, rfl⟩
    rw [e3]
    go_wp2
    go_ret
    exact ⟨ret_bool HF.out.symm, HB0.out⟩
  have HF : Hid (markB (d0, d1) = (decide ((n1 : Int) = (n0 : Int)) && numsB d1)) := Lib.hid (by
    have hi : inB (d0.length : Int) 2 7 = true := by rw [l0.out]; exact inB_t ⟨q, q2⟩
    by_cases hl : n1 = n0
    · cases e4 : numsB d1
      · rw [markB_4 e4]; simp
      · rw [markB_5 hi (by rw [l0.out, l1.out, hl]) e3 e4]; simp [hl]
    · rw [markB_2 (by rw [l0.out, l1.out]; exact hl)]; simp; omega)
  go_enter Try.func52, Try.ntmps52
  go_wp2_with fail
  refine (i_numbersOk _ _ _ _ _ H0.out m0).mono ?_
  rintro e w' ⟨rfl, rfl⟩
  rw [e3]
  go_wp2_with fail
  refine (i_manyNumbers _ _ _ _ _ _ H1.out m1).mono ?_
  rintro e w' ⟨rfl, rfl⟩
  go_wp2
  go_ret
  exact ⟨ret_bool HF.out.symm, HB0.out⟩

/-- a struct's value, opened -/
theorem RdMarked.open_ {w : World} {hi : Nat} {v : Value} {d : MkD} (h : RdMarked w hi v d) : ∃ A0 n0 c0 A1 n1 c1, v = .agg #[.slice A0 n0 c0, .slice A1 n1 c1] ∧ Rd w hi 1 A0 n0 (cI d.1) ∧ Rd w hi 1 A1 n1 (cI d.2) ∧ d.1.length = n0 ∧ d.2.length = n1 := by
  obtain ⟨A0, n0, c0, A1, n1, c1, rfl, h0, h1⟩ := h
  obtain ⟨B0, k0, q0, e0, _, r0⟩ := h0
  obtain ⟨B1, k1, q1, e1, _, r1⟩ := h1
  injection e0 with a b c
  injection e1 with a' b' c'
  subst a b c a' b' c'
  exact ⟨_, _, _, _, _, _, rfl, r0, r1, r0.len, r1.len⟩
theorem szM {d : MkD} (hs : szMarked d ≤ 1048576) : d.1.length ≤ 1048576 ∧ d.2.length ≤ 1048576 := by
  unfold szMarked szIntS at hs; omega

theorem X_s_MarkedOk (v : Value) (d : MkD) (w : World) (h : RdMarked w w.heap.size v d) (hs : szMarked d ≤ 1048576) :
    Calls Try.prog 50 #[v] w fun e w' => e = .returned (.bool (markB d)) ∧ Below w.heap.size w w' := by
  obtain ⟨A0, n0, c0, A1, n1, c1, rfl, h0, h1, l0, l1⟩ := h.open_
  have := szM hs
  exact s_MarkedOk A0 n0 c0 A1 n1 c1 d.1 d.2 w h0 h1 (by omega) (by omega)
theorem X_i_MarkedOk (v : Value) (d : MkD) (w : World) (h : RdMarked w w.heap.size v d) (hs : szMarked d ≤ 1048576) :
    Calls Try.prog 52 #[v] w fun e w' => e = .returned (.bool (markB d)) ∧ Below w.heap.size w w' := by
  obtain ⟨A0, n0, c0, A1, n1, c1, rfl, h0, h1, l0, l1⟩ := h.open_
  have := szM hs
  exact i_MarkedOk A0 n0 c0 A1 n1 c1 d.1 d.2 w h0 h1 (by omega) (by omega)

/-- a function that gets a struct has it in a box of its own -/
theorem box_mk (w : World) (A0 : Option Addr) (n0 c0 : Nat) (A1 : Option Addr) (n1 c1 : Nat) : Hid (Bx (w.alloc (.cells #[.slice A0 n0 c0, .slice A1 n1 c1] 26)) w.heap.size #[.slice A0 n0 c0, .slice A1 n1 c1] 26) := Lib.hid (Bx.new _ _ _)
theorem box_hb (w : World) (o : Obj) : Hid (Below w.heap.size w (w.alloc o)) := Lib.hid ((Below.refl _ _).alloc (Nat.le_refl _) _)

def markS (d : MkD) : Int := if markB d = true then sumI d.1 else 0

set_option maxHeartbeats 4000000 in
theorem X_i_MarkedSum (v : Value) (d : MkD) (w : World) (h : RdMarked w w.heap.size v d) (hs : szMarked d ≤ 1048576) :
    Calls Try.prog 27 #[v] w fun e w' => e = .returned (.tuple #[.int .i64 (markS d), .bool (markB d)]) ∧ Below w.heap.size w w' := by
  obtain ⟨A0, n0, c0, A1, n1, c1, rfl, h0, h1, l0, l1⟩ := h.open_
  have hz := szM hs
  have m0 : n0 ≤ 1048576 := by omega
  have m1 : n1 ≤ 1048576 := by omega
  obtain ⟨d0, d1⟩ := d
  have HX0 := box_mk w A0 n0 c0 A1 n1 c1
  have HB0 := box_hb w (.cells #[.slice A0 n0 c0, .slice A1 n1 c1] 26)
  have H0 := Lib.hid h0
  have H1 := Lib.hid h1
  clear h h0 h1 hz hs l0 l1
  go_enter Try.func27, Try.ntmps27
  go_wp2_with fail
  refine (i_MarkedOk A0 n0 c0 A1 n1 c1 d0 d1 _ ((H0.out.below HB0.out).more HB0.out.size) ((H1.out.below HB0.out).more HB0.out.size) m0 m1).mono ?_
  rintro e w2 ⟨rfl, hb⟩
  have HX1 := Lib.hid (HX0.out.below hb HX0.out.lt)
  have HB1 : Hid (Below w.heap.size w w2) := Lib.hid (HB0.out.trans (hb.mono HB0.out.size))
  clear hb HX0 HB0
  cases e1 : markB (d0, d1)
  · have HF : Hid (markS (d0, d1) = 0) := Lib.hid (by simp [markS, e1])
    go_wp2
    go_ret2
    exact ⟨ret_ib2 HF.out.symm e1.symm, HB1.out⟩
  have HF : Hid (markS (d0, d1) = sumI d0) := Lib.hid (by simp [markS, e1])
  have HN : Hid (Nums d0) := Lib.hid (nums_of_B (markB_iff.1 e1).2.2.1)
  have b0 : w2.cell? ⟨w.heap.size, 0, none⟩ = some (.slice A0 n0 c0) := HX1.out.cell 0
  have b1 : w2.cell? ⟨w.heap.size, 1, none⟩ = some (.slice A1 n1 c1) := HX1.out.cell 1
  have HE := Lib.hid e1
  clear e1
  go_wp2_with fail
  refine (i_values _ _ _).mono ?_
  rintro e w3 ⟨rfl, hb⟩
  have HB2 : Hid (Below w.heap.size w w3) := Lib.hid (HB1.out.trans (hb.mono HB1.out.size))
  clear hb b0 b1
  go_wp2_with fail
  refine (i_totalV _ _ _ _ _ ((H0.out.below HB2.out).more HB2.out.size) HN.out m0).mono ?_
  rintro e w' ⟨rfl, rfl⟩
  go_wp2
  go_ret2
  exact ⟨ret_ib2 HF.out.symm HE.out.symm, HB2.out⟩
end Go.Proofs.Ytpejigfndkdhcaa

/- Chapter 10: structs of values and marks. Made by tools/gen10/marks.py. -/
namespace Go.Proofs.Ytpejigfndkdhcaa
open Go.RowKit
set_option maxRecDepth 100000

theorem infoM : (Try.prog.info? 26).map (·.size) = some 2 := by kernel_rfl
theorem resM {fn : Func} {t : Tmp} {tmps : Array Value} {w : World} {g : Nat} {a b : Value} (h : fn.results = #[.cell t 26]) (ht : tmps.getD t undef = .pointer (some ⟨g, 0, none⟩)) (hb : Bx w g #[a, b] 26) :
    (results fn tmps).run Try.prog w = .ok (.agg #[a, b]) w := by
  have hr : w.rangeAt g 0 [a, b] := fun j v hv => by
    rw [Nat.zero_add, cell_of_row w g j _ _ (0, 0) hb]; simpa using hv
  have := run_loadVar_mid (P := Try.prog) w g 0 26 [a, b] _ hr Try.underlying26 rfl infoM
  have ht2 : tmps[t]?.getD undef = .pointer (some ⟨g, 0, none⟩) := by rw [← ht]; simp
  simp [results, h, ht2, this, asAddr]
theorem resM2 {fn : Func} {t u : Tmp} {tmps : Array Value} {w : World} {g : Nat} {a b x : Value} (h : fn.results = #[.cell t 26, .tmp u]) (ht : tmps.getD t undef = .pointer (some ⟨g, 0, none⟩)) (hu : tmps.getD u undef = x) (hb : Bx w g #[a, b] 26) :
    (results fn tmps).run Try.prog w = .ok (.tuple #[.agg #[a, b], x]) w := by
  have hr : w.rangeAt g 0 [a, b] := fun j v hv => by
    rw [Nat.zero_add, cell_of_row w g j _ _ (0, 0) hb]; simpa using hv
  have := run_loadVar_mid (P := Try.prog) w g 0 26 [a, b] _ hr Try.underlying26 rfl infoM
  have ht2 : tmps[t]?.getD undef = .pointer (some ⟨g, 0, none⟩) := by rw [← ht]; simp
  subst hu
  simp [results, h, ht2, this, asAddr]
section
variable {w w1 w2 : World} {R B lo : Nat} {e : TypeId} {a b : Value} {cs : Array Value}
theorem up_hb (hb : Below w.heap.size w w1) (h : Below w1.heap.size w1 w2) : Below w.heap.size w w2 := hb.trans (h.mono hb.size)
theorem nb1 (h : Below w.drew.heap.size w.drew w2) : Below w.heap.size w w2 := (below_drew (Below.refl _ _)).trans h
theorem nb2 {o : Obj} (h : Below (w.alloc o).heap.size (w.alloc o) w2) : Below w.heap.size w w2 := ((Below.refl _ _).alloc (Nat.le_refl _) o).trans (h.mono (by simp))
theorem nb3 {o : Obj} (h : Below (w.alloc o).drew.heap.size (w.alloc o).drew w2) : Below w.heap.size w w2 := nb2 (nb1 h)
theorem lit_a (w : World) (o : Obj) : (w.alloc o).drew.heap[w.heap.size]? = some o := heap_alloc_new w o
theorem lit_b (w : World) (o o' : Obj) : ((w.alloc o).alloc o').drew.heap[w.heap.size + 1]? = some o' := by have := heap_alloc_new (w.alloc o) o'; rwa [World.size_alloc] at this
theorem lit_c (w : World) (o o' : Obj) : ((w.alloc o).alloc o').drew.heap[w.heap.size]? = some o := (Below.heap_alloc (w.alloc o) o' w.heap.size (by simp)).trans (heap_alloc_new w o)
theorem rd_at {s n : Nat} {A : Option Addr} {xs : List Value} (H : Rd w w.heap.size s A n xs) (hb : Below w.heap.size w w1) : Rd w1 w1.heap.size s A n xs := (H.below hb).more hb.size
theorem rdm_at {v : Value} {d : MkD} (H : RdMarked w w.heap.size v d) (hb : Below w.heap.size w w1) : RdMarked w1 w1.heap.size v d := (H.below hb).more hb.size
theorem own_at {v : Value} {d : MkD} {hi : Nat} (h : OwMarked w lo hi v d) (hh : hi ≤ w.heap.size) : RdMarked w w.heap.size v d := h.rd.more hh
theorem own_at_al {v : Value} {d : MkD} {hi : Nat} (h : OwMarked w lo hi v d) (hh : hi ≤ w.heap.size) (o : Obj) : RdMarked (w.alloc o) (w.alloc o).heap.size v d := rdm_at (own_at h hh) ((Below.refl _ _).alloc (Nat.le_refl _) o)
theorem up_bxg (hx : Bx w1 B cs e) (h : w1.grownBy w2 (some R)) (hne : B ≠ R) : Bx w2 B cs e := (h.block B hx.lt (fun q => hne (Option.some.inj q))).trans hx
theorem up_bx (hx : Bx w1 B cs e) (h : Below w1.heap.size w1 w2) : Bx w2 B cs e := hx.below h hx.lt
theorem st_kept (w1 : World) (R : Nat) (a b : Value) : Kept R (R + 1) w1 ((w1.setCell ⟨R, 0, none⟩ a).setCell ⟨R, 1, none⟩ b) :=
  ((Kept.refl R (R + 1) w1).setCell (p := ⟨R, 0, none⟩) (Nat.le_refl _) (Nat.lt_succ_self _) a).setCell (p := ⟨R, 1, none⟩) (Nat.le_refl _) (Nat.lt_succ_self _) b
theorem st_below (hb : Below w.heap.size w w1) (hR : w.heap.size ≤ R) : Below w.heap.size w ((w1.setCell ⟨R, 0, none⟩ a).setCell ⟨R, 1, none⟩ b) :=
  (hb.setCell (p := ⟨R, 0, none⟩) hR a).setCell (p := ⟨R, 1, none⟩) hR b
theorem st_cell (hk : Kept R (R + 1) w1 w2) (hx : Bx w1 B cs e) (hne : B ≠ R) (j : Nat) : w2.cell? ⟨B, j, none⟩ = cs[j]? := (hx.kept hk (by omega)).cell j
theorem st_done {r0 r1 : Value} (hx : Bx w1 R #[r0, r1] e) : Bx ((w1.setCell ⟨R, 0, none⟩ a).setCell ⟨R, 1, none⟩ b) R #[a, b] e := (hx.set 0 a).set 1 b
end
section
variable {w w' : World} {lo m k hi : Nat} {v0 v1 : Value} {d0 d1 : List Int} {A0 A1 : Option Addr} {n0 c0 n1 c1 : Nat}
theorem OwMarked.of (h0 : OwIntS w lo m (.slice A0 n0 c0) d0) (h1 : OwIntS w k hi (.slice A1 n1 c1) d1) (hm : m ≤ k) (h2 : m ≤ hi) (h3 : lo ≤ k) (hs : d0.length + d1.length ≤ 1048576) : OwMarked w lo hi (.agg #[.slice A0 n0 c0, .slice A1 n1 c1]) (d0, d1) :=
  ⟨hs, A0, n0, c0, A1, n1, c1, lo, m, k, hi, rfl, Nat.le_refl _, h3, h2, Nat.le_refl _, .inl hm, h0, h1⟩
theorem OwMarked.nil_ (w : World) (lo hi : Nat) (h : lo ≤ hi) : OwMarked w lo hi (.agg #[.slice none 0 0, .slice none 0 0]) ([], []) :=
  ⟨by simp [szMarked, szIntS], none, 0, 0, none, 0, 0, lo, lo, lo, lo, rfl, Nat.le_refl _, Nat.le_refl _, h, h, .inl (Nat.le_refl _), OwIntS.nil_ _ _ _, OwIntS.nil_ _ _ _⟩
theorem OwMarked.rdm {v : Value} {d : MkD} (h : OwMarked w lo hi v d) (hh : hi ≤ w.heap.size) : RdMarked w w.heap.size v d := h.rd.more hh
theorem OwMarked.open_ {v : Value} {d : MkD} (h : OwMarked w lo hi v d) : ∃ A0 n0 c0 A1 n1 c1, v = .agg #[.slice A0 n0 c0, .slice A1 n1 c1] := by
  obtain ⟨_, A0, n0, c0, A1, n1, c1, _, _, _, _, rfl, _⟩ := h
  exact ⟨_, _, _, _, _, _, rfl⟩
end
theorem markB_plus {x y : MkD} {t : Int} (hx : markB x = true) : markB (plusD x y t) = true := by
  rw [markB_iff] at hx ⊢
  obtain ⟨h1, h2, _, _⟩ := hx
  refine ⟨?_, ?_, B_of_nums (mixL_nums _ _ _), B_of_nums (mixL_nums _ _ _)⟩
  · simp only [plusD, mixL_length]; exact h1
  · simp only [plusD, mixL_length]; exact h2
theorem markB_sca {x : MkD} {t : Int} (hx : markB x = true) : markB (scaD x t) = true := by
  rw [markB_iff] at hx ⊢
  obtain ⟨h1, h2, _, _⟩ := hx
  refine ⟨?_, ?_, B_of_nums (scaL_nums _ _), B_of_nums (scaL_nums _ _)⟩
  · simp only [scaD, scaL_length]; exact h1
  · simp only [scaD, scaL_length]; exact h2
theorem markB_one {key : List Int} (h1 : 2 ≤ key.length ∧ key.length ≤ 7) (h2 : numsB key = true) : markB (oneL key.length, key) = true := by
  rw [markB_iff]
  refine ⟨?_, ?_, B_of_nums (oneL_nums _), h2⟩
  · simp only [oneL_length]; exact h1
  · simp only [oneL_length]

set_option maxHeartbeats 8000000 in
theorem s_l10Plus (v u : Value) (x y : MkD) (t : Int) (w : World) (h : RdMarked w w.heap.size v x) (k : RdMarked w w.heap.size u y) (hx : markB x = true) (hy : markB y = true) (hl : y.1.length = x.1.length) (t0 : 0 ≤ t) (t1 : t ≤ 112) :
    Calls Try.prog 51 #[v, u, .int .i64 t] w fun e w' => ∃ g, e = .returned g ∧ OwMarked w' w.heap.size w'.heap.size g (plusD x y t) ∧ Below w.heap.size w w' := by
  obtain ⟨X0, nx, cX0, X1, nx1, cX1, rfl, a0, a1, l0, l1⟩ := h.open_
  obtain ⟨Y0, ny, cY0, Y1, ny1, cY1, rfl, b0, b1, j0, j1⟩ := k.open_
  obtain ⟨⟨s1, s2⟩, s3, s4, s5⟩ := markB_iff.1 hx
  obtain ⟨_, s6, s7, s8⟩ := markB_iff.1 hy
  obtain ⟨x0, x1⟩ := x
  obtain ⟨y0, y1⟩ := y
  simp only at a0 a1 b0 b1 l0 l1 j0 j1 hl s1 s2 s3 s4 s5 s6 s7 s8
  obtain rfl : nx = nx1 := by omega
  obtain rfl : ny = ny1 := by omega
  obtain rfl : ny = nx := by omega
  have HX0 := Lib.hid a0
  have HX1 := Lib.hid a1
  have HY0 := Lib.hid b0
  have HY1 := Lib.hid b1
  have N0 := Lib.hid (nums_of_B s4)
  have N1 := Lib.hid (nums_of_B s5)
  have K0 := Lib.hid (nums_of_B s7)
  have K1 := Lib.hid (nums_of_B s8)
  have q7 : ny ≤ 7 := by omega
  have HLX : Hid (x0.length + x1.length ≤ 14) := Lib.hid (by omega)
  clear h k a0 a1 b0 b1 s1 s2 s3 s4 s5 s6 s7 s8 hx hy hl l0 l1 j0 j1
  go_enter Try.func51, Try.ntmps51
  go_wp2
  obtain ⟨W0, hW0⟩ : ∃ W, Hid ((((w.alloc (.cells #[.slice X0 ny cX0, .slice X1 ny cX1] 26)).alloc (.cells #[.slice Y0 ny cY0, .slice Y1 ny cY1] 26)).alloc (.cells #[.slice none 0 0, .slice none 0 0] 26)) = W) := ⟨_, Lib.hid rfl⟩
  have HB : Hid (Below w.heap.size w W0) := Lib.hid (by rw [← hW0.out]; exact (((Below.refl _ _).alloc (Nat.le_refl _) _).alloc (by simp) _).alloc (by simp; omega) _)
  have Z0 : Hid (W0.heap.size = w.heap.size + 1 + 1 + 1) := Lib.hid (by rw [← hW0.out]; simp only [World.size_alloc])
  have HX_x : Hid (Bx W0 w.heap.size #[.slice X0 ny cX0, .slice X1 ny cX1] 26) := Lib.hid (by rw [← hW0.out]; exact ((Bx.new w _ _).alloc _).alloc _)
  have HX_y : Hid (Bx W0 (w.heap.size + 1) #[.slice Y0 ny cY0, .slice Y1 ny cY1] 26) := Lib.hid (by rw [← hW0.out]; have := (Bx.new (w.alloc (.cells #[.slice X0 ny cX0, .slice X1 ny cX1] 26)) #[.slice Y0 ny cY0, .slice Y1 ny cY1] 26).alloc (.cells #[.slice none 0 0, .slice none 0 0] 26); rw [World.size_alloc] at this; exact this)
  have HX_R : Hid (Bx W0 (w.heap.size + 1 + 1) #[.slice none 0 0, .slice none 0 0] 26) := Lib.hid (by rw [← hW0.out]; have := Bx.new ((w.alloc (.cells #[.slice X0 ny cX0, .slice X1 ny cX1] 26)).alloc (.cells #[.slice Y0 ny cY0, .slice Y1 ny cY1] 26)) #[.slice none 0 0, .slice none 0 0] 26; rw [World.size_alloc, World.size_alloc] at this; exact this)
  rw [hW0.out]
  clear hW0
  have hb := HB.out
  have hx_x := HX_x.out
  have hx_y := HX_y.out
  have hx_R := HX_R.out
  have hc_x_0 : W0.cell? ⟨w.heap.size, 0, none⟩ = some (.slice X0 ny cX0) := HX_x.out.cell 0
  have hc_x_1 : W0.cell? ⟨w.heap.size, 1, none⟩ = some (.slice X1 ny cX1) := HX_x.out.cell 1
  have hc_y_0 : W0.cell? ⟨w.heap.size + 1, 0, none⟩ = some (.slice Y0 ny cY0) := HX_y.out.cell 0
  have hc_y_1 : W0.cell? ⟨w.heap.size + 1, 1, none⟩ = some (.slice Y1 ny cY1) := HX_y.out.cell 1
  have stq0 : True := trivial
  go_region_held3 (fun w' => Below w.heap.size w w' ∧ (w').cell? ⟨w.heap.size, 0, none⟩ = some (.slice X0 ny cX0) ∧ (w').cell? ⟨w.heap.size, 1, none⟩ = some (.slice X1 ny cX1) ∧ (w').cell? ⟨w.heap.size + 1, 0, none⟩ = some (.slice Y0 ny cY0) ∧ (w').cell? ⟨w.heap.size + 1, 1, none⟩ = some (.slice Y1 ny cY1))
    (first | exact ⟨hb, hc_x_0, hc_x_1, hc_y_0, hc_y_1⟩ | exact ⟨hb.drew, hc_x_0, hc_x_1, hc_y_0, hc_y_1⟩ | exact hst _ _)
    (first
      | (have stq1 := stq0
         clear stq0
         have z0 := Z0.out
         have zdrew : W0.drew.heap.size = W0.heap.size := rfl
         go_at_call 104
         refine (s_l10Mix X0 Y0 ny cX0 ny cY0 x0 y0 t _ (rd_at HX0.out (by first | exact hb | exact hb.drew)) (rd_at HY0.out (by first | exact hb | exact hb.drew)) N0.out K0.out q7 rfl t0 t1).mono ?_
         rintro e w1 ⟨A3, c3, rfl, ho0, hb_⟩
         have z1 := hb_.size
         have hbk : Below W0.heap.size W0 w1 := (by first | exact hb_ | exact nb1 hb_)
         replace hb : Below w.heap.size w w1 := up_hb hb hbk
         replace hx_x : Bx w1 (w.heap.size) #[.slice X0 ny cX0, .slice X1 ny cX1] 26 := up_bx hx_x hbk
         replace hx_y : Bx w1 (w.heap.size + 1) #[.slice Y0 ny cY0, .slice Y1 ny cY1] 26 := up_bx hx_y hbk
         replace hx_R : Bx w1 (w.heap.size + 1 + 1) #[.slice none 0 0, .slice none 0 0] 26 := up_bx hx_R hbk
         replace hc_x_0 : w1.cell? ⟨w.heap.size, 0, none⟩ = some (.slice X0 ny cX0) := hx_x.cell 0
         replace hc_x_1 : w1.cell? ⟨w.heap.size, 1, none⟩ = some (.slice X1 ny cX1) := hx_x.cell 1
         replace hc_y_0 : w1.cell? ⟨w.heap.size + 1, 0, none⟩ = some (.slice Y0 ny cY0) := hx_y.cell 0
         replace hc_y_1 : w1.cell? ⟨w.heap.size + 1, 1, none⟩ = some (.slice Y1 ny cY1) := hx_y.cell 1
         clear hbk
         clear hb_
         clear zdrew z0)
      | (have stq2 := stq1
         clear stq1
         have z0 := Z0.out
         have zdrew : W0.drew.heap.size = W0.heap.size := rfl
         go_at_call 104
         refine (s_l10Mix X1 Y1 ny cX1 ny cY1 x1 y1 t _ (rd_at HX1.out (by first | exact hb | exact hb.drew)) (rd_at HY1.out (by first | exact hb | exact hb.drew)) N1.out K1.out q7 rfl t0 t1).mono ?_
         rintro e w2 ⟨A4, c4, rfl, ho1, hb_⟩
         have z2 := hb_.size
         have hbk : Below w1.heap.size w1 w2 := (by first | exact hb_ | exact nb1 hb_)
         replace hb : Below w.heap.size w w2 := up_hb hb hbk
         replace hx_x : Bx w2 (w.heap.size) #[.slice X0 ny cX0, .slice X1 ny cX1] 26 := up_bx hx_x hbk
         replace hx_y : Bx w2 (w.heap.size + 1) #[.slice Y0 ny cY0, .slice Y1 ny cY1] 26 := up_bx hx_y hbk
         replace hx_R : Bx w2 (w.heap.size + 1 + 1) #[.slice none 0 0, .slice none 0 0] 26 := up_bx hx_R hbk
         replace hc_x_0 : w2.cell? ⟨w.heap.size, 0, none⟩ = some (.slice X0 ny cX0) := hx_x.cell 0
         replace hc_x_1 : w2.cell? ⟨w.heap.size, 1, none⟩ = some (.slice X1 ny cX1) := hx_x.cell 1
         replace hc_y_0 : w2.cell? ⟨w.heap.size + 1, 0, none⟩ = some (.slice Y0 ny cY0) := hx_y.cell 0
         replace hc_y_1 : w2.cell? ⟨w.heap.size + 1, 1, none⟩ = some (.slice Y1 ny cY1) := hx_y.cell 1
         replace ho0 := ho0.below hbk (by omega)
         clear hbk
         clear hb_
         have hr0 : w2.cell? ⟨w.heap.size + 1 + 1, 0, none⟩ = some (.slice none 0 0) := hx_R.cell 0
         have hf0 : w2.frozen? ⟨w.heap.size + 1 + 1, 0, none⟩ = false := hx_R.free 0
         have hr1 : w2.cell? ⟨w.heap.size + 1 + 1, 1, none⟩ = some (.slice none 0 0) := hx_R.cell 1
         have hf1 : w2.frozen? ⟨w.heap.size + 1 + 1, 1, none⟩ = false := hx_R.free 1
         have hst : ∀ a b, Below w.heap.size w ((w2.setCell ⟨w.heap.size + 1 + 1, 0, none⟩ a).setCell ⟨w.heap.size + 1 + 1, 1, none⟩ b) ∧ ((w2.setCell ⟨w.heap.size + 1 + 1, 0, none⟩ a).setCell ⟨w.heap.size + 1 + 1, 1, none⟩ b).cell? ⟨w.heap.size, 0, none⟩ = some (.slice X0 ny cX0) ∧ ((w2.setCell ⟨w.heap.size + 1 + 1, 0, none⟩ a).setCell ⟨w.heap.size + 1 + 1, 1, none⟩ b).cell? ⟨w.heap.size, 1, none⟩ = some (.slice X1 ny cX1) ∧ ((w2.setCell ⟨w.heap.size + 1 + 1, 0, none⟩ a).setCell ⟨w.heap.size + 1 + 1, 1, none⟩ b).cell? ⟨w.heap.size + 1, 0, none⟩ = some (.slice Y0 ny cY0) ∧ ((w2.setCell ⟨w.heap.size + 1 + 1, 0, none⟩ a).setCell ⟨w.heap.size + 1 + 1, 1, none⟩ b).cell? ⟨w.heap.size + 1, 1, none⟩ = some (.slice Y1 ny cY1) := fun a b => ⟨st_below hb (by omega), st_cell (st_kept w2 (w.heap.size + 1 + 1) _ _) hx_x (by omega) 0, st_cell (st_kept w2 (w.heap.size + 1 + 1) _ _) hx_x (by omega) 1, st_cell (st_kept w2 (w.heap.size + 1 + 1) _ _) hx_y (by omega) 0, st_cell (st_kept w2 (w.heap.size + 1 + 1) _ _) hx_y (by omega) 1⟩
         clear zdrew z0))
  have z0 := Z0.out
  have zdrew : W0.drew.heap.size = W0.heap.size := rfl
  have HR := Lib.hid (st_done (a := .slice A3 ny c3) (b := .slice A4 ny c4) hx_R)
  have HK := Lib.hid (st_kept w2 (w.heap.size + 1 + 1) (.slice A3 ny c3) (.slice A4 ny c4))
  have HF : Hid (Below w.heap.size w ((w2.setCell ⟨w.heap.size + 1 + 1, 0, none⟩ (.slice A3 ny c3)).setCell ⟨w.heap.size + 1 + 1, 1, none⟩ (.slice A4 ny c4))) := Lib.hid (st_below hb (by omega))
  have hsz := HK.out.size
  have zz : W0.heap.size ≤ w1.heap.size := z1
  clear hb hst z0
  go_wp2
  have z0 := Z0.out
  exact bodyPost_ret (v := .agg #[.slice A3 ny c3, .slice A4 ny c4]) (resM rfl rfl HR.out) rfl ⟨_, rfl, (OwMarked.of (ho0.kept HK.out (by omega) (by omega)) (ho1.kept HK.out (by omega) (by omega)) (by omega) (by omega) (by omega) (by simp only [mixL_length]; have := HLX.out; omega)).widen (by omega) (by omega), HF.out⟩

set_option maxHeartbeats 8000000 in
theorem i_Mplus (v u : Value) (x y : MkD) (w : World) (h : RdMarked w w.heap.size v x) (k : RdMarked w w.heap.size u y) (hx : markB x = true) (hy : markB y = true) (hl : y.1.length = x.1.length) :
    Calls Try.prog 54 #[v, u] w fun e w' => ∃ g, e = .returned g ∧ OwMarked w' w.heap.size w'.heap.size g (plusD x y 1) ∧ Below w.heap.size w w' := by
  obtain ⟨X0, nx, cX0, X1, nx1, cX1, rfl, a0, a1, l0, l1⟩ := h.open_
  obtain ⟨Y0, ny, cY0, Y1, ny1, cY1, rfl, b0, b1, j0, j1⟩ := k.open_
  obtain ⟨⟨s1, s2⟩, s3, s4, s5⟩ := markB_iff.1 hx
  obtain ⟨_, s6, s7, s8⟩ := markB_iff.1 hy
  obtain ⟨x0, x1⟩ := x
  obtain ⟨y0, y1⟩ := y
  simp only at a0 a1 b0 b1 l0 l1 j0 j1 hl s1 s2 s3 s4 s5 s6 s7 s8
  obtain rfl : nx = nx1 := by omega
  obtain rfl : ny = ny1 := by omega
  obtain rfl : ny = nx := by omega
  have HX0 := Lib.hid a0
  have HX1 := Lib.hid a1
  have HY0 := Lib.hid b0
  have HY1 := Lib.hid b1
  have N0 := Lib.hid (nums_of_B s4)
  have N1 := Lib.hid (nums_of_B s5)
  have K0 := Lib.hid (nums_of_B s7)
  have K1 := Lib.hid (nums_of_B s8)
  have q7 : ny ≤ 7 := by omega
  have HLX : Hid (x0.length + x1.length ≤ 14) := Lib.hid (by omega)
  clear h k a0 a1 b0 b1 s1 s2 s3 s4 s5 s6 s7 s8 hx hy hl l0 l1 j0 j1
  go_enter Try.func54, Try.ntmps54
  go_wp2
  obtain ⟨W0, hW0⟩ : ∃ W, Hid ((((w.alloc (.cells #[.slice X0 ny cX0, .slice X1 ny cX1] 26)).alloc (.cells #[.slice Y0 ny cY0, .slice Y1 ny cY1] 26)).alloc (.cells #[.slice none 0 0, .slice none 0 0] 26)) = W) := ⟨_, Lib.hid rfl⟩
  have HB : Hid (Below w.heap.size w W0) := Lib.hid (by rw [← hW0.out]; exact (((Below.refl _ _).alloc (Nat.le_refl _) _).alloc (by simp) _).alloc (by simp; omega) _)
  have Z0 : Hid (W0.heap.size = w.heap.size + 1 + 1 + 1) := Lib.hid (by rw [← hW0.out]; simp only [World.size_alloc])
  have HX_x : Hid (Bx W0 w.heap.size #[.slice X0 ny cX0, .slice X1 ny cX1] 26) := Lib.hid (by rw [← hW0.out]; exact ((Bx.new w _ _).alloc _).alloc _)
  have HX_y : Hid (Bx W0 (w.heap.size + 1) #[.slice Y0 ny cY0, .slice Y1 ny cY1] 26) := Lib.hid (by rw [← hW0.out]; have := (Bx.new (w.alloc (.cells #[.slice X0 ny cX0, .slice X1 ny cX1] 26)) #[.slice Y0 ny cY0, .slice Y1 ny cY1] 26).alloc (.cells #[.slice none 0 0, .slice none 0 0] 26); rw [World.size_alloc] at this; exact this)
  have HX_R : Hid (Bx W0 (w.heap.size + 1 + 1) #[.slice none 0 0, .slice none 0 0] 26) := Lib.hid (by rw [← hW0.out]; have := Bx.new ((w.alloc (.cells #[.slice X0 ny cX0, .slice X1 ny cX1] 26)).alloc (.cells #[.slice Y0 ny cY0, .slice Y1 ny cY1] 26)) #[.slice none 0 0, .slice none 0 0] 26; rw [World.size_alloc, World.size_alloc] at this; exact this)
  rw [hW0.out]
  clear hW0
  have hb := HB.out
  have hx_x := HX_x.out
  have hx_y := HX_y.out
  have hx_R := HX_R.out
  have hc_x_0 : W0.cell? ⟨w.heap.size, 0, none⟩ = some (.slice X0 ny cX0) := HX_x.out.cell 0
  have hc_x_1 : W0.cell? ⟨w.heap.size, 1, none⟩ = some (.slice X1 ny cX1) := HX_x.out.cell 1
  have hc_y_0 : W0.cell? ⟨w.heap.size + 1, 0, none⟩ = some (.slice Y0 ny cY0) := HX_y.out.cell 0
  have hc_y_1 : W0.cell? ⟨w.heap.size + 1, 1, none⟩ = some (.slice Y1 ny cY1) := HX_y.out.cell 1
  have stq0 : True := trivial
  go_region_held3 (fun w' => Below w.heap.size w w' ∧ (w').cell? ⟨w.heap.size, 0, none⟩ = some (.slice X0 ny cX0) ∧ (w').cell? ⟨w.heap.size, 1, none⟩ = some (.slice X1 ny cX1) ∧ (w').cell? ⟨w.heap.size + 1, 0, none⟩ = some (.slice Y0 ny cY0) ∧ (w').cell? ⟨w.heap.size + 1, 1, none⟩ = some (.slice Y1 ny cY1))
    (first | exact ⟨hb, hc_x_0, hc_x_1, hc_y_0, hc_y_1⟩ | exact ⟨hb.drew, hc_x_0, hc_x_1, hc_y_0, hc_y_1⟩ | exact hst _ _)
    (first
      | (have stq1 := stq0
         clear stq0
         have z0 := Z0.out
         have zdrew : W0.drew.heap.size = W0.heap.size := rfl
         go_at_call 61
         refine (i_values _ _ _).mono ?_
         rintro e w1 ⟨rfl, hb_⟩
         have z1 := hb_.size
         have hbk : Below W0.heap.size W0 w1 := (by first | exact hb_ | exact nb1 hb_)
         replace hb : Below w.heap.size w w1 := up_hb hb hbk
         replace hx_x : Bx w1 (w.heap.size) #[.slice X0 ny cX0, .slice X1 ny cX1] 26 := up_bx hx_x hbk
         replace hx_y : Bx w1 (w.heap.size + 1) #[.slice Y0 ny cY0, .slice Y1 ny cY1] 26 := up_bx hx_y hbk
         replace hx_R : Bx w1 (w.heap.size + 1 + 1) #[.slice none 0 0, .slice none 0 0] 26 := up_bx hx_R hbk
         replace hc_x_0 : w1.cell? ⟨w.heap.size, 0, none⟩ = some (.slice X0 ny cX0) := hx_x.cell 0
         replace hc_x_1 : w1.cell? ⟨w.heap.size, 1, none⟩ = some (.slice X1 ny cX1) := hx_x.cell 1
         replace hc_y_0 : w1.cell? ⟨w.heap.size + 1, 0, none⟩ = some (.slice Y0 ny cY0) := hx_y.cell 0
         replace hc_y_1 : w1.cell? ⟨w.heap.size + 1, 1, none⟩ = some (.slice Y1 ny cY1) := hx_y.cell 1
         clear hbk
         clear hb_
         clear zdrew z0)
      | (have stq2 := stq1
         clear stq1
         have z0 := Z0.out
         have zdrew : W0.drew.heap.size = W0.heap.size := rfl
         go_at_call 61
         refine (i_values _ _ _).mono ?_
         rintro e w2 ⟨rfl, hb_⟩
         have z2 := hb_.size
         have hbk : Below w1.heap.size w1 w2 := (by first | exact hb_ | exact nb1 hb_)
         replace hb : Below w.heap.size w w2 := up_hb hb hbk
         replace hx_x : Bx w2 (w.heap.size) #[.slice X0 ny cX0, .slice X1 ny cX1] 26 := up_bx hx_x hbk
         replace hx_y : Bx w2 (w.heap.size + 1) #[.slice Y0 ny cY0, .slice Y1 ny cY1] 26 := up_bx hx_y hbk
         replace hx_R : Bx w2 (w.heap.size + 1 + 1) #[.slice none 0 0, .slice none 0 0] 26 := up_bx hx_R hbk
         replace hc_x_0 : w2.cell? ⟨w.heap.size, 0, none⟩ = some (.slice X0 ny cX0) := hx_x.cell 0
         replace hc_x_1 : w2.cell? ⟨w.heap.size, 1, none⟩ = some (.slice X1 ny cX1) := hx_x.cell 1
         replace hc_y_0 : w2.cell? ⟨w.heap.size + 1, 0, none⟩ = some (.slice Y0 ny cY0) := hx_y.cell 0
         replace hc_y_1 : w2.cell? ⟨w.heap.size + 1, 1, none⟩ = some (.slice Y1 ny cY1) := hx_y.cell 1
         clear hbk
         clear hb_
         clear zdrew z0)
      | (have stq3 := stq2
         clear stq2
         have z0 := Z0.out
         have zdrew : W0.drew.heap.size = W0.heap.size := rfl
         go_at_call 105
         refine (i_plusV X0 Y0 ny cX0 ny cY0 x0 y0 _ (rd_at HX0.out (by first | exact hb | exact hb.drew)) (rd_at HY0.out (by first | exact hb | exact hb.drew)) N0.out K0.out q7 rfl).mono ?_
         rintro e w3 ⟨A3, c3, rfl, ho0, hb_⟩
         have z3 := hb_.size
         have hbk : Below w2.heap.size w2 w3 := (by first | exact hb_ | exact nb1 hb_)
         replace hb : Below w.heap.size w w3 := up_hb hb hbk
         replace hx_x : Bx w3 (w.heap.size) #[.slice X0 ny cX0, .slice X1 ny cX1] 26 := up_bx hx_x hbk
         replace hx_y : Bx w3 (w.heap.size + 1) #[.slice Y0 ny cY0, .slice Y1 ny cY1] 26 := up_bx hx_y hbk
         replace hx_R : Bx w3 (w.heap.size + 1 + 1) #[.slice none 0 0, .slice none 0 0] 26 := up_bx hx_R hbk
         replace hc_x_0 : w3.cell? ⟨w.heap.size, 0, none⟩ = some (.slice X0 ny cX0) := hx_x.cell 0
         replace hc_x_1 : w3.cell? ⟨w.heap.size, 1, none⟩ = some (.slice X1 ny cX1) := hx_x.cell 1
         replace hc_y_0 : w3.cell? ⟨w.heap.size + 1, 0, none⟩ = some (.slice Y0 ny cY0) := hx_y.cell 0
         replace hc_y_1 : w3.cell? ⟨w.heap.size + 1, 1, none⟩ = some (.slice Y1 ny cY1) := hx_y.cell 1
         clear hbk
         clear hb_
         clear zdrew z0)
      | (have stq4 := stq3
         clear stq3
         have z0 := Z0.out
         have zdrew : W0.drew.heap.size = W0.heap.size := rfl
         go_at_call 78
         refine (i_marks _ _ _).mono ?_
         rintro e w4 ⟨rfl, hb_⟩
         have z4 := hb_.size
         have hbk : Below w3.heap.size w3 w4 := (by first | exact hb_ | exact nb1 hb_)
         replace hb : Below w.heap.size w w4 := up_hb hb hbk
         replace hx_x : Bx w4 (w.heap.size) #[.slice X0 ny cX0, .slice X1 ny cX1] 26 := up_bx hx_x hbk
         replace hx_y : Bx w4 (w.heap.size + 1) #[.slice Y0 ny cY0, .slice Y1 ny cY1] 26 := up_bx hx_y hbk
         replace hx_R : Bx w4 (w.heap.size + 1 + 1) #[.slice none 0 0, .slice none 0 0] 26 := up_bx hx_R hbk
         replace hc_x_0 : w4.cell? ⟨w.heap.size, 0, none⟩ = some (.slice X0 ny cX0) := hx_x.cell 0
         replace hc_x_1 : w4.cell? ⟨w.heap.size, 1, none⟩ = some (.slice X1 ny cX1) := hx_x.cell 1
         replace hc_y_0 : w4.cell? ⟨w.heap.size + 1, 0, none⟩ = some (.slice Y0 ny cY0) := hx_y.cell 0
         replace hc_y_1 : w4.cell? ⟨w.heap.size + 1, 1, none⟩ = some (.slice Y1 ny cY1) := hx_y.cell 1
         replace ho0 := ho0.below hbk (by omega)
         clear hbk
         clear hb_
         clear zdrew z0)
      | (have stq5 := stq4
         clear stq4
         have z0 := Z0.out
         have zdrew : W0.drew.heap.size = W0.heap.size := rfl
         go_at_call 78
         refine (i_marks _ _ _).mono ?_
         rintro e w5 ⟨rfl, hb_⟩
         have z5 := hb_.size
         have hbk : Below w4.heap.size w4 w5 := (by first | exact hb_ | exact nb1 hb_)
         replace hb : Below w.heap.size w w5 := up_hb hb hbk
         replace hx_x : Bx w5 (w.heap.size) #[.slice X0 ny cX0, .slice X1 ny cX1] 26 := up_bx hx_x hbk
         replace hx_y : Bx w5 (w.heap.size + 1) #[.slice Y0 ny cY0, .slice Y1 ny cY1] 26 := up_bx hx_y hbk
         replace hx_R : Bx w5 (w.heap.size + 1 + 1) #[.slice none 0 0, .slice none 0 0] 26 := up_bx hx_R hbk
         replace hc_x_0 : w5.cell? ⟨w.heap.size, 0, none⟩ = some (.slice X0 ny cX0) := hx_x.cell 0
         replace hc_x_1 : w5.cell? ⟨w.heap.size, 1, none⟩ = some (.slice X1 ny cX1) := hx_x.cell 1
         replace hc_y_0 : w5.cell? ⟨w.heap.size + 1, 0, none⟩ = some (.slice Y0 ny cY0) := hx_y.cell 0
         replace hc_y_1 : w5.cell? ⟨w.heap.size + 1, 1, none⟩ = some (.slice Y1 ny cY1) := hx_y.cell 1
         replace ho0 := ho0.below hbk (by omega)
         clear hbk
         clear hb_
         clear zdrew z0)
      | (have stq6 := stq5
         clear stq5
         have z0 := Z0.out
         have zdrew : W0.drew.heap.size = W0.heap.size := rfl
         go_at_call 106
         refine (i_plusM X1 Y1 ny cX1 ny cY1 x1 y1 _ (rd_at HX1.out (by first | exact hb | exact hb.drew)) (rd_at HY1.out (by first | exact hb | exact hb.drew)) N1.out K1.out q7 rfl).mono ?_
         rintro e w6 ⟨A4, c4, rfl, ho1, hb_⟩
         have z6 := hb_.size
         have hbk : Below w5.heap.size w5 w6 := (by first | exact hb_ | exact nb1 hb_)
         replace hb : Below w.heap.size w w6 := up_hb hb hbk
         replace hx_x : Bx w6 (w.heap.size) #[.slice X0 ny cX0, .slice X1 ny cX1] 26 := up_bx hx_x hbk
         replace hx_y : Bx w6 (w.heap.size + 1) #[.slice Y0 ny cY0, .slice Y1 ny cY1] 26 := up_bx hx_y hbk
         replace hx_R : Bx w6 (w.heap.size + 1 + 1) #[.slice none 0 0, .slice none 0 0] 26 := up_bx hx_R hbk
         replace hc_x_0 : w6.cell? ⟨w.heap.size, 0, none⟩ = some (.slice X0 ny cX0) := hx_x.cell 0
         replace hc_x_1 : w6.cell? ⟨w.heap.size, 1, none⟩ = some (.slice X1 ny cX1) := hx_x.cell 1
         replace hc_y_0 : w6.cell? ⟨w.heap.size + 1, 0, none⟩ = some (.slice Y0 ny cY0) := hx_y.cell 0
         replace hc_y_1 : w6.cell? ⟨w.heap.size + 1, 1, none⟩ = some (.slice Y1 ny cY1) := hx_y.cell 1
         replace ho0 := ho0.below hbk (by omega)
         clear hbk
         clear hb_
         have hr0 : w6.cell? ⟨w.heap.size + 1 + 1, 0, none⟩ = some (.slice none 0 0) := hx_R.cell 0
         have hf0 : w6.frozen? ⟨w.heap.size + 1 + 1, 0, none⟩ = false := hx_R.free 0
         have hr1 : w6.cell? ⟨w.heap.size + 1 + 1, 1, none⟩ = some (.slice none 0 0) := hx_R.cell 1
         have hf1 : w6.frozen? ⟨w.heap.size + 1 + 1, 1, none⟩ = false := hx_R.free 1
         have hst : ∀ a b, Below w.heap.size w ((w6.setCell ⟨w.heap.size + 1 + 1, 0, none⟩ a).setCell ⟨w.heap.size + 1 + 1, 1, none⟩ b) ∧ ((w6.setCell ⟨w.heap.size + 1 + 1, 0, none⟩ a).setCell ⟨w.heap.size + 1 + 1, 1, none⟩ b).cell? ⟨w.heap.size, 0, none⟩ = some (.slice X0 ny cX0) ∧ ((w6.setCell ⟨w.heap.size + 1 + 1, 0, none⟩ a).setCell ⟨w.heap.size + 1 + 1, 1, none⟩ b).cell? ⟨w.heap.size, 1, none⟩ = some (.slice X1 ny cX1) ∧ ((w6.setCell ⟨w.heap.size + 1 + 1, 0, none⟩ a).setCell ⟨w.heap.size + 1 + 1, 1, none⟩ b).cell? ⟨w.heap.size + 1, 0, none⟩ = some (.slice Y0 ny cY0) ∧ ((w6.setCell ⟨w.heap.size + 1 + 1, 0, none⟩ a).setCell ⟨w.heap.size + 1 + 1, 1, none⟩ b).cell? ⟨w.heap.size + 1, 1, none⟩ = some (.slice Y1 ny cY1) := fun a b => ⟨st_below hb (by omega), st_cell (st_kept w6 (w.heap.size + 1 + 1) _ _) hx_x (by omega) 0, st_cell (st_kept w6 (w.heap.size + 1 + 1) _ _) hx_x (by omega) 1, st_cell (st_kept w6 (w.heap.size + 1 + 1) _ _) hx_y (by omega) 0, st_cell (st_kept w6 (w.heap.size + 1 + 1) _ _) hx_y (by omega) 1⟩
         clear zdrew z0))
  have z0 := Z0.out
  have zdrew : W0.drew.heap.size = W0.heap.size := rfl
  have HR := Lib.hid (st_done (a := .slice A3 ny c3) (b := .slice A4 ny c4) hx_R)
  have HK := Lib.hid (st_kept w6 (w.heap.size + 1 + 1) (.slice A3 ny c3) (.slice A4 ny c4))
  have HF : Hid (Below w.heap.size w ((w6.setCell ⟨w.heap.size + 1 + 1, 0, none⟩ (.slice A3 ny c3)).setCell ⟨w.heap.size + 1 + 1, 1, none⟩ (.slice A4 ny c4))) := Lib.hid (st_below hb (by omega))
  have hsz := HK.out.size
  have zz : W0.heap.size ≤ w1.heap.size := z1
  clear hb hst z0
  go_wp2
  have z0 := Z0.out
  exact bodyPost_ret (v := .agg #[.slice A3 ny c3, .slice A4 ny c4]) (resM rfl rfl HR.out) rfl ⟨_, rfl, (OwMarked.of (ho0.kept HK.out (by omega) (by omega)) (ho1.kept HK.out (by omega) (by omega)) (by omega) (by omega) (by omega) (by simp only [mixL_length]; have := HLX.out; omega)).widen (by omega) (by omega), HF.out⟩

set_option maxHeartbeats 8000000 in
theorem i_Mtimes (v : Value) (x : MkD) (t : Int) (w : World) (h : RdMarked w w.heap.size v x) (hx : markB x = true) (t0 : 0 ≤ t) (t1 : t ≤ 112) :
    Calls Try.prog 64 #[v, .int .i64 t] w fun e w' => ∃ g, e = .returned g ∧ OwMarked w' w.heap.size w'.heap.size g (scaD x t) ∧ Below w.heap.size w w' := by
  obtain ⟨X0, nx, cX0, X1, nx1, cX1, rfl, a0, a1, l0, l1⟩ := h.open_
  obtain ⟨⟨s1, s2⟩, s3, s4, s5⟩ := markB_iff.1 hx
  obtain ⟨x0, x1⟩ := x
  simp only at a0 a1 l0 l1 s1 s2 s3 s4 s5
  obtain rfl : nx = nx1 := by omega
  have HX0 := Lib.hid a0
  have HX1 := Lib.hid a1
  have N0 := Lib.hid (nums_of_B s4)
  have N1 := Lib.hid (nums_of_B s5)
  have q7 : nx ≤ 7 := by omega
  have q2 : 2 ≤ nx := by omega
  have HL0 : Hid (x0.length = nx) := Lib.hid l0
  have HL1 : Hid (x1.length = nx) := Lib.hid l1
  clear h a0 a1 s1 s2 s3 s4 s5 hx l0 l1
  go_enter Try.func64, Try.ntmps64
  go_wp2
  obtain ⟨W0, hW0⟩ : ∃ W, Hid (((w.alloc (.cells #[.slice X0 nx cX0, .slice X1 nx cX1] 26)).alloc (.cells #[.slice none 0 0, .slice none 0 0] 26)) = W) := ⟨_, Lib.hid rfl⟩
  have HB : Hid (Below w.heap.size w W0) := Lib.hid (by rw [← hW0.out]; exact ((Below.refl _ _).alloc (Nat.le_refl _) _).alloc (by simp) _)
  have Z0 : Hid (W0.heap.size = w.heap.size + 1 + 1) := Lib.hid (by rw [← hW0.out]; simp only [World.size_alloc])
  have HX_x : Hid (Bx W0 w.heap.size #[.slice X0 nx cX0, .slice X1 nx cX1] 26) := Lib.hid (by rw [← hW0.out]; exact (Bx.new w _ _).alloc _)
  have HX_R : Hid (Bx W0 (w.heap.size + 1) #[.slice none 0 0, .slice none 0 0] 26) := Lib.hid (by rw [← hW0.out]; have := Bx.new (w.alloc (.cells #[.slice X0 nx cX0, .slice X1 nx cX1] 26)) #[.slice none 0 0, .slice none 0 0] 26; rw [World.size_alloc] at this; exact this)
  rw [hW0.out]
  clear hW0
  have hb := HB.out
  have hx_x := HX_x.out
  have hx_R := HX_R.out
  have hc_x_0 : W0.cell? ⟨w.heap.size, 0, none⟩ = some (.slice X0 nx cX0) := HX_x.out.cell 0
  have hc_x_1 : W0.cell? ⟨w.heap.size, 1, none⟩ = some (.slice X1 nx cX1) := HX_x.out.cell 1
  have stq0 : True := trivial
  go_region_held3 (fun w' => Below w.heap.size w w' ∧ (w').cell? ⟨w.heap.size, 0, none⟩ = some (.slice X0 nx cX0) ∧ (w').cell? ⟨w.heap.size, 1, none⟩ = some (.slice X1 nx cX1))
    (first | exact ⟨hb, hc_x_0, hc_x_1⟩ | exact ⟨hb.drew, hc_x_0, hc_x_1⟩ | exact hst _ _)
    (first
      | (have stq1 := stq0
         clear stq0
         have z0 := Z0.out
         have zdrew : W0.drew.heap.size = W0.heap.size := rfl
         go_at_call 61
         refine (i_values _ _ _).mono ?_
         rintro e w1 ⟨rfl, hb_⟩
         have z1 := hb_.size
         have hbk : Below W0.heap.size W0 w1 := (by first | exact hb_ | exact nb1 hb_)
         replace hb : Below w.heap.size w w1 := up_hb hb hbk
         replace hx_x : Bx w1 (w.heap.size) #[.slice X0 nx cX0, .slice X1 nx cX1] 26 := up_bx hx_x hbk
         replace hx_R : Bx w1 (w.heap.size + 1) #[.slice none 0 0, .slice none 0 0] 26 := up_bx hx_R hbk
         replace hc_x_0 : w1.cell? ⟨w.heap.size, 0, none⟩ = some (.slice X0 nx cX0) := hx_x.cell 0
         replace hc_x_1 : w1.cell? ⟨w.heap.size, 1, none⟩ = some (.slice X1 nx cX1) := hx_x.cell 1
         clear hbk
         clear hb_
         clear zdrew z0)
      | (have stq2 := stq1
         clear stq1
         have z0 := Z0.out
         have zdrew : W0.drew.heap.size = W0.heap.size := rfl
         go_at_call 108
         refine (i_timesV X0 nx cX0 x0 t _ (rd_at HX0.out (by first | exact hb | exact hb.drew)) N0.out q7 t0 t1).mono ?_
         rintro e w2 ⟨A3, c3, rfl, ho0, hb_⟩
         have z2 := hb_.size
         have hbk : Below w1.heap.size w1 w2 := (by first | exact hb_ | exact nb1 hb_)
         replace hb : Below w.heap.size w w2 := up_hb hb hbk
         replace hx_x : Bx w2 (w.heap.size) #[.slice X0 nx cX0, .slice X1 nx cX1] 26 := up_bx hx_x hbk
         replace hx_R : Bx w2 (w.heap.size + 1) #[.slice none 0 0, .slice none 0 0] 26 := up_bx hx_R hbk
         replace hc_x_0 : w2.cell? ⟨w.heap.size, 0, none⟩ = some (.slice X0 nx cX0) := hx_x.cell 0
         replace hc_x_1 : w2.cell? ⟨w.heap.size, 1, none⟩ = some (.slice X1 nx cX1) := hx_x.cell 1
         clear hbk
         clear hb_
         clear zdrew z0)
      | (have stq3 := stq2
         clear stq2
         have z0 := Z0.out
         have zdrew : W0.drew.heap.size = W0.heap.size := rfl
         go_at_call 78
         refine (i_marks _ _ _).mono ?_
         rintro e w3 ⟨rfl, hb_⟩
         have z3 := hb_.size
         have hbk : Below w2.heap.size w2 w3 := (by first | exact hb_ | exact nb1 hb_)
         replace hb : Below w.heap.size w w3 := up_hb hb hbk
         replace hx_x : Bx w3 (w.heap.size) #[.slice X0 nx cX0, .slice X1 nx cX1] 26 := up_bx hx_x hbk
         replace hx_R : Bx w3 (w.heap.size + 1) #[.slice none 0 0, .slice none 0 0] 26 := up_bx hx_R hbk
         replace hc_x_0 : w3.cell? ⟨w.heap.size, 0, none⟩ = some (.slice X0 nx cX0) := hx_x.cell 0
         replace hc_x_1 : w3.cell? ⟨w.heap.size, 1, none⟩ = some (.slice X1 nx cX1) := hx_x.cell 1
         replace ho0 := ho0.below hbk (by omega)
         clear hbk
         clear hb_
         clear zdrew z0)
      | (have stq4 := stq3
         clear stq3
         have z0 := Z0.out
         have zdrew : W0.drew.heap.size = W0.heap.size := rfl
         go_at_call 109
         refine (i_timesM X1 nx cX1 x1 t _ (rd_at HX1.out (by first | exact hb | exact hb.drew)) N1.out q7 t0 t1).mono ?_
         rintro e w4 ⟨A4, c4, rfl, ho1, hb_⟩
         have z4 := hb_.size
         have hbk : Below w3.heap.size w3 w4 := (by first | exact hb_ | exact nb1 hb_)
         replace hb : Below w.heap.size w w4 := up_hb hb hbk
         replace hx_x : Bx w4 (w.heap.size) #[.slice X0 nx cX0, .slice X1 nx cX1] 26 := up_bx hx_x hbk
         replace hx_R : Bx w4 (w.heap.size + 1) #[.slice none 0 0, .slice none 0 0] 26 := up_bx hx_R hbk
         replace hc_x_0 : w4.cell? ⟨w.heap.size, 0, none⟩ = some (.slice X0 nx cX0) := hx_x.cell 0
         replace hc_x_1 : w4.cell? ⟨w.heap.size, 1, none⟩ = some (.slice X1 nx cX1) := hx_x.cell 1
         replace ho0 := ho0.below hbk (by omega)
         clear hbk
         clear hb_
         have hr0 : w4.cell? ⟨w.heap.size + 1, 0, none⟩ = some (.slice none 0 0) := hx_R.cell 0
         have hf0 : w4.frozen? ⟨w.heap.size + 1, 0, none⟩ = false := hx_R.free 0
         have hr1 : w4.cell? ⟨w.heap.size + 1, 1, none⟩ = some (.slice none 0 0) := hx_R.cell 1
         have hf1 : w4.frozen? ⟨w.heap.size + 1, 1, none⟩ = false := hx_R.free 1
         have hst : ∀ a b, Below w.heap.size w ((w4.setCell ⟨w.heap.size + 1, 0, none⟩ a).setCell ⟨w.heap.size + 1, 1, none⟩ b) ∧ ((w4.setCell ⟨w.heap.size + 1, 0, none⟩ a).setCell ⟨w.heap.size + 1, 1, none⟩ b).cell? ⟨w.heap.size, 0, none⟩ = some (.slice X0 nx cX0) ∧ ((w4.setCell ⟨w.heap.size + 1, 0, none⟩ a).setCell ⟨w.heap.size + 1, 1, none⟩ b).cell? ⟨w.heap.size, 1, none⟩ = some (.slice X1 nx cX1) := fun a b => ⟨st_below hb (by omega), st_cell (st_kept w4 (w.heap.size + 1) _ _) hx_x (by omega) 0, st_cell (st_kept w4 (w.heap.size + 1) _ _) hx_x (by omega) 1⟩
         clear zdrew z0))
  have z0 := Z0.out
  have zdrew : W0.drew.heap.size = W0.heap.size := rfl
  have HR := Lib.hid (st_done (a := .slice A3 nx c3) (b := .slice A4 nx c4) hx_R)
  have HK := Lib.hid (st_kept w4 (w.heap.size + 1) (.slice A3 nx c3) (.slice A4 nx c4))
  have HF : Hid (Below w.heap.size w ((w4.setCell ⟨w.heap.size + 1, 0, none⟩ (.slice A3 nx c3)).setCell ⟨w.heap.size + 1, 1, none⟩ (.slice A4 nx c4))) := Lib.hid (st_below hb (by omega))
  have hsz := HK.out.size
  clear hb hst z0
  go_wp2
  have z0 := Z0.out
  exact bodyPost_ret (v := .agg #[.slice A3 nx c3, .slice A4 nx c4]) (resM rfl rfl HR.out) rfl ⟨_, rfl, (OwMarked.of (ho0.kept HK.out (by omega) (by omega)) (ho1.kept HK.out (by omega) (by omega)) (by omega) (by omega) (by omega) (by simp only [scaL_length]; have := HL0.out; have := HL1.out; omega)).widen (by omega) (by omega), HF.out⟩

set_option maxHeartbeats 4000000 in
theorem i_fits (v : Value) (x : MkD) (m : Int) (w : World) (h : RdMarked w w.heap.size v x) (hs : szMarked x ≤ 1048576) :
    Calls Try.prog 53 #[v, .int .i64 m] w fun e w' => e = .returned (.bool (markB x && decide ((x.1.length : Int) = m))) ∧ Below w.heap.size w w' := by
  obtain ⟨X0, nx, cX0, X1, nx1, cX1, rfl, a0, a1, l0, l1⟩ := h.open_
  have hz := szM hs
  have m0 : nx ≤ 1048576 := by omega
  have m1 : nx1 ≤ 1048576 := by omega
  obtain ⟨x0, x1⟩ := x
  have HX0 := Lib.hid a0
  have HX1 := Lib.hid a1
  have HL := Lib.hid l0
  have HB0 := box_hb w (.cells #[.slice X0 nx cX0, .slice X1 nx1 cX1] 26)
  have HX := box_mk w X0 nx cX0 X1 nx1 cX1
  clear h a0 a1 l0 l1 hz hs
  go_enter Try.func53, Try.ntmps53
  go_wp2_with fail
  refine (i_MarkedOk X0 nx cX0 X1 nx1 cX1 x0 x1 _ (rd_at HX0.out HB0.out) (rd_at HX1.out HB0.out) m0 m1).mono ?_
  rintro e w2 ⟨rfl, hb⟩
  have b0 : w2.cell? ⟨w.heap.size, 0, none⟩ = some (.slice X0 nx cX0) := (HX.out.below hb HX.out.lt).cell 0
  have HB1 : Hid (Below w.heap.size w w2) := Lib.hid (HB0.out.trans (hb.mono HB0.out.size))
  clear hb HX HB0
  cases e1 : markB (x0, x1)
  · have HF : Hid ((markB (x0, x1) && decide (((x0, x1).1.length : Int) = m)) = false) := Lib.hid (by rw [e1]; rfl)
    go_wp2
    go_ret
    exact ⟨ret_bool HF.out.symm, HB1.out⟩
  · have HF : Hid ((markB (x0, x1) && decide (((x0, x1).1.length : Int) = m)) = decide ((nx : Int) = m)) := Lib.hid (by rw [e1, HL.out]; rfl)
    go_wp2
    go_ret
    exact ⟨ret_bool HF.out.symm, HB1.out⟩

set_option maxHeartbeats 4000000 in
theorem i_one (A : Option Addr) (n c : Nat) (w : World) (hn : n ≤ 7) (h2 : 2 ≤ n) :
    Calls Try.prog 65 #[.slice A n c] w fun e w' => ∃ B k, e = .returned (.agg #[.slice B n k, .slice A n c]) ∧ OwIntS w' w.heap.size w'.heap.size (.slice B n k) (oneL n) ∧ Below w.heap.size w w' := by
  have hmk := fun W => run_make1 (P := Try.prog) Try.underlying22 info_int rfl n (by omega) (by omega) W
  have i0 : (0 : Int) < (n : Int) := by omega
  have hA0 : (Array.replicate n (Value.int .i64 0))[0]? = some (.int .i64 0) := by rw [Array.getElem?_replicate, if_pos (by omega)]
  have HL : Hid (((Array.replicate n (Value.int .i64 0)).setIfInBounds 0 (Value.int .i64 1)).toList = cI (oneL n)) := Lib.hid (by
    rw [Array.toList_setIfInBounds, Array.toList_replicate, cI_zeros, cI_set]; rfl)
  have HS : Hid (((Array.replicate n (Value.int .i64 0)).setIfInBounds 0 (Value.int .i64 1)).size = n * 1) := Lib.hid (by simp)
  go_enter Try.func65, Try.ntmps65
  go_wp2
  obtain ⟨arr, harr⟩ : ∃ arr, (Array.replicate n (Value.int .i64 0)).setIfInBounds 0 (Value.int .i64 1) = arr := ⟨_, rfl⟩
  rw [harr] at HL HS
  simp only [harr]
  obtain ⟨w1, hw1⟩ : ∃ W, Hid (w.alloc (.cells #[.slice (some ⟨w.heap.size + 1, 0, none⟩) n n, .slice A n c] 26) = W) := ⟨_, Lib.hid rfl⟩
  have z1 : w1.heap.size = w.heap.size + 1 := by rw [← hw1.out]; exact World.size_alloc _ _
  have hx : Bx w1 w.heap.size #[.slice (some ⟨w.heap.size + 1, 0, none⟩) n n, .slice A n c] 26 := by rw [← hw1.out]; exact Bx.new _ _ _
  have hb1 : Below w.heap.size w w1 := by rw [← hw1.out]; exact (Below.refl _ _).alloc (Nat.le_refl _) _
  have ho := Ow.new w1 arr 3 1 n HS.out
  rw [HL.out, z1] at ho
  rw [hw1.out]
  have hb2 : Below w1.heap.size w1 (w1.alloc (.cells arr 3)) := (Below.refl _ _).alloc (Nat.le_refl _) _
  have z2 : (w1.alloc (.cells arr 3)).heap.size = w.heap.size + 1 + 1 := by rw [World.size_alloc, z1]
  have hb3 : Below (w1.alloc (.cells arr 3)).heap.size (w1.alloc (.cells arr 3)) ((w1.alloc (.cells arr 3)).alloc (.cells #[.slice (some ⟨w.heap.size + 1, 0, none⟩) n n, .slice A n c] 26)) := (Below.refl _ _).alloc (Nat.le_refl _) _
  have z3 := hb3.size
  exact bodyPost_ret (v := .agg #[.slice (some ⟨w.heap.size + 1, 0, none⟩) n n, .slice A n c]) (resM rfl rfl (up_bx (up_bx hx hb2) hb3)) rfl ⟨_, _, rfl, ⟨by rw [oneL_length]; omega, _, _, _, rfl, (ho.below hb3 (by omega)).widen (by omega) (by omega)⟩, hb1.trans ((hb2.trans (hb3.mono (by omega))).mono (by omega))⟩

section
variable {ops : Array Oper} {o : Oper} {a : Act} {K : Act → World → Prop} {Q : Exit → Act → World → Prop} {E : Prop} {W w : World}
/-- append([]int{}, x...) of one or more -/
theorem step_cpI (hgd : o.guard = none) (s x : Operand)
    (ho : o.op = .call { callee := .builtin .append, args := #[s, x], argTypes := #[22, 22] })
    {hi B m c : Nat} {A : Option Addr} {zs : List Int} (hs : a.eval s = .slice (some ⟨B, 0, none⟩) 0 0) (hx : a.eval x = .slice A m c) (hB : w.heap.size ≤ B) (hlit : W.heap[B]? = some (.cells #[] 3 (0, 0)))
    (hr : Rd W hi 1 A m (cI zs)) (hbel : Below w.heap.size w W) (hm : m ≤ 1000) (h0 : 0 < m)
    (h : ∀ g c' w', OwIntS w' g (g + 1) (.slice (some ⟨g, 0, none⟩) m c') zs → Below w.heap.size w w' → W.grownBy w' (some B) → w.heap.size ≤ g → g < w'.heap.size → K (a.put o.dst (.slice (some ⟨g, 0, none⟩) m c')) w') :
    if Region.wanted o (yielded ops a.tmps) = true then Oper.wp Try.prog o a W K Q else E := by
  refine step_append_rd hgd s x _ ho w.heap.size 3 _ 1 8 Try.underlying22 info_int rfl (by decide) _ 0 [] hs (own_lit0 hB hlit) _ _ m c (cI zs) hx hr (cI_one _) (by unfold maxLen; omega) (by omega) hbel.size ?_
  intro v1 w1 hown hg _
  have hbl : Below w.heap.size w w1 := below_grown hbel hg (own_block (own_lit0 (e := 3) (size := 1) hB hlit)) hbel.size
  rcases hown.2 with ⟨_, h2⟩ | ⟨g, cap, cur, rfl, hb, hh, hnc, _, hsz, ht⟩
  · omega
  · rw [Nat.zero_add, List.nil_append] at ht
    have hlen : zs.length = m := by have := hown.1; rw [List.nil_append, cI_length] at this; omega
    have hgt := (Array.getElem?_eq_some_iff.1 hh).1
    simp only [Nat.zero_add] at hnc ⊢
    exact h g cap w1 ⟨by omega, _, _, _, rfl, by rw [cI_length]; omega, hnc, .inr ⟨g, cur, rfl, Nat.le_refl _, Nat.lt_succ_self _, hh, ht⟩⟩ hbl hg hb hgt
end
theorem own_typI {w : World} {g b n c : Nat} {cs : Array Value} {zs : List Int} {e : TypeId} (h : OwIntS w g (g + 1) (.slice (some ⟨g, 0, none⟩) n c) zs) (hb : Bx w b cs e) (hne : 3 ≠ e) (hn : 0 < n) : b ≠ g := by
  rintro rfl
  obtain ⟨_, A, k, q, hv, ho⟩ := h
  injection hv with h1 h2 h3
  subst h1 h2 h3
  obtain ⟨g', cs', hA, _, _, hh, _⟩ := ho.lt hn
  injection hA with hA
  injection hA with hA
  subst hA
  have hb2 : w.heap[b]? = some (.cells cs e (0, 0)) := hb
  rw [hh] at hb2
  injection hb2 with q
  injection q with _ q2
  exact hne q2

set_option maxHeartbeats 8000000 in
theorem s_l10Shift (v : Value) (x : MkD) (t : Int) (A : Option Addr) (n c : Nat) (key : List Int) (w : World) (h : RdMarked w w.heap.size v x) (hx : markB x = true) (hk : Rd w w.heap.size 1 A n (cI key)) (hN : Nums key) (hn : n = x.1.length) (t0 : 0 ≤ t) (t1 : t ≤ 112) :
    Calls Try.prog 59 #[v, .int .i64 t, .slice A n c] w fun e w' => ∃ g, e = .returned g ∧ OwMarked w' w.heap.size w'.heap.size g (shiftD x t key) ∧ Below w.heap.size w w' := by
  obtain ⟨X0, nx, cX0, X1, nx1, cX1, rfl, a0, a1, l0, l1⟩ := h.open_
  obtain ⟨⟨s1, s2⟩, s3, s4, s5⟩ := markB_iff.1 hx
  obtain ⟨x0, x1⟩ := x
  simp only at a0 a1 hn l0 l1 s1 s2 s3 s4 s5
  obtain rfl : nx = nx1 := by omega
  have HX0 := Lib.hid a0
  have HX1 := Lib.hid a1
  have N0 := Lib.hid (nums_of_B s4)
  have N1 := Lib.hid (nums_of_B s5)
  have q7 : nx ≤ 7 := by omega
  have q2 : 2 ≤ nx := by omega
  have HL0 : Hid (x0.length = nx) := Lib.hid l0
  have HL1 : Hid (x1.length = nx) := Lib.hid l1
  clear h a0 a1 s1 s2 s3 s4 s5 hx l0 l1
  have hnn : n = nx := by have := HL0.out; omega
  subst hnn
  have HK0 := Lib.hid hk
  have KN := Lib.hid hN
  clear hk hN hn
  have q3 : 0 < n := by omega
  go_enter Try.func59, Try.ntmps59
  go_upto_region 1 with (fail)
  obtain ⟨W0, hW0⟩ : ∃ W, Hid (((w.alloc (.cells #[.slice X0 n cX0, .slice X1 n cX1] 26)).alloc (.cells #[.slice none 0 0, .slice none 0 0] 26)) = W) := ⟨_, Lib.hid rfl⟩
  have HB : Hid (Below w.heap.size w W0) := Lib.hid (by rw [← hW0.out]; exact ((Below.refl _ _).alloc (Nat.le_refl _) _).alloc (by simp) _)
  have Z0 : Hid (W0.heap.size = w.heap.size + 1 + 1) := Lib.hid (by rw [← hW0.out]; simp only [World.size_alloc])
  have HX_x : Hid (Bx W0 w.heap.size #[.slice X0 n cX0, .slice X1 n cX1] 26) := Lib.hid (by rw [← hW0.out]; exact (Bx.new w _ _).alloc _)
  have HX_R : Hid (Bx W0 (w.heap.size + 1) #[.slice none 0 0, .slice none 0 0] 26) := Lib.hid (by rw [← hW0.out]; have := Bx.new (w.alloc (.cells #[.slice X0 n cX0, .slice X1 n cX1] 26)) #[.slice none 0 0, .slice none 0 0] 26; rw [World.size_alloc] at this; exact this)
  rw [hW0.out]
  clear hW0
  go_cut [7] from 8 (fun p w' => ∃ (bA g s u c3 : Nat) (A4 : Option Addr) (c4 : Nat), p = .pointer (some ⟨bA, 0, none⟩) ∧ Hid (Bx w' bA #[.slice (some ⟨g, 0, none⟩) n c3, .slice A4 n c4] 26) ∧ Hid (OwIntS w' g (g + 1) (.slice (some ⟨g, 0, none⟩) n c3) x0) ∧ Hid (OwIntS w' s u (.slice A4 n c4) (mixL x1 key t))
    ∧ Hid (g + 1 ≤ s ∧ u ≤ w'.heap.size ∧ s ≤ u ∧ bA ≠ g ∧ (bA < s ∨ u ≤ bA) ∧ W0.heap.size ≤ g ∧ W0.heap.size ≤ bA) ∧ Hid (Below w.heap.size w w') ∧ Hid (Bx w' (w.heap.size + 1) #[.slice none 0 0, .slice none 0 0] 26))
  case first =>
    go_wp2
    have hb := HB.out
    have hx_x := HX_x.out
    have hx_R := HX_R.out
    have hc_x_0 : W0.cell? ⟨w.heap.size, 0, none⟩ = some (.slice X0 n cX0) := HX_x.out.cell 0
    have hc_x_1 : W0.cell? ⟨w.heap.size, 1, none⟩ = some (.slice X1 n cX1) := HX_x.out.cell 1
    have nb0 : ∀ o, Below W0.heap.size W0 (W0.alloc o).drew := fun o => nb3 (o := o) (Below.refl _ _)
    have nb0b : ∀ o o', Below W0.heap.size W0 ((W0.alloc o).alloc o').drew := fun o o' => below_drew (((Below.refl _ _).alloc (Nat.le_refl _) o).alloc (by simp) o')
    have stq0 : True := trivial
    have hal : ∀ o, Below w.heap.size w (W0.alloc o).drew ∧ ((W0.alloc o).drew).cell? ⟨w.heap.size, 0, none⟩ = some (.slice X0 n cX0) ∧ ((W0.alloc o).drew).cell? ⟨w.heap.size, 1, none⟩ = some (.slice X1 n cX1) := fun o => ⟨(hb.alloc hb.size o).drew, (hx_x.alloc o).cell 0, (hx_x.alloc o).cell 1⟩
    have hal2 : ∀ o o', Below w.heap.size w ((W0.alloc o).alloc o').drew ∧ (((W0.alloc o).alloc o').drew).cell? ⟨w.heap.size, 0, none⟩ = some (.slice X0 n cX0) ∧ (((W0.alloc o).alloc o').drew).cell? ⟨w.heap.size, 1, none⟩ = some (.slice X1 n cX1) := fun o o' => ⟨((hb.alloc hb.size o).alloc (hb.alloc hb.size o).size o').drew, ((hx_x.alloc o).alloc o').cell 0, ((hx_x.alloc o).alloc o').cell 1⟩
    go_region_held3 (fun w' => Below w.heap.size w w' ∧ (w').cell? ⟨w.heap.size, 0, none⟩ = some (.slice X0 n cX0) ∧ (w').cell? ⟨w.heap.size, 1, none⟩ = some (.slice X1 n cX1))
      (first | exact ⟨hb, hc_x_0, hc_x_1⟩ | exact ⟨hb.drew, hc_x_0, hc_x_1⟩ | exact hal _ | exact hal2 _ _ | exact hst _ _)
      (first
        | (have stq1 := stq0
           clear stq0
           have z0 := Z0.out
           have zdrew : W0.drew.heap.size = W0.heap.size := rfl
           go_loud (refine step_cpI (w := W0) rfl (.tmp 8) (.tmp 10) rfl rfl rfl ?hB ?hlit (rd_at HX0.out (by first | exact hb | exact hb.drew | exact hb.alloc hb.size _ | exact (hb.alloc hb.size _).drew | exact ((hb.alloc hb.size _).alloc (hb.alloc hb.size _).size _).drew)) ?hbel (by omega) q3 ?_)
           case hB => omega
           case hlit => first | exact lit_a _ _ | exact lit_b _ _ _ | exact lit_c _ _ _
           case hbel => first | exact nb0 _ | exact nb0b _ _
           intro g c3 w1 ho0 hb_ hg_ hg0 hg1
           have z1 := hb_.size
           try simp only [World.size_alloc] at z1
           have hbk : Below W0.heap.size W0 w1 := (by first | exact hb_ | exact nb1 hb_ | exact nb2 hb_ | exact nb3 hb_)
           replace hb : Below w.heap.size w w1 := up_hb hb hbk
           replace hx_x : Bx w1 (w.heap.size) #[.slice X0 n cX0, .slice X1 n cX1] 26 := up_bx hx_x hbk
           replace hx_R : Bx w1 (w.heap.size + 1) #[.slice none 0 0, .slice none 0 0] 26 := up_bx hx_R hbk
           replace hc_x_0 : w1.cell? ⟨w.heap.size, 0, none⟩ = some (.slice X0 n cX0) := hx_x.cell 0
           replace hc_x_1 : w1.cell? ⟨w.heap.size, 1, none⟩ = some (.slice X1 n cX1) := hx_x.cell 1
           try simp only [World.size_alloc] at ho0
           clear hal hal2
           have hal : ∀ o, Below w.heap.size w (w1.alloc o) ∧ ((w1.alloc o)).cell? ⟨w.heap.size, 0, none⟩ = some (.slice X0 n cX0) ∧ ((w1.alloc o)).cell? ⟨w.heap.size, 1, none⟩ = some (.slice X1 n cX1) := fun o => ⟨hb.alloc hb.size o, (hx_x.alloc o).cell 0, (hx_x.alloc o).cell 1⟩
           have hal2 : True := trivial
           clear hbk
           first | (have hA_ : ∃ b, Hid (W0.heap.size = b) ∧ Bx w1 b #[.slice none 0 0, .slice none 0 0] 26 := ⟨_, Lib.hid rfl, up_bxg (show Bx _ W0.heap.size #[.slice none 0 0, .slice none 0 0] 26 from lit_c _ _ _) hg_ (by omega)⟩; obtain ⟨bA, zA, HA⟩ := hA_; rw [zA.out]; have zl := HA.lt) | (have hA_ : ∃ b, Hid (W0.heap.size + 1 = b) ∧ Bx w1 b #[.slice none 0 0, .slice none 0 0] 26 := ⟨_, Lib.hid rfl, up_bxg (show Bx _ (W0.heap.size + 1) #[.slice none 0 0, .slice none 0 0] 26 from lit_b _ _ _) hg_ (by omega)⟩; obtain ⟨bA, zA, HA⟩ := hA_; rw [zA.out]; have zl := HA.lt) | skip
           clear hg_
           clear hb_
           clear zdrew z0)
        | (have stq2 := stq1
           clear stq1
           have z0 := Z0.out
           have zdrew : W0.drew.heap.size = W0.heap.size := rfl
           go_at_call 104
           refine (s_l10Mix X1 A n cX1 n c x1 key t _ (rd_at HX1.out (by first | exact hb | exact hb.drew | exact hb.alloc hb.size _ | exact (hb.alloc hb.size _).drew | exact ((hb.alloc hb.size _).alloc (hb.alloc hb.size _).size _).drew)) (rd_at HK0.out (by first | exact hb | exact hb.drew | exact hb.alloc hb.size _ | exact (hb.alloc hb.size _).drew | exact ((hb.alloc hb.size _).alloc (hb.alloc hb.size _).size _).drew)) N1.out KN.out q7 rfl t0 t1).mono ?_
           rintro e w2 ⟨A4, c4, rfl, ho1, hb_⟩
           have z2 := hb_.size
           try simp only [World.size_alloc] at z2
           have hbk : Below w1.heap.size w1 w2 := (by first | exact hb_ | exact nb1 hb_ | exact nb2 hb_ | exact nb3 hb_)
           replace hb : Below w.heap.size w w2 := up_hb hb hbk
           replace hx_x : Bx w2 (w.heap.size) #[.slice X0 n cX0, .slice X1 n cX1] 26 := up_bx hx_x hbk
           replace hx_R : Bx w2 (w.heap.size + 1) #[.slice none 0 0, .slice none 0 0] 26 := up_bx hx_R hbk
           replace hc_x_0 : w2.cell? ⟨w.heap.size, 0, none⟩ = some (.slice X0 n cX0) := hx_x.cell 0
           replace hc_x_1 : w2.cell? ⟨w.heap.size, 1, none⟩ = some (.slice X1 n cX1) := hx_x.cell 1
           replace ho0 := ho0.below hbk (by omega)
           try simp only [World.size_alloc] at ho1
           first | (have hA_ : ∃ b, Hid (w1.heap.size = b) ∧ Bx w2 b #[.slice none 0 0, .slice none 0 0] 26 := ⟨_, Lib.hid rfl, up_bx (Bx.new _ _ _) hb_⟩; obtain ⟨bA, zA, HA⟩ := hA_; rw [zA.out]; have zl := HA.lt) | (replace HA := up_bx HA hbk) | skip
           clear hal hal2
           have hal : ∀ o, Below w.heap.size w (w2.alloc o) ∧ ((w2.alloc o)).cell? ⟨w.heap.size, 0, none⟩ = some (.slice X0 n cX0) ∧ ((w2.alloc o)).cell? ⟨w.heap.size, 1, none⟩ = some (.slice X1 n cX1) := fun o => ⟨hb.alloc hb.size o, (hx_x.alloc o).cell 0, (hx_x.alloc o).cell 1⟩
           have hal2 : True := trivial
           clear hbk
           clear hb_
           first | (have zA_ := zA.out; have hr0 : w2.cell? ⟨bA, 0, none⟩ = some (.slice none 0 0) := HA.cell 0; have hf0 : w2.frozen? ⟨bA, 0, none⟩ = false := HA.free 0; have hr1 : w2.cell? ⟨bA, 1, none⟩ = some (.slice none 0 0) := HA.cell 1; have hf1 : w2.frozen? ⟨bA, 1, none⟩ = false := HA.free 1; have hst : ∀ a b, Below w.heap.size w ((w2.setCell ⟨bA, 0, none⟩ a).setCell ⟨bA, 1, none⟩ b) ∧ ((w2.setCell ⟨bA, 0, none⟩ a).setCell ⟨bA, 1, none⟩ b).cell? ⟨w.heap.size, 0, none⟩ = some (.slice X0 n cX0) ∧ ((w2.setCell ⟨bA, 0, none⟩ a).setCell ⟨bA, 1, none⟩ b).cell? ⟨w.heap.size, 1, none⟩ = some (.slice X1 n cX1) := fun a b => ⟨st_below hb (by omega), st_cell (st_kept w2 bA _ _) hx_x (by omega) 0, st_cell (st_kept w2 bA _ _) hx_x (by omega) 1⟩; clear zA_) | skip
           clear zdrew z0))
    all_goals clear hal hal2
    all_goals (first
      | (clear hst
         go_wp2
         go_meet
         case rel =>
           have z0 := Z0.out
           have zA_ := zA.out
           have hne := own_typI ho0 HA (by decide) q3
           have hk := st_kept w2 bA (.slice (some ⟨g, 0, none⟩) n c3) (.slice A4 n c4)
           have hs := hk.size
           have o0 := ho0.kept hk (by omega) (by omega)
           have o1 := ho1.kept hk (by omega) (by omega)
           first
             | exact ⟨bA, g, w1.heap.size, w2.heap.size, c3, A4, c4, rfl, Lib.hid (st_done HA), Lib.hid o0, Lib.hid o1, Lib.hid ⟨by omega, by omega, by omega, hne, by omega, by omega, by omega⟩, Lib.hid (st_below hb (by omega)), Lib.hid (hx_R.kept hk (by omega))⟩
             | exact ⟨bA, g, w1.heap.size + 1, w2.heap.size, c3, A4, c4, rfl, Lib.hid (st_done HA), Lib.hid o0, Lib.hid o1, Lib.hid ⟨by omega, by omega, by omega, hne, by omega, by omega, by omega⟩, Lib.hid (st_below hb (by omega)), Lib.hid (hx_R.kept hk (by omega))⟩)
      | (go_wp2
         go_meet
         case rel =>
           have z0 := Z0.out
           have ha : Below w2.heap.size w2 (w2.alloc (.cells #[.slice (some ⟨g, 0, none⟩) n c3, .slice A4 n c4] 26)) := (Below.refl _ _).alloc (Nat.le_refl _) _
           have hs := ha.size
           exact ⟨w2.heap.size, g, _, _, c3, A4, c4, rfl, Lib.hid (Bx.new _ _ _), Lib.hid (ho0.below ha (by omega)), Lib.hid (ho1.below ha (by omega)), Lib.hid ⟨by omega, by omega, by omega, by omega, by omega, by omega, by omega⟩, Lib.hid (hb.alloc hb.size _), Lib.hid (up_bx hx_R ha)⟩))
  case rest =>
    obtain ⟨bA, g, s, u, c3, A4, c4, rfl, HA, HO0, HO1, HI, HB2, HR⟩ := hcut
    obtain ⟨_, B0, k0, e0, hv, ho⟩ := HO0.out
    injection hv with h1 h2 h3
    subst h1 h2 h3
    obtain ⟨z, hcz, HZ⟩ := ho.intAt (k := 0) q3
    have z1 : 0 ≤ z := by rw [HZ.out]; exact (N0.out 0).1
    have z2 : z ≤ 112 := by rw [HZ.out]; exact (N0.out 0).2
    have hf := ho.free q3 0
    have b0 : wc.cell? ⟨bA, 0, none⟩ = some (.slice (some ⟨g, 0, none⟩) n c3) := HA.out.cell 0
    have HOS := Lib.hid (ho.set 0 (.int .i64 ((z + t) % 113)))
    rw [cI_set] at HOS
    have HSV : Hid (x0.set 0 ((z + t) % 113) = shiftV x0 t) := Lib.hid (by rw [shiftV, HZ.out])
    rw [HSV.out] at HOS
    have HAS := Lib.hid (HA.out.other ⟨g, 0, none⟩ (.int .i64 ((z + t) % 113)) (by have := HI.out; simp only; omega))
    have HRS := Lib.hid (HR.out.other ⟨g, 0, none⟩ (.int .i64 ((z + t) % 113)) (by have := HI.out; have := Z0.out; simp only; omega))
    have HKS : Hid (Kept g (g + 1) wc (wc.setCell ⟨g, 0, none⟩ (.int .i64 ((z + t) % 113)))) := Lib.hid ((Kept.refl g (g + 1) wc).setCell (p := ⟨g, 0, none⟩) (Nat.le_refl _) (Nat.lt_succ_self _) _)
    have i0 : (0 : Int) < (n : Int) := by omega
    have iw : IntKind.i64.wrap (z + t) = z + t := IntWalk.i64_in _ (by omega)
    have im : (z + t).tmod 113 = (z + t) % 113 := Int.tmod_eq_emod_of_nonneg (by omega)
    clear ho HB HX_x HX_R
    go_wp2
    go_still_tail 9, (by kernel_rfl)
    change wpList _ _ _ _ _ wc.drew
    go_upto_region 3 with (fail)
    obtain ⟨W3, hW3⟩ : ∃ W, Hid ((wc.setCell ⟨g, 0, none⟩ (.int .i64 ((z + t) % 113))).drew = W) := ⟨_, Lib.hid rfl⟩
    have HA3 : Hid (Bx W3 bA #[.slice (some ⟨g, 0, none⟩) n c3, .slice A4 n c4] 26) := Lib.hid (by rw [← hW3.out]; exact HAS.out)
    have HO3 : Hid (Ow W3 g (g + 1) 3 1 (some ⟨g, 0, none⟩) n c3 (cI (shiftV x0 t))) := Lib.hid (by rw [← hW3.out]; exact HOS.out)
    have HR3 : Hid (Bx W3 (w.heap.size + 1) #[.slice none 0 0, .slice none 0 0] 26) := Lib.hid (by rw [← hW3.out]; exact HRS.out)
    have HK3 : Hid (Kept g (g + 1) wc W3) := Lib.hid (by rw [← hW3.out]; exact HKS.out.drew)
    have HO4 : Hid (OwIntS W3 s u (.slice A4 n c4) (mixL x1 key t)) := Lib.hid (HO1.out.kept HK3.out (by have := HI.out; omega) (by have := HI.out; omega))
    have HB3 : Hid (Below w.heap.size w W3) := Lib.hid (HB2.out.trans ((HK3.out.to_below (by have := HI.out; omega)).mono (by have := HI.out; have := Z0.out; omega)))
    rw [hW3.out]
    have d0 : W3.cell? ⟨bA, 0, none⟩ = some (.slice (some ⟨g, 0, none⟩) n c3) := HA3.out.cell 0
    have d1 : W3.cell? ⟨bA, 1, none⟩ = some (.slice A4 n c4) := HA3.out.cell 1
    have r0 : W3.cell? ⟨w.heap.size + 1, 0, none⟩ = some (.slice none 0 0) := HR3.out.cell 0
    have r1 : W3.cell? ⟨w.heap.size + 1, 1, none⟩ = some (.slice none 0 0) := HR3.out.cell 1
    have f0 : W3.frozen? ⟨w.heap.size + 1, 0, none⟩ = false := HR3.out.free 0
    have f1 : W3.frozen? ⟨w.heap.size + 1, 1, none⟩ = false := HR3.out.free 1
    clear hcz hf b0 iw im
    go_wp2
    have hk := st_kept W3 (w.heap.size + 1) (.slice (some ⟨g, 0, none⟩) n c3) (.slice A4 n c4)
    have z3 := hk.size
    have z4 := Z0.out
    have z5 := HK3.out.size
    have zi := HI.out
    have o0 : OwIntS W3 g (g + 1) (.slice (some ⟨g, 0, none⟩) n c3) (shiftV x0 t) := ⟨by have := HO3.out.len; omega, _, _, _, rfl, HO3.out⟩
    have l0 : (shiftV x0 t).length = n := by rw [shiftV, List.length_set]; exact HL0.out
    exact bodyPost_ret (v := .agg #[.slice (some ⟨g, 0, none⟩) n c3, .slice A4 n c4]) (resM rfl rfl (st_done HR3.out)) rfl ⟨_, rfl, (OwMarked.of (o0.kept hk (by omega) (by omega)) (HO4.out.kept hk (by omega) (by omega)) (by omega) (by omega) (by omega) (by rw [l0, mixL_length, HL1.out]; omega)).widen (by omega) (by omega), st_below HB3.out (by omega)⟩
end Go.Proofs.Ytpejigfndkdhcaa

/- Chapter 10: MarkedAdd, MarkedScale, MarkedShift of both sides. Made by tools/gen10/laws.py. -/
namespace Go.Proofs.Ytpejigfndkdhcaa
open Go.RowKit
set_option maxRecDepth 100000

def R_MarkedAdd_1 (x y : MkD) : Bool := markB x && (markB y && decide (y.1.length = x.1.length))
def R_MarkedAdd_0 (x y : MkD) : MkD := if R_MarkedAdd_1 x y = true then plusD x y 1 else ([], [])
def R_MarkedScale_1 (x : MkD) (t : Int) : Bool := markB x && numB t
def R_MarkedScale_0 (x : MkD) (t : Int) : MkD := if R_MarkedScale_1 x t = true then scaD x t else ([], [])
def R_MarkedShift_1 (x : MkD) (t : Int) (key : List Int) : Bool := markB x && (numB t && (decide (key.length = x.1.length) && numsB key))
def R_MarkedShift_0 (x : MkD) (t : Int) (key : List Int) : MkD := if R_MarkedShift_1 x t key = true then shiftD x t key else ([], [])
theorem scaD_is {x : MkD} {t : Int} (h : markB x = true) : plusD x x ((t - 1) % 113) = scaD x t := by
  obtain ⟨_, _, h1, h2⟩ := markB_iff.1 h
  exact Prod.ext (sca_is (nums_of_B h1)) (sca_is (nums_of_B h2))
theorem shiftD_is2 {x : MkD} {t : Int} {key : List Int} (h : markB x = true) (hk : key.length = x.1.length) : plusD x (scaD (oneL x.1.length, key) t) 1 = shiftD x t key := by
  obtain ⟨h0, h1, h2, h3⟩ := markB_iff.1 h
  exact Prod.ext (shift_is (nums_of_B h2) (by omega)) (mix_of_sca (by rw [hk, h1]))
theorem shift_no {x : MkD} {t : Int} {key : List Int} {n : Nat} (h : (markB x && decide ((x.1.length : Int) = (n : Int))) = false) (hk : key.length = n) : R_MarkedShift_1 x t key = false := by
  cases e1 : markB x
  · simp [R_MarkedShift_1, e1]
  · rw [e1, Bool.true_and, decide_eq_false_iff_not] at h
    have : ¬ key.length = x.1.length := by omega
    simp [R_MarkedShift_1, this]
theorem one_ok {n : Nat} {key : List Int} (hl : key.length = n) (h : 2 ≤ n ∧ n ≤ 7) (hk : numsB key = true) : markB (oneL n, key) = true := by
  subst hl
  exact markB_one h hk

set_option maxHeartbeats 8000000 in
theorem X_s_MarkedAdd (v u : Value) (x y : MkD) (w : World) (h : RdMarked w w.heap.size v x) (k : RdMarked w w.heap.size u y) (hs : szMarked x ≤ 1048576) (hs2 : szMarked y ≤ 1048576) :
    Calls Try.prog 12 #[v, u] w fun e w' => ∃ g, e = .returned (.tuple #[g, .bool (R_MarkedAdd_1 x y)]) ∧ OwMarked w' w.heap.size w'.heap.size g (R_MarkedAdd_0 x y) ∧ Below w.heap.size w w' := by
  obtain ⟨X0, nX, cX0, X1, nX1, cX1, rfl, aX0, aX1, lX0, lX1⟩ := h.open_
  obtain ⟨Y0, nY, cY0, Y1, nY1, cY1, rfl, aY0, aY1, lY0, lY1⟩ := k.open_
  have HX := Lib.hid h
  have HY := Lib.hid k
  have HL := Lib.hid (And.intro lX0 lY0)
  have no : R_MarkedAdd_1 x y = false → Hid (R_MarkedAdd_1 x y = false ∧ R_MarkedAdd_0 x y = ([], [])) := fun h => Lib.hid ⟨h, by unfold R_MarkedAdd_0; rw [h]; rfl⟩
  clear h k aX0 aX1 aY0 aY1 lX0 lX1 lY0 lY1
  go_enter Try.func12, Try.ntmps12
  go_wp2_with fail
  obtain ⟨W0, hW0⟩ : ∃ W, Hid ((((w.alloc (.cells #[.slice X0 nX cX0, .slice X1 nX1 cX1] 26)).alloc (.cells #[.slice Y0 nY cY0, .slice Y1 nY1 cY1] 26)).alloc (.cells #[.slice none 0 0, .slice none 0 0] 26)) = W) := ⟨_, Lib.hid rfl⟩
  have hb : Below w.heap.size w W0 := by rw [← hW0.out]; exact (((Below.refl _ _).alloc (Nat.le_refl _) _).alloc (by simp) _).alloc (by simp; omega) _
  have Z0 : Hid (W0.heap.size = w.heap.size + 1 + 1 + 1) := Lib.hid (by rw [← hW0.out]; simp only [World.size_alloc])
  have hx_x : Bx W0 (w.heap.size) #[.slice X0 nX cX0, .slice X1 nX1 cX1] 26 := by rw [← hW0.out]; have := Bx.new w #[.slice X0 nX cX0, .slice X1 nX1 cX1] 26; exact ((this.alloc _).alloc _)
  have hx_y : Bx W0 (w.heap.size + 1) #[.slice Y0 nY cY0, .slice Y1 nY1 cY1] 26 := by rw [← hW0.out]; have := Bx.new (w.alloc (.cells #[.slice X0 nX cX0, .slice X1 nX1 cX1] 26)) #[.slice Y0 nY cY0, .slice Y1 nY1 cY1] 26; rw [World.size_alloc] at this; exact (this.alloc _)
  have hx_R : Bx W0 (w.heap.size + 1 + 1) #[.slice none 0 0, .slice none 0 0] 26 := by rw [← hW0.out]; have := Bx.new ((w.alloc (.cells #[.slice X0 nX cX0, .slice X1 nX1 cX1] 26)).alloc (.cells #[.slice Y0 nY cY0, .slice Y1 nY1 cY1] 26)) #[.slice none 0 0, .slice none 0 0] 26; rw [World.size_alloc, World.size_alloc] at this; exact this
  rw [hW0.out]
  clear hW0
  refine (X_s_MarkedOk _ x _ (rdm_at HX.out hb) hs).mono ?_
  rintro e w1 ⟨rfl, hb_⟩
  have z1 := hb_.size
  replace hb : Below w.heap.size w w1 := up_hb hb hb_
  replace hx_x := up_bx hx_x hb_
  replace hx_y := up_bx hx_y hb_
  replace hx_R := up_bx hx_R hb_
  clear hb_
  cases e1 : markB x
  · have HF := no (by simp [R_MarkedAdd_1, e1])
    have c_R0 : w1.cell? ⟨w.heap.size + 1 + 1, 0, none⟩ = some (.slice none 0 0) := hx_R.cell 0
    have f_R0 : w1.frozen? ⟨w.heap.size + 1 + 1, 0, none⟩ = false := hx_R.free 0
    have c_R1 : w1.cell? ⟨w.heap.size + 1 + 1, 1, none⟩ = some (.slice none 0 0) := hx_R.cell 1
    have f_R1 : w1.frozen? ⟨w.heap.size + 1 + 1, 1, none⟩ = false := hx_R.free 1
    go_wp2
    have z0 := Z0.out
    have hk := st_kept w1 (w.heap.size + 1 + 1) (.slice none 0 0) (.slice none 0 0)
    have hkz := hk.size
    exact bodyPost_ret (v := .tuple #[.agg #[.slice none 0 0, .slice none 0 0], .bool false]) (resM2 rfl rfl rfl (st_done hx_R)) rfl ⟨_, by rw [HF.out.1], by rw [HF.out.2]; exact OwMarked.nil_ _ _ _ (by have := hb.size; omega), st_below hb (by omega)⟩
  have c_y0 : w1.cell? ⟨w.heap.size + 1, 0, none⟩ = some (.slice Y0 nY cY0) := hx_y.cell 0
  have c_y1 : w1.cell? ⟨w.heap.size + 1, 1, none⟩ = some (.slice Y1 nY1 cY1) := hx_y.cell 1
  go_wp2_with fail
  clear c_y0 c_y1
  refine (X_s_MarkedOk _ y _ (rdm_at HY.out hb) hs2).mono ?_
  rintro e w2 ⟨rfl, hb_⟩
  have z2 := hb_.size
  replace hb : Below w.heap.size w w2 := up_hb hb hb_
  replace hx_x := up_bx hx_x hb_
  replace hx_y := up_bx hx_y hb_
  replace hx_R := up_bx hx_R hb_
  clear hb_
  cases e2 : markB y
  · have HF := no (by simp [R_MarkedAdd_1, e2])
    have c_R0 : w2.cell? ⟨w.heap.size + 1 + 1, 0, none⟩ = some (.slice none 0 0) := hx_R.cell 0
    have f_R0 : w2.frozen? ⟨w.heap.size + 1 + 1, 0, none⟩ = false := hx_R.free 0
    have c_R1 : w2.cell? ⟨w.heap.size + 1 + 1, 1, none⟩ = some (.slice none 0 0) := hx_R.cell 1
    have f_R1 : w2.frozen? ⟨w.heap.size + 1 + 1, 1, none⟩ = false := hx_R.free 1
    go_wp2
    have z0 := Z0.out
    have hk := st_kept w2 (w.heap.size + 1 + 1) (.slice none 0 0) (.slice none 0 0)
    have hkz := hk.size
    exact bodyPost_ret (v := .tuple #[.agg #[.slice none 0 0, .slice none 0 0], .bool false]) (resM2 rfl rfl rfl (st_done hx_R)) rfl ⟨_, by rw [HF.out.1], by rw [HF.out.2]; exact OwMarked.nil_ _ _ _ (by have := hb.size; omega), st_below hb (by omega)⟩
  by_cases hl : nX = nY
  rotate_left
  · have HF := no (by have := HL.out; simp [R_MarkedAdd_1, this.1, this.2]; intro _ _ h9; exact hl h9.symm)
    have q1 : ((nX : Int) == (nY : Int)) = false := by rw [beq_eq_false_iff_ne]; omega
    have q2 : (nX == nY) = false := by rw [beq_eq_false_iff_ne]; omega
    have c_x0 : w2.cell? ⟨w.heap.size, 0, none⟩ = some (.slice X0 nX cX0) := hx_x.cell 0
    have c_y0 : w2.cell? ⟨w.heap.size + 1, 0, none⟩ = some (.slice Y0 nY cY0) := hx_y.cell 0
    have c_R0 : w2.cell? ⟨w.heap.size + 1 + 1, 0, none⟩ = some (.slice none 0 0) := hx_R.cell 0
    have f_R0 : w2.frozen? ⟨w.heap.size + 1 + 1, 0, none⟩ = false := hx_R.free 0
    have c_R1 : w2.cell? ⟨w.heap.size + 1 + 1, 1, none⟩ = some (.slice none 0 0) := hx_R.cell 1
    have f_R1 : w2.frozen? ⟨w.heap.size + 1 + 1, 1, none⟩ = false := hx_R.free 1
    go_wp2
    have z0 := Z0.out
    have hk := st_kept w2 (w.heap.size + 1 + 1) (.slice none 0 0) (.slice none 0 0)
    have hkz := hk.size
    exact bodyPost_ret (v := .tuple #[.agg #[.slice none 0 0, .slice none 0 0], .bool false]) (resM2 rfl rfl rfl (st_done hx_R)) rfl ⟨_, by rw [HF.out.1], by rw [HF.out.2]; exact OwMarked.nil_ _ _ _ (by have := hb.size; omega), st_below hb (by omega)⟩
  subst hl
  have HF : Hid (R_MarkedAdd_1 x y = true ∧ R_MarkedAdd_0 x y = plusD x y 1) := Lib.hid (by have h1 : R_MarkedAdd_1 x y = true := (by have := HL.out; simp [R_MarkedAdd_1, e1, e2, this.1, this.2]); exact ⟨h1, by unfold R_MarkedAdd_0; rw [if_pos h1]⟩)
  have HE1 := Lib.hid e1
  have HE2 := Lib.hid e2
  clear e1 e2 no
  have c_x0 : w2.cell? ⟨w.heap.size, 0, none⟩ = some (.slice X0 nX cX0) := hx_x.cell 0
  have c_x1 : w2.cell? ⟨w.heap.size, 1, none⟩ = some (.slice X1 nX1 cX1) := hx_x.cell 1
  have c_y0 : w2.cell? ⟨w.heap.size + 1, 0, none⟩ = some (.slice Y0 nX cY0) := hx_y.cell 0
  have c_y1 : w2.cell? ⟨w.heap.size + 1, 1, none⟩ = some (.slice Y1 nY1 cY1) := hx_y.cell 1
  go_wp2_with fail
  clear c_x0 c_x1 c_y0 c_y1
  refine (s_l10Plus _ _ x y 1 _ (rdm_at HX.out hb) (rdm_at HY.out hb) HE1.out HE2.out (by have := HL.out; omega) (by omega) (by omega)).mono ?_
  rintro e w3 ⟨g, rfl, ho, hb_⟩
  have z3 := hb_.size
  replace hb : Below w.heap.size w w3 := up_hb hb hb_
  replace hx_x := up_bx hx_x hb_
  replace hx_y := up_bx hx_y hb_
  replace hx_R := up_bx hx_R hb_
  clear hb_
  obtain ⟨A3, n3, c3, A4, n4, c4, rfl⟩ := ho.open_
  have c_R0 : w3.cell? ⟨w.heap.size + 1 + 1, 0, none⟩ = some (.slice none 0 0) := hx_R.cell 0
  have f_R0 : w3.frozen? ⟨w.heap.size + 1 + 1, 0, none⟩ = false := hx_R.free 0
  have c_R1 : w3.cell? ⟨w.heap.size + 1 + 1, 1, none⟩ = some (.slice none 0 0) := hx_R.cell 1
  have f_R1 : w3.frozen? ⟨w.heap.size + 1 + 1, 1, none⟩ = false := hx_R.free 1
  go_wp2
  have z0 := Z0.out
  have hk := st_kept w3 (w.heap.size + 1 + 1) (.slice A3 n3 c3) (.slice A4 n4 c4)
  have hkz := hk.size
  exact bodyPost_ret (v := .tuple #[.agg #[.slice A3 n3 c3, .slice A4 n4 c4], .bool true]) (resM2 rfl rfl rfl (st_done hx_R)) rfl ⟨_, by rw [HF.out.1], by rw [HF.out.2]; exact (ho.kept hk (by omega) (by omega)).widen (by omega) (by omega), st_below hb (by omega)⟩

set_option maxHeartbeats 8000000 in
theorem X_i_MarkedAdd (v u : Value) (x y : MkD) (w : World) (h : RdMarked w w.heap.size v x) (k : RdMarked w w.heap.size u y) (hs : szMarked x ≤ 1048576) (hs2 : szMarked y ≤ 1048576) :
    Calls Try.prog 14 #[v, u] w fun e w' => ∃ g, e = .returned (.tuple #[g, .bool (R_MarkedAdd_1 x y)]) ∧ OwMarked w' w.heap.size w'.heap.size g (R_MarkedAdd_0 x y) ∧ Below w.heap.size w w' := by
  obtain ⟨X0, nX, cX0, X1, nX1, cX1, rfl, aX0, aX1, lX0, lX1⟩ := h.open_
  obtain ⟨Y0, nY, cY0, Y1, nY1, cY1, rfl, aY0, aY1, lY0, lY1⟩ := k.open_
  have HX := Lib.hid h
  have HY := Lib.hid k
  have HL := Lib.hid (And.intro lX0 lY0)
  have no : R_MarkedAdd_1 x y = false → Hid (R_MarkedAdd_1 x y = false ∧ R_MarkedAdd_0 x y = ([], [])) := fun h => Lib.hid ⟨h, by unfold R_MarkedAdd_0; rw [h]; rfl⟩
  clear h k aX0 aX1 aY0 aY1 lX0 lX1 lY0 lY1
  go_enter Try.func14, Try.ntmps14
  go_wp2_with fail
  obtain ⟨W0, hW0⟩ : ∃ W, Hid ((((w.alloc (.cells #[.slice X0 nX cX0, .slice X1 nX1 cX1] 26)).alloc (.cells #[.slice Y0 nY cY0, .slice Y1 nY1 cY1] 26)).alloc (.cells #[.slice none 0 0, .slice none 0 0] 26)) = W) := ⟨_, Lib.hid rfl⟩
  have hb : Below w.heap.size w W0 := by rw [← hW0.out]; exact (((Below.refl _ _).alloc (Nat.le_refl _) _).alloc (by simp) _).alloc (by simp; omega) _
  have Z0 : Hid (W0.heap.size = w.heap.size + 1 + 1 + 1) := Lib.hid (by rw [← hW0.out]; simp only [World.size_alloc])
  have hx_x : Bx W0 (w.heap.size) #[.slice X0 nX cX0, .slice X1 nX1 cX1] 26 := by rw [← hW0.out]; have := Bx.new w #[.slice X0 nX cX0, .slice X1 nX1 cX1] 26; exact ((this.alloc _).alloc _)
  have hx_y : Bx W0 (w.heap.size + 1) #[.slice Y0 nY cY0, .slice Y1 nY1 cY1] 26 := by rw [← hW0.out]; have := Bx.new (w.alloc (.cells #[.slice X0 nX cX0, .slice X1 nX1 cX1] 26)) #[.slice Y0 nY cY0, .slice Y1 nY1 cY1] 26; rw [World.size_alloc] at this; exact (this.alloc _)
  have hx_R : Bx W0 (w.heap.size + 1 + 1) #[.slice none 0 0, .slice none 0 0] 26 := by rw [← hW0.out]; have := Bx.new ((w.alloc (.cells #[.slice X0 nX cX0, .slice X1 nX1 cX1] 26)).alloc (.cells #[.slice Y0 nY cY0, .slice Y1 nY1 cY1] 26)) #[.slice none 0 0, .slice none 0 0] 26; rw [World.size_alloc, World.size_alloc] at this; exact this
  rw [hW0.out]
  clear hW0
  refine (X_i_MarkedOk _ x _ (rdm_at HX.out hb) hs).mono ?_
  rintro e w1 ⟨rfl, hb_⟩
  have z1 := hb_.size
  replace hb : Below w.heap.size w w1 := up_hb hb hb_
  replace hx_x := up_bx hx_x hb_
  replace hx_y := up_bx hx_y hb_
  replace hx_R := up_bx hx_R hb_
  clear hb_
  cases e1 : markB x
  · have HF := no (by simp [R_MarkedAdd_1, e1])
    have c_R0 : w1.cell? ⟨w.heap.size + 1 + 1, 0, none⟩ = some (.slice none 0 0) := hx_R.cell 0
    have f_R0 : w1.frozen? ⟨w.heap.size + 1 + 1, 0, none⟩ = false := hx_R.free 0
    have c_R1 : w1.cell? ⟨w.heap.size + 1 + 1, 1, none⟩ = some (.slice none 0 0) := hx_R.cell 1
    have f_R1 : w1.frozen? ⟨w.heap.size + 1 + 1, 1, none⟩ = false := hx_R.free 1
    go_wp2
    have z0 := Z0.out
    have hk := st_kept w1 (w.heap.size + 1 + 1) (.slice none 0 0) (.slice none 0 0)
    have hkz := hk.size
    exact bodyPost_ret (v := .tuple #[.agg #[.slice none 0 0, .slice none 0 0], .bool false]) (resM2 rfl rfl rfl (st_done hx_R)) rfl ⟨_, by rw [HF.out.1], by rw [HF.out.2]; exact OwMarked.nil_ _ _ _ (by have := hb.size; omega), st_below hb (by omega)⟩
  have c_x0 : w1.cell? ⟨w.heap.size, 0, none⟩ = some (.slice X0 nX cX0) := hx_x.cell 0
  have c_x1 : w1.cell? ⟨w.heap.size, 1, none⟩ = some (.slice X1 nX1 cX1) := hx_x.cell 1
  have c_y0 : w1.cell? ⟨w.heap.size + 1, 0, none⟩ = some (.slice Y0 nY cY0) := hx_y.cell 0
  have c_y1 : w1.cell? ⟨w.heap.size + 1, 1, none⟩ = some (.slice Y1 nY1 cY1) := hx_y.cell 1
  go_wp2_with fail
  clear c_x0 c_x1 c_y0 c_y1
  refine (i_fits _ y _ _ (rdm_at HY.out hb) hs2).mono ?_
  rintro e w2 ⟨rfl, hb_⟩
  have z2 := hb_.size
  replace hb : Below w.heap.size w w2 := up_hb hb hb_
  replace hx_x := up_bx hx_x hb_
  replace hx_y := up_bx hx_y hb_
  replace hx_R := up_bx hx_R hb_
  clear hb_
  by_cases e2 : (markB y && decide ((y.1.length : Int) = (nX : Int))) = true
  rotate_left
  · have HF := no (by have h9 := HL.out; rw [Bool.not_eq_true] at e2; rw [R_MarkedAdd_1, e1, Bool.true_and, ← e2]; simp only [h9.1]; congr 1; apply decide_eq_decide.2; omega)
    rw [Bool.not_eq_true] at e2
    rw [e2]
    have c_R0 : w2.cell? ⟨w.heap.size + 1 + 1, 0, none⟩ = some (.slice none 0 0) := hx_R.cell 0
    have f_R0 : w2.frozen? ⟨w.heap.size + 1 + 1, 0, none⟩ = false := hx_R.free 0
    have c_R1 : w2.cell? ⟨w.heap.size + 1 + 1, 1, none⟩ = some (.slice none 0 0) := hx_R.cell 1
    have f_R1 : w2.frozen? ⟨w.heap.size + 1 + 1, 1, none⟩ = false := hx_R.free 1
    go_wp2
    have z0 := Z0.out
    have hk := st_kept w2 (w.heap.size + 1 + 1) (.slice none 0 0) (.slice none 0 0)
    have hkz := hk.size
    exact bodyPost_ret (v := .tuple #[.agg #[.slice none 0 0, .slice none 0 0], .bool false]) (resM2 rfl rfl rfl (st_done hx_R)) rfl ⟨_, by rw [HF.out.1], by rw [HF.out.2]; exact OwMarked.nil_ _ _ _ (by have := hb.size; omega), st_below hb (by omega)⟩
  rw [e2]
  have hl : nX = nY := by have := HL.out; simp only [Bool.and_eq_true, decide_eq_true_eq] at e2; omega
  replace e2 : markB y = true := by simp only [Bool.and_eq_true] at e2; exact e2.1
  subst hl
  have HF : Hid (R_MarkedAdd_1 x y = true ∧ R_MarkedAdd_0 x y = plusD x y 1) := Lib.hid (by have h1 : R_MarkedAdd_1 x y = true := (by have := HL.out; simp [R_MarkedAdd_1, e1, e2, this.1, this.2]); exact ⟨h1, by unfold R_MarkedAdd_0; rw [if_pos h1]⟩)
  have HE1 := Lib.hid e1
  have HE2 := Lib.hid e2
  clear e1 e2 no
  have c_x0 : w2.cell? ⟨w.heap.size, 0, none⟩ = some (.slice X0 nX cX0) := hx_x.cell 0
  have c_x1 : w2.cell? ⟨w.heap.size, 1, none⟩ = some (.slice X1 nX1 cX1) := hx_x.cell 1
  have c_y0 : w2.cell? ⟨w.heap.size + 1, 0, none⟩ = some (.slice Y0 nX cY0) := hx_y.cell 0
  have c_y1 : w2.cell? ⟨w.heap.size + 1, 1, none⟩ = some (.slice Y1 nY1 cY1) := hx_y.cell 1
  go_wp2_with fail
  clear c_x0 c_x1 c_y0 c_y1
  refine (i_Mplus _ _ x y _ (rdm_at HX.out hb) (rdm_at HY.out hb) HE1.out HE2.out (by have := HL.out; omega)).mono ?_
  rintro e w3 ⟨g, rfl, ho, hb_⟩
  have z3 := hb_.size
  replace hb : Below w.heap.size w w3 := up_hb hb hb_
  replace hx_x := up_bx hx_x hb_
  replace hx_y := up_bx hx_y hb_
  replace hx_R := up_bx hx_R hb_
  clear hb_
  obtain ⟨A3, n3, c3, A4, n4, c4, rfl⟩ := ho.open_
  have c_R0 : w3.cell? ⟨w.heap.size + 1 + 1, 0, none⟩ = some (.slice none 0 0) := hx_R.cell 0
  have f_R0 : w3.frozen? ⟨w.heap.size + 1 + 1, 0, none⟩ = false := hx_R.free 0
  have c_R1 : w3.cell? ⟨w.heap.size + 1 + 1, 1, none⟩ = some (.slice none 0 0) := hx_R.cell 1
  have f_R1 : w3.frozen? ⟨w.heap.size + 1 + 1, 1, none⟩ = false := hx_R.free 1
  go_wp2
  have z0 := Z0.out
  have hk := st_kept w3 (w.heap.size + 1 + 1) (.slice A3 n3 c3) (.slice A4 n4 c4)
  have hkz := hk.size
  exact bodyPost_ret (v := .tuple #[.agg #[.slice A3 n3 c3, .slice A4 n4 c4], .bool true]) (resM2 rfl rfl rfl (st_done hx_R)) rfl ⟨_, by rw [HF.out.1], by rw [HF.out.2]; exact (ho.kept hk (by omega) (by omega)).widen (by omega) (by omega), st_below hb (by omega)⟩

set_option maxHeartbeats 8000000 in
theorem X_s_MarkedShift (v u : Value) (x : MkD) (t : Int) (key : List Int) (w : World) (h : RdMarked w w.heap.size v x) (k : RdIntS w w.heap.size u key) (hs : szMarked x ≤ 1048576) (hs2 : szIntS key ≤ 1048576) :
    Calls Try.prog 33 #[v, .int .i64 t, u] w fun e w' => ∃ g, e = .returned (.tuple #[g, .bool (R_MarkedShift_1 x t key)]) ∧ OwMarked w' w.heap.size w'.heap.size g (R_MarkedShift_0 x t key) ∧ Below w.heap.size w w' := by
  obtain ⟨X0, nX, cX0, X1, nX1, cX1, rfl, aX0, aX1, lX0, lX1⟩ := h.open_
  obtain ⟨A, n, c, rfl, _, hk⟩ := k
  have hkl := hk.len
  have hn : n ≤ 1048576 := by unfold szIntS at hs2; omega
  have HX := Lib.hid h
  have HKY := Lib.hid hk
  have HL := Lib.hid (And.intro lX0 hkl)
  have no : R_MarkedShift_1 x t key = false → Hid (R_MarkedShift_1 x t key = false ∧ R_MarkedShift_0 x t key = ([], [])) := fun h => Lib.hid ⟨h, by unfold R_MarkedShift_0; rw [h]; rfl⟩
  clear h aX0 aX1 lX0 lX1 hk hkl hs2
  go_enter Try.func33, Try.ntmps33
  go_wp2_with fail
  obtain ⟨W0, hW0⟩ : ∃ W, Hid (((w.alloc (.cells #[.slice X0 nX cX0, .slice X1 nX1 cX1] 26)).alloc (.cells #[.slice none 0 0, .slice none 0 0] 26)) = W) := ⟨_, Lib.hid rfl⟩
  have hb : Below w.heap.size w W0 := by rw [← hW0.out]; exact ((Below.refl _ _).alloc (Nat.le_refl _) _).alloc (by simp) _
  have Z0 : Hid (W0.heap.size = w.heap.size + 1 + 1) := Lib.hid (by rw [← hW0.out]; simp only [World.size_alloc])
  have hx_x : Bx W0 (w.heap.size) #[.slice X0 nX cX0, .slice X1 nX1 cX1] 26 := by rw [← hW0.out]; have := Bx.new w #[.slice X0 nX cX0, .slice X1 nX1 cX1] 26; exact (this.alloc _)
  have hx_R : Bx W0 (w.heap.size + 1) #[.slice none 0 0, .slice none 0 0] 26 := by rw [← hW0.out]; have := Bx.new (w.alloc (.cells #[.slice X0 nX cX0, .slice X1 nX1 cX1] 26)) #[.slice none 0 0, .slice none 0 0] 26; rw [World.size_alloc] at this; exact this
  rw [hW0.out]
  clear hW0
  refine (X_s_MarkedOk _ x _ (rdm_at HX.out hb) hs).mono ?_
  rintro e w1 ⟨rfl, hb_⟩
  have z1 := hb_.size
  replace hb : Below w.heap.size w w1 := up_hb hb hb_
  replace hx_x := up_bx hx_x hb_
  replace hx_R := up_bx hx_R hb_
  clear hb_
  cases e1 : markB x
  · have HF := no (by simp [R_MarkedShift_1, e1])
    have c_R0 : w1.cell? ⟨w.heap.size + 1, 0, none⟩ = some (.slice none 0 0) := hx_R.cell 0
    have f_R0 : w1.frozen? ⟨w.heap.size + 1, 0, none⟩ = false := hx_R.free 0
    have c_R1 : w1.cell? ⟨w.heap.size + 1, 1, none⟩ = some (.slice none 0 0) := hx_R.cell 1
    have f_R1 : w1.frozen? ⟨w.heap.size + 1, 1, none⟩ = false := hx_R.free 1
    go_wp2
    have z0 := Z0.out
    have hk := st_kept w1 (w.heap.size + 1) (.slice none 0 0) (.slice none 0 0)
    have hkz := hk.size
    exact bodyPost_ret (v := .tuple #[.agg #[.slice none 0 0, .slice none 0 0], .bool false]) (resM2 rfl rfl rfl (st_done hx_R)) rfl ⟨_, by rw [HF.out.1], by rw [HF.out.2]; exact OwMarked.nil_ _ _ _ (by have := hb.size; omega), st_below hb (by omega)⟩
  go_wp2_with fail
  refine (s_NumOk _ _).mono ?_
  rintro e w' ⟨rfl, rfl⟩
  have c_x0 : w1.cell? ⟨w.heap.size, 0, none⟩ = some (.slice X0 nX cX0) := hx_x.cell 0
  have c_x1 : w1.cell? ⟨w.heap.size, 1, none⟩ = some (.slice X1 nX1 cX1) := hx_x.cell 1
  cases e2 : numB t
  · have HF := no (by simp [R_MarkedShift_1, e2])
    have c_R0 : w1.cell? ⟨w.heap.size + 1, 0, none⟩ = some (.slice none 0 0) := hx_R.cell 0
    have f_R0 : w1.frozen? ⟨w.heap.size + 1, 0, none⟩ = false := hx_R.free 0
    have c_R1 : w1.cell? ⟨w.heap.size + 1, 1, none⟩ = some (.slice none 0 0) := hx_R.cell 1
    have f_R1 : w1.frozen? ⟨w.heap.size + 1, 1, none⟩ = false := hx_R.free 1
    go_wp2
    have z0 := Z0.out
    have hk := st_kept w1 (w.heap.size + 1) (.slice none 0 0) (.slice none 0 0)
    have hkz := hk.size
    exact bodyPost_ret (v := .tuple #[.agg #[.slice none 0 0, .slice none 0 0], .bool false]) (resM2 rfl rfl rfl (st_done hx_R)) rfl ⟨_, by rw [HF.out.1], by rw [HF.out.2]; exact OwMarked.nil_ _ _ _ (by have := hb.size; omega), st_below hb (by omega)⟩
  by_cases hl : nX = n
  rotate_left
  · have HF := no (by have := HL.out; simp [R_MarkedShift_1, this.1, this.2]; intro _ _ h9; exact absurd h9.symm hl)
    have q1 : ((n : Int) == (nX : Int)) = false := by rw [beq_eq_false_iff_ne]; omega
    have q2 : (n == nX) = false := by rw [beq_eq_false_iff_ne]; omega
    have c_R0 : w1.cell? ⟨w.heap.size + 1, 0, none⟩ = some (.slice none 0 0) := hx_R.cell 0
    have f_R0 : w1.frozen? ⟨w.heap.size + 1, 0, none⟩ = false := hx_R.free 0
    have c_R1 : w1.cell? ⟨w.heap.size + 1, 1, none⟩ = some (.slice none 0 0) := hx_R.cell 1
    have f_R1 : w1.frozen? ⟨w.heap.size + 1, 1, none⟩ = false := hx_R.free 1
    go_wp2
    have z0 := Z0.out
    have hk := st_kept w1 (w.heap.size + 1) (.slice none 0 0) (.slice none 0 0)
    have hkz := hk.size
    exact bodyPost_ret (v := .tuple #[.agg #[.slice none 0 0, .slice none 0 0], .bool false]) (resM2 rfl rfl rfl (st_done hx_R)) rfl ⟨_, by rw [HF.out.1], by rw [HF.out.2]; exact OwMarked.nil_ _ _ _ (by have := hb.size; omega), st_below hb (by omega)⟩
  have q1 : ((n : Int) == (nX : Int)) = true := by rw [beq_iff_eq]; omega
  have q3 : ((n : Int) != (nX : Int)) = false := by simp only [bne, q1]; rfl
  have HLN := Lib.hid hl
  clear hl
  go_wp2_with fail
  clear c_x0 c_x1
  refine (s_l1In _ _ _ _ _ (rd_at HKY.out hb) hn).mono ?_
  rintro e w' ⟨rfl, rfl⟩
  cases e3 : numsB key
  · have HF := no (by simp [R_MarkedShift_1, e3])
    have c_R0 : w1.cell? ⟨w.heap.size + 1, 0, none⟩ = some (.slice none 0 0) := hx_R.cell 0
    have f_R0 : w1.frozen? ⟨w.heap.size + 1, 0, none⟩ = false := hx_R.free 0
    have c_R1 : w1.cell? ⟨w.heap.size + 1, 1, none⟩ = some (.slice none 0 0) := hx_R.cell 1
    have f_R1 : w1.frozen? ⟨w.heap.size + 1, 1, none⟩ = false := hx_R.free 1
    go_wp2
    have z0 := Z0.out
    have hk := st_kept w1 (w.heap.size + 1) (.slice none 0 0) (.slice none 0 0)
    have hkz := hk.size
    exact bodyPost_ret (v := .tuple #[.agg #[.slice none 0 0, .slice none 0 0], .bool false]) (resM2 rfl rfl rfl (st_done hx_R)) rfl ⟨_, by rw [HF.out.1], by rw [HF.out.2]; exact OwMarked.nil_ _ _ _ (by have := hb.size; omega), st_below hb (by omega)⟩
  obtain ⟨t0, t1⟩ := (numB_iff t).1 e2
  have HKN : Hid (Nums key) := Lib.hid (nums_of_B e3)
  have HLK : Hid (n = x.1.length ∧ key.length = x.1.length) := Lib.hid (by have := HL.out; have := HLN.out; omega)
  have HF : Hid (R_MarkedShift_1 x t key = true ∧ R_MarkedShift_0 x t key = shiftD x t key) := Lib.hid (by have h1 : R_MarkedShift_1 x t key = true := (by have h9 := HLK.out; simp [R_MarkedShift_1, e1, e2, e3, h9.2]); exact ⟨h1, by unfold R_MarkedShift_0; rw [if_pos h1]⟩)
  have HE1 := Lib.hid e1
  clear e1 e2 e3 no q1 q3
  have c_x0 : w1.cell? ⟨w.heap.size, 0, none⟩ = some (.slice X0 nX cX0) := hx_x.cell 0
  have c_x1 : w1.cell? ⟨w.heap.size, 1, none⟩ = some (.slice X1 nX1 cX1) := hx_x.cell 1
  go_wp2_with fail
  clear c_x0 c_x1
  refine (s_l10Shift _ x t A n c key _ (rdm_at HX.out hb) HE1.out (rd_at HKY.out hb) HKN.out HLK.out.1 t0 t1).mono ?_
  rintro e w2 ⟨g, rfl, ho, hb_⟩
  have z2 := hb_.size
  replace hb : Below w.heap.size w w2 := up_hb hb hb_
  replace hx_x := up_bx hx_x hb_
  replace hx_R := up_bx hx_R hb_
  clear hb_
  obtain ⟨A3, n3, c3, A4, n4, c4, rfl⟩ := ho.open_
  have c_R0 : w2.cell? ⟨w.heap.size + 1, 0, none⟩ = some (.slice none 0 0) := hx_R.cell 0
  have f_R0 : w2.frozen? ⟨w.heap.size + 1, 0, none⟩ = false := hx_R.free 0
  have c_R1 : w2.cell? ⟨w.heap.size + 1, 1, none⟩ = some (.slice none 0 0) := hx_R.cell 1
  have f_R1 : w2.frozen? ⟨w.heap.size + 1, 1, none⟩ = false := hx_R.free 1
  go_wp2
  have z0 := Z0.out
  have hk := st_kept w2 (w.heap.size + 1) (.slice A3 n3 c3) (.slice A4 n4 c4)
  have hkz := hk.size
  exact bodyPost_ret (v := .tuple #[.agg #[.slice A3 n3 c3, .slice A4 n4 c4], .bool true]) (resM2 rfl rfl rfl (st_done hx_R)) rfl ⟨_, by rw [HF.out.1], by rw [HF.out.2]; exact (ho.kept hk (by omega) (by omega)).widen (by omega) (by omega), st_below hb (by omega)⟩

set_option maxHeartbeats 8000000 in
theorem X_i_MarkedShift (v u : Value) (x : MkD) (t : Int) (key : List Int) (w : World) (h : RdMarked w w.heap.size v x) (k : RdIntS w w.heap.size u key) (hs : szMarked x ≤ 1048576) (hs2 : szIntS key ≤ 1048576) :
    Calls Try.prog 32 #[v, .int .i64 t, u] w fun e w' => ∃ g, e = .returned (.tuple #[g, .bool (R_MarkedShift_1 x t key)]) ∧ OwMarked w' w.heap.size w'.heap.size g (R_MarkedShift_0 x t key) ∧ Below w.heap.size w w' := by
  obtain ⟨X0, nX, cX0, X1, nX1, cX1, rfl, aX0, aX1, lX0, lX1⟩ := h.open_
  obtain ⟨A, n, c, rfl, _, hk⟩ := k
  have hkl := hk.len
  have hn : n ≤ 1048576 := by unfold szIntS at hs2; omega
  have HX := Lib.hid h
  have HKY := Lib.hid hk
  have HL := Lib.hid (And.intro lX0 hkl)
  have no : R_MarkedShift_1 x t key = false → Hid (R_MarkedShift_1 x t key = false ∧ R_MarkedShift_0 x t key = ([], [])) := fun h => Lib.hid ⟨h, by unfold R_MarkedShift_0; rw [h]; rfl⟩
  clear h aX0 aX1 lX0 lX1 hk hkl hs2
  go_enter Try.func32, Try.ntmps32
  go_wp2_with fail
  obtain ⟨W0, hW0⟩ : ∃ W, Hid (((w.alloc (.cells #[.slice X0 nX cX0, .slice X1 nX1 cX1] 26)).alloc (.cells #[.slice none 0 0, .slice none 0 0] 26)) = W) := ⟨_, Lib.hid rfl⟩
  have hb : Below w.heap.size w W0 := by rw [← hW0.out]; exact ((Below.refl _ _).alloc (Nat.le_refl _) _).alloc (by simp) _
  have Z0 : Hid (W0.heap.size = w.heap.size + 1 + 1) := Lib.hid (by rw [← hW0.out]; simp only [World.size_alloc])
  have hx_x : Bx W0 (w.heap.size) #[.slice X0 nX cX0, .slice X1 nX1 cX1] 26 := by rw [← hW0.out]; have := Bx.new w #[.slice X0 nX cX0, .slice X1 nX1 cX1] 26; exact (this.alloc _)
  have hx_R : Bx W0 (w.heap.size + 1) #[.slice none 0 0, .slice none 0 0] 26 := by rw [← hW0.out]; have := Bx.new (w.alloc (.cells #[.slice X0 nX cX0, .slice X1 nX1 cX1] 26)) #[.slice none 0 0, .slice none 0 0] 26; rw [World.size_alloc] at this; exact this
  rw [hW0.out]
  clear hW0
  refine (i_fits _ x _ _ (rdm_at HX.out hb) hs).mono ?_
  rintro e w1 ⟨rfl, hb_⟩
  have z1 := hb_.size
  replace hb : Below w.heap.size w w1 := up_hb hb hb_
  replace hx_x := up_bx hx_x hb_
  replace hx_R := up_bx hx_R hb_
  clear hb_
  by_cases e0 : (markB x && decide ((x.1.length : Int) = (n : Int))) = true
  rotate_left
  · rw [Bool.not_eq_true] at e0
    have HF := no (shift_no e0 HL.out.2)
    rw [e0]
    have c_R0 : w1.cell? ⟨w.heap.size + 1, 0, none⟩ = some (.slice none 0 0) := hx_R.cell 0
    have f_R0 : w1.frozen? ⟨w.heap.size + 1, 0, none⟩ = false := hx_R.free 0
    have c_R1 : w1.cell? ⟨w.heap.size + 1, 1, none⟩ = some (.slice none 0 0) := hx_R.cell 1
    have f_R1 : w1.frozen? ⟨w.heap.size + 1, 1, none⟩ = false := hx_R.free 1
    go_wp2
    have z0 := Z0.out
    have hk := st_kept w1 (w.heap.size + 1) (.slice none 0 0) (.slice none 0 0)
    have hkz := hk.size
    exact bodyPost_ret (v := .tuple #[.agg #[.slice none 0 0, .slice none 0 0], .bool false]) (resM2 rfl rfl rfl (st_done hx_R)) rfl ⟨_, by rw [HF.out.1], by rw [HF.out.2]; exact OwMarked.nil_ _ _ _ (by have := hb.size; omega), st_below hb (by omega)⟩
  rw [e0]
  have e1 : markB x = true := by simp only [Bool.and_eq_true] at e0; exact e0.1
  have hl : nX = n := by have := HL.out; simp only [Bool.and_eq_true, decide_eq_true_eq] at e0; omega
  have HLN := Lib.hid hl
  clear e0
  go_wp2_with fail
  refine (i_NumOk _ _).mono ?_
  rintro e w' ⟨rfl, rfl⟩
  cases e2 : numB t
  · have HF := no (by simp [R_MarkedShift_1, e2])
    have c_R0 : w1.cell? ⟨w.heap.size + 1, 0, none⟩ = some (.slice none 0 0) := hx_R.cell 0
    have f_R0 : w1.frozen? ⟨w.heap.size + 1, 0, none⟩ = false := hx_R.free 0
    have c_R1 : w1.cell? ⟨w.heap.size + 1, 1, none⟩ = some (.slice none 0 0) := hx_R.cell 1
    have f_R1 : w1.frozen? ⟨w.heap.size + 1, 1, none⟩ = false := hx_R.free 1
    go_wp2
    have z0 := Z0.out
    have hk := st_kept w1 (w.heap.size + 1) (.slice none 0 0) (.slice none 0 0)
    have hkz := hk.size
    exact bodyPost_ret (v := .tuple #[.agg #[.slice none 0 0, .slice none 0 0], .bool false]) (resM2 rfl rfl rfl (st_done hx_R)) rfl ⟨_, by rw [HF.out.1], by rw [HF.out.2]; exact OwMarked.nil_ _ _ _ (by have := hb.size; omega), st_below hb (by omega)⟩
  go_wp2_with fail
  refine (i_numbersOk _ _ _ _ _ (rd_at HKY.out hb) hn).mono ?_
  rintro e w' ⟨rfl, rfl⟩
  cases e3 : numsB key
  · have HF := no (by simp [R_MarkedShift_1, e3])
    have c_R0 : w1.cell? ⟨w.heap.size + 1, 0, none⟩ = some (.slice none 0 0) := hx_R.cell 0
    have f_R0 : w1.frozen? ⟨w.heap.size + 1, 0, none⟩ = false := hx_R.free 0
    have c_R1 : w1.cell? ⟨w.heap.size + 1, 1, none⟩ = some (.slice none 0 0) := hx_R.cell 1
    have f_R1 : w1.frozen? ⟨w.heap.size + 1, 1, none⟩ = false := hx_R.free 1
    go_wp2
    have z0 := Z0.out
    have hk := st_kept w1 (w.heap.size + 1) (.slice none 0 0) (.slice none 0 0)
    have hkz := hk.size
    exact bodyPost_ret (v := .tuple #[.agg #[.slice none 0 0, .slice none 0 0], .bool false]) (resM2 rfl rfl rfl (st_done hx_R)) rfl ⟨_, by rw [HF.out.1], by rw [HF.out.2]; exact OwMarked.nil_ _ _ _ (by have := hb.size; omega), st_below hb (by omega)⟩
  obtain ⟨t0, t1⟩ := (numB_iff t).1 e2
  have HKN : Hid (Nums key) := Lib.hid (nums_of_B e3)
  have HLK : Hid (n = x.1.length ∧ key.length = x.1.length) := Lib.hid (by have := HL.out; have := HLN.out; omega)
  have HF : Hid (R_MarkedShift_1 x t key = true ∧ R_MarkedShift_0 x t key = shiftD x t key) := Lib.hid (by have h1 : R_MarkedShift_1 x t key = true := (by have h9 := HLK.out; simp [R_MarkedShift_1, e1, e2, e3, h9.2]); exact ⟨h1, by unfold R_MarkedShift_0; rw [if_pos h1]⟩)
  have HE1 := Lib.hid e1
  have HSD := Lib.hid (shiftD_is2 (t := t) e1 HLK.out.2)
  have HSZ : Hid (2 ≤ n ∧ n ≤ 7) := Lib.hid (by have := (markB_iff.1 e1).1; have := HLK.out; omega)
  have HEK := Lib.hid e3
  clear e1 e2 e3 no hl
  have HB := Lib.hid hb
  have HX_x := Lib.hid hx_x
  have HX_R := Lib.hid hx_R
  clear hb hx_x hx_R
  go_wp2
  have hb := HB.out
  have hx_x := HX_x.out
  have hx_R := HX_R.out
  have hc_x_0 : w1.cell? ⟨w.heap.size, 0, none⟩ = some (.slice X0 nX cX0) := HX_x.out.cell 0
  have hc_x_1 : w1.cell? ⟨w.heap.size, 1, none⟩ = some (.slice X1 nX1 cX1) := HX_x.out.cell 1
  have stq0 : True := trivial
  go_region_held3 (fun w' => Below w.heap.size w w' ∧ (w').cell? ⟨w.heap.size, 0, none⟩ = some (.slice X0 nX cX0) ∧ (w').cell? ⟨w.heap.size, 1, none⟩ = some (.slice X1 nX1 cX1))
    (first | exact ⟨hb, hc_x_0, hc_x_1⟩ | exact ⟨hb.drew, hc_x_0, hc_x_1⟩ | exact hst _ _)
    (first
      | (have stq1 := stq0
         clear stq0
         have z0 := Z0.out
         have zdrew : w1.drew.heap.size = w1.heap.size := rfl
         go_at_call 65
         refine (i_one A n c _ HSZ.out.2 HSZ.out.1).mono ?_
         rintro e v1 ⟨A5, c5, rfl, ho1, hb_⟩
         have z1 := hb_.size
         have hbk : Below w1.heap.size w1 v1 := (by first | exact hb_ | exact nb1 hb_)
         replace hb : Below w.heap.size w v1 := up_hb hb hbk
         replace hx_x : Bx v1 (w.heap.size) #[.slice X0 nX cX0, .slice X1 nX1 cX1] 26 := up_bx hx_x hbk
         replace hx_R : Bx v1 (w.heap.size + 1) #[.slice none 0 0, .slice none 0 0] 26 := up_bx hx_R hbk
         replace hc_x_0 : v1.cell? ⟨w.heap.size, 0, none⟩ = some (.slice X0 nX cX0) := hx_x.cell 0
         replace hc_x_1 : v1.cell? ⟨w.heap.size, 1, none⟩ = some (.slice X1 nX1 cX1) := hx_x.cell 1
         clear hbk
         have hro : RdMarked v1 v1.heap.size (.agg #[.slice A5 n c5, .slice A n c]) (oneL n, key) := ⟨A5, n, c5, A, n, c, rfl, ho1.rd.more (Nat.le_refl _), A, n, c, rfl, by omega, rd_at HKY.out hb⟩
         clear hb_
         clear zdrew z0)
      | (have stq2 := stq1
         clear stq1
         have z0 := Z0.out
         have zdrew : w1.drew.heap.size = w1.heap.size := rfl
         go_at_call 64
         refine (i_Mtimes _ (oneL n, key) t _ hro (one_ok HL.out.2 HSZ.out HEK.out) t0 t1).mono ?_
         rintro e v2 ⟨g2, rfl, ho2, hb_⟩
         have z2 := hb_.size
         have hbk : Below v1.heap.size v1 v2 := (by first | exact hb_ | exact nb1 hb_)
         replace hb : Below w.heap.size w v2 := up_hb hb hbk
         replace hx_x : Bx v2 (w.heap.size) #[.slice X0 nX cX0, .slice X1 nX1 cX1] 26 := up_bx hx_x hbk
         replace hx_R : Bx v2 (w.heap.size + 1) #[.slice none 0 0, .slice none 0 0] 26 := up_bx hx_R hbk
         replace hc_x_0 : v2.cell? ⟨w.heap.size, 0, none⟩ = some (.slice X0 nX cX0) := hx_x.cell 0
         replace hc_x_1 : v2.cell? ⟨w.heap.size, 1, none⟩ = some (.slice X1 nX1 cX1) := hx_x.cell 1
         replace ho1 := ho1.below hbk (by omega)
         clear hbk
         clear hb_
         clear zdrew z0)
      | (have stq3 := stq2
         clear stq2
         have z0 := Z0.out
         have zdrew : w1.drew.heap.size = w1.heap.size := rfl
         go_at_call 54
         refine (i_Mplus _ _ x (scaD (oneL n, key) t) _ (rdm_at HX.out (by first | exact hb | exact hb.drew)) (by first | exact own_at ho2 (by omega)) HE1.out (markB_sca (one_ok HL.out.2 HSZ.out HEK.out)) (by have := HLK.out; simp only [scaD, scaL_length, oneL_length]; omega)).mono ?_
         rintro e v3 ⟨g, rfl, ho, hb_⟩
         have z3 := hb_.size
         have hbk : Below v2.heap.size v2 v3 := (by first | exact hb_ | exact nb1 hb_)
         replace hb : Below w.heap.size w v3 := up_hb hb hbk
         replace hx_x : Bx v3 (w.heap.size) #[.slice X0 nX cX0, .slice X1 nX1 cX1] 26 := up_bx hx_x hbk
         replace hx_R : Bx v3 (w.heap.size + 1) #[.slice none 0 0, .slice none 0 0] 26 := up_bx hx_R hbk
         replace hc_x_0 : v3.cell? ⟨w.heap.size, 0, none⟩ = some (.slice X0 nX cX0) := hx_x.cell 0
         replace hc_x_1 : v3.cell? ⟨w.heap.size, 1, none⟩ = some (.slice X1 nX1 cX1) := hx_x.cell 1
         replace ho1 := ho1.below hbk (by omega)
         replace ho2 := ho2.below hbk (by omega)
         clear hbk
         obtain ⟨A3, n3, c3, A4, n4, c4, rfl⟩ := ho.open_
         clear hb_
         have hr0 : v3.cell? ⟨w.heap.size + 1, 0, none⟩ = some (.slice none 0 0) := hx_R.cell 0
         have hf0 : v3.frozen? ⟨w.heap.size + 1, 0, none⟩ = false := hx_R.free 0
         have hr1 : v3.cell? ⟨w.heap.size + 1, 1, none⟩ = some (.slice none 0 0) := hx_R.cell 1
         have hf1 : v3.frozen? ⟨w.heap.size + 1, 1, none⟩ = false := hx_R.free 1
         have hst : ∀ a b, Below w.heap.size w ((v3.setCell ⟨w.heap.size + 1, 0, none⟩ a).setCell ⟨w.heap.size + 1, 1, none⟩ b) ∧ ((v3.setCell ⟨w.heap.size + 1, 0, none⟩ a).setCell ⟨w.heap.size + 1, 1, none⟩ b).cell? ⟨w.heap.size, 0, none⟩ = some (.slice X0 nX cX0) ∧ ((v3.setCell ⟨w.heap.size + 1, 0, none⟩ a).setCell ⟨w.heap.size + 1, 1, none⟩ b).cell? ⟨w.heap.size, 1, none⟩ = some (.slice X1 nX1 cX1) := fun a b => ⟨st_below hb (by omega), st_cell (st_kept v3 (w.heap.size + 1) _ _) hx_x (by omega) 0, st_cell (st_kept v3 (w.heap.size + 1) _ _) hx_x (by omega) 1⟩
         clear zdrew z0))
  have HSF : Hid (R_MarkedShift_1 x t key = true ∧ R_MarkedShift_0 x t key = plusD x (scaD (oneL n, key) t) 1) := Lib.hid ⟨HF.out.1, by rw [HF.out.2, HLK.out.1]; exact HSD.out.symm⟩
  have HB2 := Lib.hid hb
  have HRR := Lib.hid hx_R
  clear hb hst HB HX_x HX_R hro
  go_wp2
  have hb := HB2.out
  have hx_R := HRR.out
  have zdrew : w1.drew.heap.size = w1.heap.size := rfl
  have z0 := Z0.out
  have hk := st_kept v3 (w.heap.size + 1) (.slice A3 n3 c3) (.slice A4 n4 c4)
  have hkz := hk.size
  exact bodyPost_ret (v := .tuple #[.agg #[.slice A3 n3 c3, .slice A4 n4 c4], .bool true]) (resM2 rfl rfl rfl (st_done hx_R)) rfl ⟨_, by rw [HSF.out.1], by rw [HSF.out.2]; exact (ho.kept hk (by omega) (by omega)).widen (by omega) (by omega), st_below hb (by omega)⟩
end Go.Proofs.Ytpejigfndkdhcaa

/- Chapter 10: MarkedCheck of both sides. Made by tools/gen10/check.py. -/
namespace Go.Proofs.Ytpejigfndkdhcaa
open Go.RowKit
set_option maxRecDepth 100000

def chkB (x : MkD) (key : Int) : Bool := markB x && (numB key && decide (sumI x.2 = sumI x.1 * key % 113))
theorem chk_t {x : MkD} {key : Int} (h1 : markB x = true) (h2 : numB key = true) : chkB x key = (sumI x.2 == sumI x.1 * key % 113) := by simp [chkB, h1, h2]; rfl

set_option maxHeartbeats 8000000 in
theorem X_s_MarkedCheck (v : Value) (x : MkD) (key : Int) (w : World) (h : RdMarked w w.heap.size v x) (hs : szMarked x ≤ 1048576) :
    Calls Try.prog 30 #[v, .int .i64 key] w fun e w' => e = .returned (.bool (chkB x key)) ∧ Below w.heap.size w w' := by
  obtain ⟨X0, nX, cX0, X1, nX1, cX1, rfl, aX0, aX1, lX0, lX1⟩ := h.open_
  have hz := szM hs
  have m0 : nX ≤ 1048576 := by omega
  have m1 : nX1 ≤ 1048576 := by omega
  have HXM := Lib.hid h
  have HX0 := Lib.hid aX0
  have HX1 := Lib.hid aX1
  clear h aX0 aX1 lX0 lX1 hz
  obtain ⟨W0, hW0⟩ : ∃ W, Hid (w.alloc (.cells #[.slice X0 nX cX0, .slice X1 nX1 cX1] 26) = W) := ⟨_, Lib.hid rfl⟩
  have HB : Hid (Below w.heap.size w W0) := Lib.hid (by rw [← hW0.out]; exact (Below.refl _ _).alloc (Nat.le_refl _) _)
  have HX_x : Hid (Bx W0 w.heap.size #[.slice X0 nX cX0, .slice X1 nX1 cX1] 26) := Lib.hid (by rw [← hW0.out]; exact Bx.new w _ _)
  have Z0 : Hid (W0.heap.size = w.heap.size + 1) := Lib.hid (by rw [← hW0.out]; simp only [World.size_alloc])
  cases e1 : markB x
  · have HF : Hid (chkB x key = false) := Lib.hid (by simp [chkB, e1])
    go_enter Try.func30, Try.ntmps30
    go_wp2
    rw [hW0.out]
    clear hW0
    refine wp_region_held_drew (S := fun w' => w'.cell? ⟨w.heap.size, 0, none⟩ = some (.slice X0 nX cX0) ∧ w'.cell? ⟨w.heap.size, 1, none⟩ = some (.slice X1 nX1 cX1)) (by kernel_rfl) ⟨HX_x.out.cell 0, HX_x.out.cell 1⟩ (fun hHeld => ?_)
    refine wpAnyH_take (i := 0) (oi := { dst := some 5, op := Op.load 26 (Operand.tmp 2), type := 26, pos := "l10_marks.go:42", after := #[], guard := none }) (v := ?_) rfl (by kernel_rfl) (by kernel_rfl) (by kernel_rfl) (fun _ _ _ h => h) (Or.inl ⟨by rfl, ?_⟩) hHeld ?_
    rotate_left
    · intro w hSw; obtain ⟨s0, s1⟩ := hSw; (try dsimp only at hSw); go_simp; (try with_reducible rfl)
    try simp only [Act.put, List.setIfInBounds_toArray, List.set_cons_zero, List.set_cons_succ]
    refine wpAnyH_ready (rs := [1]) (by kernel_rfl) (by simp) ?_
    refine AllReadyH.cons (o := { dst := some 6, op := Op.call { callee := Callee.value (Operand.func 50), args := #[Operand.tmp 5], argTypes := #[26] }, type := 4, pos := "l10_marks.go:42", after := #[{ on := 0, ground := Ground.data }], guard := none }) rfl (fun K hK => ?_) ?_
    · go_simp
      refine (X_s_MarkedOk _ x W0.drew (rdm_at HXM.out HB.out.drew) hs).mono ?_
      rintro e w1 ⟨rfl, hb_⟩
      have hbk : Below W0.heap.size W0 w1 := nb1 hb_
      have hb1 : Below w.heap.size w w1 := up_hb HB.out hbk
      have hx1 : Bx w1 w.heap.size #[.slice X0 nX cX0, .slice X1 nX1 cX1] 26 := up_bx HX_x.out hbk
      have HB1 := Lib.hid hb1
      clear hb_ hbk hb1
      rw [e1]
      refine hK.out _ _ ⟨hx1.cell 0, hx1.cell 1⟩ (fun hHeld => ?_)
      clear hK K
      try simp only [Act.put, List.setIfInBounds_toArray, List.set_cons_zero, List.set_cons_succ]
      refine wpAnyH_take (i := 2) (oi := { dst := some 7, op := Op.move (Operand.tmp 6), type := 4, pos := "l10_marks.go:42", after := #[{ on := 1, ground := Ground.data }, { on := 1, ground := Ground.chain }], guard := none }) (v := ?_) rfl (by kernel_rfl) (by kernel_rfl) (by kernel_rfl) (fun _ _ _ h => h) (Or.inl ⟨by rfl, ?_⟩) hHeld ?_
      rotate_left
      · intro w hSw; obtain ⟨s0, s1⟩ := hSw; (try dsimp only at hSw); go_simp; (try with_reducible rfl)
      try simp only [Act.put, List.setIfInBounds_toArray, List.set_cons_zero, List.set_cons_succ]
      refine wpAnyH_take (i := 3) (oi := { dst := some 8, op := Op.move (Operand.tmp 1), type := 3, pos := "l10_marks.go:42", after := #[{ on := 2, ground := Ground.guard }], guard := some (2, true) }) rfl (by kernel_rfl) (by kernel_rfl) (by kernel_rfl) (fun _ _ _ h => h) (Or.inr ⟨by rfl, rfl⟩) hHeld ?_
      try simp only [Act.put, List.setIfInBounds_toArray, List.set_cons_zero, List.set_cons_succ]
      refine wpAnyH_take (i := 4) (oi := { dst := some 9, op := Op.call { callee := Callee.value (Operand.func 75), args := #[Operand.tmp 8], argTypes := #[3] }, type := 4, pos := "l10_marks.go:42", after := #[{ on := 3, ground := Ground.data }, { on := 2, ground := Ground.chain }, { on := 2, ground := Ground.guard }], guard := some (2, true) }) rfl (by kernel_rfl) (by kernel_rfl) (by kernel_rfl) (fun _ _ _ h => h) (Or.inr ⟨by rfl, rfl⟩) hHeld ?_
      try simp only [Act.put, List.setIfInBounds_toArray, List.set_cons_zero, List.set_cons_succ]
      refine wpAnyH_take (i := 5) (oi := { dst := some 10, op := Op.pick (Operand.tmp 7) (Operand.tmp 9) (Operand.const (Value.bool false)), type := 4, pos := "l10_marks.go:42", after := #[{ on := 2, ground := Ground.data }, { on := 4, ground := Ground.data }], guard := none }) (v := ?_) rfl (by kernel_rfl) (by kernel_rfl) (by kernel_rfl) (fun _ _ _ h => h) (Or.inl ⟨by rfl, ?_⟩) hHeld ?_
      rotate_left
      · intro w hSw; obtain ⟨s0, s1⟩ := hSw; (try dsimp only at hSw); go_simp; (try with_reducible rfl)
      try simp only [Act.put, List.setIfInBounds_toArray, List.set_cons_zero, List.set_cons_succ]
      refine wpAnyH_take (i := 6) (oi := { dst := some 11, op := Op.move (Operand.tmp 10), type := 4, pos := "l10_marks.go:42", after := #[{ on := 5, ground := Ground.data }, { on := 4, ground := Ground.chain }], guard := none }) (v := ?_) rfl (by kernel_rfl) (by kernel_rfl) (by kernel_rfl) (fun _ _ _ h => h) (Or.inl ⟨by rfl, ?_⟩) hHeld ?_
      rotate_left
      · intro w hSw; obtain ⟨s0, s1⟩ := hSw; (try dsimp only at hSw); go_simp; (try with_reducible rfl)
      try simp only [Act.put, List.setIfInBounds_toArray, List.set_cons_zero, List.set_cons_succ]
      refine wpAnyH_take (i := 7) (oi := { dst := some 12, op := Op.fieldAddr 26 (Operand.tmp 2) 1, type := 0, pos := "l10_marks.go:42", after := #[{ on := 6, ground := Ground.guard }], guard := some (6, true) }) rfl (by kernel_rfl) (by kernel_rfl) (by kernel_rfl) (fun _ _ _ h => h) (Or.inr ⟨by rfl, rfl⟩) hHeld ?_
      try simp only [Act.put, List.setIfInBounds_toArray, List.set_cons_zero, List.set_cons_succ]
      refine wpAnyH_take (i := 8) (oi := { dst := some 13, op := Op.load 22 (Operand.tmp 12), type := 22, pos := "l10_marks.go:42", after := #[{ on := 7, ground := Ground.data }, { on := 6, ground := Ground.guard }], guard := some (6, true) }) rfl (by kernel_rfl) (by kernel_rfl) (by kernel_rfl) (fun _ _ _ h => h) (Or.inr ⟨by rfl, rfl⟩) hHeld ?_
      try simp only [Act.put, List.setIfInBounds_toArray, List.set_cons_zero, List.set_cons_succ]
      refine wpAnyH_take (i := 9) (oi := { dst := some 14, op := Op.call { callee := Callee.value (Operand.func 58), args := #[Operand.tmp 13], argTypes := #[22] }, type := 3, pos := "l10_marks.go:42", after := #[{ on := 8, ground := Ground.data }, { on := 6, ground := Ground.chain }, { on := 6, ground := Ground.guard }], guard := some (6, true) }) rfl (by kernel_rfl) (by kernel_rfl) (by kernel_rfl) (fun _ _ _ h => h) (Or.inr ⟨by rfl, rfl⟩) hHeld ?_
      try simp only [Act.put, List.setIfInBounds_toArray, List.set_cons_zero, List.set_cons_succ]
      refine wpAnyH_take (i := 10) (oi := { dst := some 15, op := Op.fieldAddr 26 (Operand.tmp 2) 0, type := 0, pos := "l10_marks.go:42", after := #[{ on := 6, ground := Ground.guard }], guard := some (6, true) }) rfl (by kernel_rfl) (by kernel_rfl) (by kernel_rfl) (fun _ _ _ h => h) (Or.inr ⟨by rfl, rfl⟩) hHeld ?_
      try simp only [Act.put, List.setIfInBounds_toArray, List.set_cons_zero, List.set_cons_succ]
      refine wpAnyH_take (i := 11) (oi := { dst := some 16, op := Op.load 22 (Operand.tmp 15), type := 22, pos := "l10_marks.go:42", after := #[{ on := 10, ground := Ground.data }, { on := 6, ground := Ground.guard }], guard := some (6, true) }) rfl (by kernel_rfl) (by kernel_rfl) (by kernel_rfl) (fun _ _ _ h => h) (Or.inr ⟨by rfl, rfl⟩) hHeld ?_
      try simp only [Act.put, List.setIfInBounds_toArray, List.set_cons_zero, List.set_cons_succ]
      refine wpAnyH_take (i := 12) (oi := { dst := some 17, op := Op.call { callee := Callee.value (Operand.func 58), args := #[Operand.tmp 16], argTypes := #[22] }, type := 3, pos := "l10_marks.go:42", after := #[{ on := 11, ground := Ground.data }, { on := 9, ground := Ground.chain }, { on := 6, ground := Ground.guard }], guard := some (6, true) }) rfl (by kernel_rfl) (by kernel_rfl) (by kernel_rfl) (fun _ _ _ h => h) (Or.inr ⟨by rfl, rfl⟩) hHeld ?_
      try simp only [Act.put, List.setIfInBounds_toArray, List.set_cons_zero, List.set_cons_succ]
      refine wpAnyH_take (i := 13) (oi := { dst := some 18, op := Op.move (Operand.tmp 1), type := 3, pos := "l10_marks.go:42", after := #[{ on := 6, ground := Ground.guard }], guard := some (6, true) }) rfl (by kernel_rfl) (by kernel_rfl) (by kernel_rfl) (fun _ _ _ h => h) (Or.inr ⟨by rfl, rfl⟩) hHeld ?_
      try simp only [Act.put, List.setIfInBounds_toArray, List.set_cons_zero, List.set_cons_succ]
      refine wpAnyH_take (i := 14) (oi := { dst := some 19, op := Op.binOp BinOp.mul 3 (Operand.tmp 17) (Operand.tmp 18) 3, type := 3, pos := "l10_marks.go:42", after := #[{ on := 12, ground := Ground.data }, { on := 13, ground := Ground.data }, { on := 6, ground := Ground.guard }], guard := some (6, true) }) rfl (by kernel_rfl) (by kernel_rfl) (by kernel_rfl) (fun _ _ _ h => h) (Or.inr ⟨by rfl, rfl⟩) hHeld ?_
      try simp only [Act.put, List.setIfInBounds_toArray, List.set_cons_zero, List.set_cons_succ]
      refine wpAnyH_take (i := 15) (oi := { dst := some 20, op := Op.binOp BinOp.rem 3 (Operand.tmp 19) (Operand.const (Value.int IntKind.i64 113)) 3, type := 3, pos := "l10_marks.go:42", after := #[{ on := 14, ground := Ground.data }, { on := 6, ground := Ground.guard }], guard := some (6, true) }) rfl (by kernel_rfl) (by kernel_rfl) (by kernel_rfl) (fun _ _ _ h => h) (Or.inr ⟨by rfl, rfl⟩) hHeld ?_
      try simp only [Act.put, List.setIfInBounds_toArray, List.set_cons_zero, List.set_cons_succ]
      refine wpAnyH_take (i := 16) (oi := { dst := some 21, op := Op.binOp BinOp.eql 3 (Operand.tmp 14) (Operand.tmp 20) 3, type := 4, pos := "l10_marks.go:42", after := #[{ on := 9, ground := Ground.data }, { on := 15, ground := Ground.data }, { on := 6, ground := Ground.guard }], guard := some (6, true) }) rfl (by kernel_rfl) (by kernel_rfl) (by kernel_rfl) (fun _ _ _ h => h) (Or.inr ⟨by rfl, rfl⟩) hHeld ?_
      try simp only [Act.put, List.setIfInBounds_toArray, List.set_cons_zero, List.set_cons_succ]
      refine wpAnyH_take (i := 17) (oi := { dst := some 22, op := Op.pick (Operand.tmp 11) (Operand.tmp 21) (Operand.const (Value.bool false)), type := 4, pos := "l10_marks.go:42", after := #[{ on := 6, ground := Ground.data }, { on := 16, ground := Ground.data }], guard := none }) (v := ?_) rfl (by kernel_rfl) (by kernel_rfl) (by kernel_rfl) (fun _ _ _ h => h) (Or.inl ⟨by rfl, ?_⟩) hHeld ?_
      rotate_left
      · intro w hSw; obtain ⟨s0, s1⟩ := hSw; (try dsimp only at hSw); go_simp; (try with_reducible rfl)
      try simp only [Act.put, List.setIfInBounds_toArray, List.set_cons_zero, List.set_cons_succ]
      refine wpAnyH_take (i := 18) (oi := { dst := some 4, op := Op.assign (Operand.tmp 22), type := 4, pos := "l10_marks.go:42", after := #[{ on := 17, ground := Ground.data }, { on := 12, ground := Ground.chain }, { on := 0, ground := Ground.phase }, { on := 1, ground := Ground.phase }, { on := 2, ground := Ground.phase }, { on := 3, ground := Ground.phase }, { on := 4, ground := Ground.phase }, { on := 5, ground := Ground.phase }, { on := 6, ground := Ground.phase }, { on := 7, ground := Ground.phase }, { on := 8, ground := Ground.phase }, { on := 9, ground := Ground.phase }, { on := 10, ground := Ground.phase }, { on := 11, ground := Ground.phase }, { on := 12, ground := Ground.phase }, { on := 13, ground := Ground.phase }, { on := 14, ground := Ground.phase }, { on := 15, ground := Ground.phase }, { on := 16, ground := Ground.phase }, { on := 17, ground := Ground.phase }], guard := none }) (v := ?_) rfl (by kernel_rfl) (by kernel_rfl) (by kernel_rfl) (fun _ _ _ h => h) (Or.inl ⟨by rfl, ?_⟩) hHeld ?_
      rotate_left
      · intro w hSw; obtain ⟨s0, s1⟩ := hSw; (try dsimp only at hSw); go_simp; (try with_reducible rfl)
      try simp only [Act.put, List.setIfInBounds_toArray, List.set_cons_zero, List.set_cons_succ]
      refine wpAnyH_done (by kernel_rfl) ?_ _
      clear hHeld
      go_wp2
      go_ret
      exact ⟨ret_bool HF.out.symm, HB1.out⟩
    exact AllReadyH.nil
  cases e2 : numB key
  · have HF : Hid (chkB x key = false) := Lib.hid (by simp [chkB, e2])
    go_enter Try.func30, Try.ntmps30
    go_wp2
    rw [hW0.out]
    clear hW0
    refine wp_region_held_drew (S := fun w' => w'.cell? ⟨w.heap.size, 0, none⟩ = some (.slice X0 nX cX0) ∧ w'.cell? ⟨w.heap.size, 1, none⟩ = some (.slice X1 nX1 cX1)) (by kernel_rfl) ⟨HX_x.out.cell 0, HX_x.out.cell 1⟩ (fun hHeld => ?_)
    refine wpAnyH_take (i := 0) (oi := { dst := some 5, op := Op.load 26 (Operand.tmp 2), type := 26, pos := "l10_marks.go:42", after := #[], guard := none }) (v := ?_) rfl (by kernel_rfl) (by kernel_rfl) (by kernel_rfl) (fun _ _ _ h => h) (Or.inl ⟨by rfl, ?_⟩) hHeld ?_
    rotate_left
    · intro w hSw; obtain ⟨s0, s1⟩ := hSw; (try dsimp only at hSw); go_simp; (try with_reducible rfl)
    try simp only [Act.put, List.setIfInBounds_toArray, List.set_cons_zero, List.set_cons_succ]
    refine wpAnyH_ready (rs := [1]) (by kernel_rfl) (by simp) ?_
    refine AllReadyH.cons (o := { dst := some 6, op := Op.call { callee := Callee.value (Operand.func 50), args := #[Operand.tmp 5], argTypes := #[26] }, type := 4, pos := "l10_marks.go:42", after := #[{ on := 0, ground := Ground.data }], guard := none }) rfl (fun K hK => ?_) ?_
    · go_simp
      refine (X_s_MarkedOk _ x W0.drew (rdm_at HXM.out HB.out.drew) hs).mono ?_
      rintro e w1 ⟨rfl, hb_⟩
      have hbk : Below W0.heap.size W0 w1 := nb1 hb_
      have hb1 : Below w.heap.size w w1 := up_hb HB.out hbk
      have hx1 : Bx w1 w.heap.size #[.slice X0 nX cX0, .slice X1 nX1 cX1] 26 := up_bx HX_x.out hbk
      have HB1 := Lib.hid hb1
      clear hb_ hbk hb1
      rw [e1]
      refine hK.out _ _ ⟨hx1.cell 0, hx1.cell 1⟩ (fun hHeld => ?_)
      clear hK K
      try simp only [Act.put, List.setIfInBounds_toArray, List.set_cons_zero, List.set_cons_succ]
      refine wpAnyH_take (i := 2) (oi := { dst := some 7, op := Op.move (Operand.tmp 6), type := 4, pos := "l10_marks.go:42", after := #[{ on := 1, ground := Ground.data }, { on := 1, ground := Ground.chain }], guard := none }) (v := ?_) rfl (by kernel_rfl) (by kernel_rfl) (by kernel_rfl) (fun _ _ _ h => h) (Or.inl ⟨by rfl, ?_⟩) hHeld ?_
      rotate_left
      · intro w hSw; obtain ⟨s0, s1⟩ := hSw; (try dsimp only at hSw); go_simp; (try with_reducible rfl)
      try simp only [Act.put, List.setIfInBounds_toArray, List.set_cons_zero, List.set_cons_succ]
      refine wpAnyH_take (i := 3) (oi := { dst := some 8, op := Op.move (Operand.tmp 1), type := 3, pos := "l10_marks.go:42", after := #[{ on := 2, ground := Ground.guard }], guard := some (2, true) }) (v := ?_) rfl (by kernel_rfl) (by kernel_rfl) (by kernel_rfl) (fun _ _ _ h => h) (Or.inl ⟨by rfl, ?_⟩) hHeld ?_
      rotate_left
      · intro w hSw; obtain ⟨s0, s1⟩ := hSw; (try dsimp only at hSw); go_simp; (try with_reducible rfl)
      try simp only [Act.put, List.setIfInBounds_toArray, List.set_cons_zero, List.set_cons_succ]
      refine wpAnyH_ready (rs := [4]) (by kernel_rfl) (by simp) ?_
      refine AllReadyH.cons (o := { dst := some 9, op := Op.call { callee := Callee.value (Operand.func 75), args := #[Operand.tmp 8], argTypes := #[3] }, type := 4, pos := "l10_marks.go:42", after := #[{ on := 3, ground := Ground.data }, { on := 2, ground := Ground.chain }, { on := 2, ground := Ground.guard }], guard := some (2, true) }) rfl (fun K hK => ?_) ?_
      · go_simp
        refine (s_NumOk _ _).mono ?_
        rintro e w' ⟨rfl, rfl⟩
        rw [e2]
        refine hK.out _ _ ⟨hx1.cell 0, hx1.cell 1⟩ (fun hHeld => ?_)
        clear hK K
        try simp only [Act.put, List.setIfInBounds_toArray, List.set_cons_zero, List.set_cons_succ]
        refine wpAnyH_take (i := 5) (oi := { dst := some 10, op := Op.pick (Operand.tmp 7) (Operand.tmp 9) (Operand.const (Value.bool false)), type := 4, pos := "l10_marks.go:42", after := #[{ on := 2, ground := Ground.data }, { on := 4, ground := Ground.data }], guard := none }) (v := ?_) rfl (by kernel_rfl) (by kernel_rfl) (by kernel_rfl) (fun _ _ _ h => h) (Or.inl ⟨by rfl, ?_⟩) hHeld ?_
        rotate_left
        · intro w hSw; obtain ⟨s0, s1⟩ := hSw; (try dsimp only at hSw); go_simp; (try with_reducible rfl)
        try simp only [Act.put, List.setIfInBounds_toArray, List.set_cons_zero, List.set_cons_succ]
        refine wpAnyH_take (i := 6) (oi := { dst := some 11, op := Op.move (Operand.tmp 10), type := 4, pos := "l10_marks.go:42", after := #[{ on := 5, ground := Ground.data }, { on := 4, ground := Ground.chain }], guard := none }) (v := ?_) rfl (by kernel_rfl) (by kernel_rfl) (by kernel_rfl) (fun _ _ _ h => h) (Or.inl ⟨by rfl, ?_⟩) hHeld ?_
        rotate_left
        · intro w hSw; obtain ⟨s0, s1⟩ := hSw; (try dsimp only at hSw); go_simp; (try with_reducible rfl)
        try simp only [Act.put, List.setIfInBounds_toArray, List.set_cons_zero, List.set_cons_succ]
        refine wpAnyH_take (i := 7) (oi := { dst := some 12, op := Op.fieldAddr 26 (Operand.tmp 2) 1, type := 0, pos := "l10_marks.go:42", after := #[{ on := 6, ground := Ground.guard }], guard := some (6, true) }) rfl (by kernel_rfl) (by kernel_rfl) (by kernel_rfl) (fun _ _ _ h => h) (Or.inr ⟨by rfl, rfl⟩) hHeld ?_
        try simp only [Act.put, List.setIfInBounds_toArray, List.set_cons_zero, List.set_cons_succ]
        refine wpAnyH_take (i := 8) (oi := { dst := some 13, op := Op.load 22 (Operand.tmp 12), type := 22, pos := "l10_marks.go:42", after := #[{ on := 7, ground := Ground.data }, { on := 6, ground := Ground.guard }], guard := some (6, true) }) rfl (by kernel_rfl) (by kernel_rfl) (by kernel_rfl) (fun _ _ _ h => h) (Or.inr ⟨by rfl, rfl⟩) hHeld ?_
        try simp only [Act.put, List.setIfInBounds_toArray, List.set_cons_zero, List.set_cons_succ]
        refine wpAnyH_take (i := 9) (oi := { dst := some 14, op := Op.call { callee := Callee.value (Operand.func 58), args := #[Operand.tmp 13], argTypes := #[22] }, type := 3, pos := "l10_marks.go:42", after := #[{ on := 8, ground := Ground.data }, { on := 6, ground := Ground.chain }, { on := 6, ground := Ground.guard }], guard := some (6, true) }) rfl (by kernel_rfl) (by kernel_rfl) (by kernel_rfl) (fun _ _ _ h => h) (Or.inr ⟨by rfl, rfl⟩) hHeld ?_
        try simp only [Act.put, List.setIfInBounds_toArray, List.set_cons_zero, List.set_cons_succ]
        refine wpAnyH_take (i := 10) (oi := { dst := some 15, op := Op.fieldAddr 26 (Operand.tmp 2) 0, type := 0, pos := "l10_marks.go:42", after := #[{ on := 6, ground := Ground.guard }], guard := some (6, true) }) rfl (by kernel_rfl) (by kernel_rfl) (by kernel_rfl) (fun _ _ _ h => h) (Or.inr ⟨by rfl, rfl⟩) hHeld ?_
        try simp only [Act.put, List.setIfInBounds_toArray, List.set_cons_zero, List.set_cons_succ]
        refine wpAnyH_take (i := 11) (oi := { dst := some 16, op := Op.load 22 (Operand.tmp 15), type := 22, pos := "l10_marks.go:42", after := #[{ on := 10, ground := Ground.data }, { on := 6, ground := Ground.guard }], guard := some (6, true) }) rfl (by kernel_rfl) (by kernel_rfl) (by kernel_rfl) (fun _ _ _ h => h) (Or.inr ⟨by rfl, rfl⟩) hHeld ?_
        try simp only [Act.put, List.setIfInBounds_toArray, List.set_cons_zero, List.set_cons_succ]
        refine wpAnyH_take (i := 12) (oi := { dst := some 17, op := Op.call { callee := Callee.value (Operand.func 58), args := #[Operand.tmp 16], argTypes := #[22] }, type := 3, pos := "l10_marks.go:42", after := #[{ on := 11, ground := Ground.data }, { on := 9, ground := Ground.chain }, { on := 6, ground := Ground.guard }], guard := some (6, true) }) rfl (by kernel_rfl) (by kernel_rfl) (by kernel_rfl) (fun _ _ _ h => h) (Or.inr ⟨by rfl, rfl⟩) hHeld ?_
        try simp only [Act.put, List.setIfInBounds_toArray, List.set_cons_zero, List.set_cons_succ]
        refine wpAnyH_take (i := 13) (oi := { dst := some 18, op := Op.move (Operand.tmp 1), type := 3, pos := "l10_marks.go:42", after := #[{ on := 6, ground := Ground.guard }], guard := some (6, true) }) rfl (by kernel_rfl) (by kernel_rfl) (by kernel_rfl) (fun _ _ _ h => h) (Or.inr ⟨by rfl, rfl⟩) hHeld ?_
        try simp only [Act.put, List.setIfInBounds_toArray, List.set_cons_zero, List.set_cons_succ]
        refine wpAnyH_take (i := 14) (oi := { dst := some 19, op := Op.binOp BinOp.mul 3 (Operand.tmp 17) (Operand.tmp 18) 3, type := 3, pos := "l10_marks.go:42", after := #[{ on := 12, ground := Ground.data }, { on := 13, ground := Ground.data }, { on := 6, ground := Ground.guard }], guard := some (6, true) }) rfl (by kernel_rfl) (by kernel_rfl) (by kernel_rfl) (fun _ _ _ h => h) (Or.inr ⟨by rfl, rfl⟩) hHeld ?_
        try simp only [Act.put, List.setIfInBounds_toArray, List.set_cons_zero, List.set_cons_succ]
        refine wpAnyH_take (i := 15) (oi := { dst := some 20, op := Op.binOp BinOp.rem 3 (Operand.tmp 19) (Operand.const (Value.int IntKind.i64 113)) 3, type := 3, pos := "l10_marks.go:42", after := #[{ on := 14, ground := Ground.data }, { on := 6, ground := Ground.guard }], guard := some (6, true) }) rfl (by kernel_rfl) (by kernel_rfl) (by kernel_rfl) (fun _ _ _ h => h) (Or.inr ⟨by rfl, rfl⟩) hHeld ?_
        try simp only [Act.put, List.setIfInBounds_toArray, List.set_cons_zero, List.set_cons_succ]
        refine wpAnyH_take (i := 16) (oi := { dst := some 21, op := Op.binOp BinOp.eql 3 (Operand.tmp 14) (Operand.tmp 20) 3, type := 4, pos := "l10_marks.go:42", after := #[{ on := 9, ground := Ground.data }, { on := 15, ground := Ground.data }, { on := 6, ground := Ground.guard }], guard := some (6, true) }) rfl (by kernel_rfl) (by kernel_rfl) (by kernel_rfl) (fun _ _ _ h => h) (Or.inr ⟨by rfl, rfl⟩) hHeld ?_
        try simp only [Act.put, List.setIfInBounds_toArray, List.set_cons_zero, List.set_cons_succ]
        refine wpAnyH_take (i := 17) (oi := { dst := some 22, op := Op.pick (Operand.tmp 11) (Operand.tmp 21) (Operand.const (Value.bool false)), type := 4, pos := "l10_marks.go:42", after := #[{ on := 6, ground := Ground.data }, { on := 16, ground := Ground.data }], guard := none }) (v := ?_) rfl (by kernel_rfl) (by kernel_rfl) (by kernel_rfl) (fun _ _ _ h => h) (Or.inl ⟨by rfl, ?_⟩) hHeld ?_
        rotate_left
        · intro w hSw; obtain ⟨s0, s1⟩ := hSw; (try dsimp only at hSw); go_simp; (try with_reducible rfl)
        try simp only [Act.put, List.setIfInBounds_toArray, List.set_cons_zero, List.set_cons_succ]
        refine wpAnyH_take (i := 18) (oi := { dst := some 4, op := Op.assign (Operand.tmp 22), type := 4, pos := "l10_marks.go:42", after := #[{ on := 17, ground := Ground.data }, { on := 12, ground := Ground.chain }, { on := 0, ground := Ground.phase }, { on := 1, ground := Ground.phase }, { on := 2, ground := Ground.phase }, { on := 3, ground := Ground.phase }, { on := 4, ground := Ground.phase }, { on := 5, ground := Ground.phase }, { on := 6, ground := Ground.phase }, { on := 7, ground := Ground.phase }, { on := 8, ground := Ground.phase }, { on := 9, ground := Ground.phase }, { on := 10, ground := Ground.phase }, { on := 11, ground := Ground.phase }, { on := 12, ground := Ground.phase }, { on := 13, ground := Ground.phase }, { on := 14, ground := Ground.phase }, { on := 15, ground := Ground.phase }, { on := 16, ground := Ground.phase }, { on := 17, ground := Ground.phase }], guard := none }) (v := ?_) rfl (by kernel_rfl) (by kernel_rfl) (by kernel_rfl) (fun _ _ _ h => h) (Or.inl ⟨by rfl, ?_⟩) hHeld ?_
        rotate_left
        · intro w hSw; obtain ⟨s0, s1⟩ := hSw; (try dsimp only at hSw); go_simp; (try with_reducible rfl)
        try simp only [Act.put, List.setIfInBounds_toArray, List.set_cons_zero, List.set_cons_succ]
        refine wpAnyH_done (by kernel_rfl) ?_ _
        clear hHeld
        go_wp2
        go_ret
        exact ⟨ret_bool HF.out.symm, HB1.out⟩
      exact AllReadyH.nil
    exact AllReadyH.nil
  have HF := Lib.hid (chk_t e1 e2)
  obtain ⟨t0, t1⟩ := (numB_iff key).1 e2
  have HN0 : Hid (Nums x.1) := Lib.hid (nums_of_B (markB_iff.1 e1).2.2.1)
  have HN1 : Hid (Nums x.2) := Lib.hid (nums_of_B (markB_iff.1 e1).2.2.2)
  obtain ⟨s0, s1⟩ := sumI_bd x.1
  obtain ⟨S0, hS0⟩ : ∃ S, Hid (sumI x.1 = S) := ⟨_, Lib.hid rfl⟩
  obtain ⟨S1, hS1⟩ : ∃ S, Hid (sumI x.2 = S) := ⟨_, Lib.hid rfl⟩
  rw [hS0.out] at s0 s1
  rw [hS0.out, hS1.out] at HF
  obtain ⟨m2, m3⟩ := mul_bd S0 key s0 s1 t0 t1
  have iw : IntKind.i64.wrap (S0 * key) = S0 * key := IntWalk.i64_in _ (by omega)
  have im : (S0 * key).tmod 113 = S0 * key % 113 := Int.tmod_eq_emod_of_nonneg m2
  go_enter Try.func30, Try.ntmps30
  go_wp2
  rw [hW0.out]
  clear hW0
  have hb := HB.out
  have hx_x := HX_x.out
  have hc_x_0 : W0.cell? ⟨w.heap.size, 0, none⟩ = some (.slice X0 nX cX0) := HX_x.out.cell 0
  have hc_x_1 : W0.cell? ⟨w.heap.size, 1, none⟩ = some (.slice X1 nX1 cX1) := HX_x.out.cell 1
  have stq0 : True := trivial
  go_region_held3 (fun w' => Below w.heap.size w w' ∧ (w').cell? ⟨w.heap.size, 0, none⟩ = some (.slice X0 nX cX0) ∧ (w').cell? ⟨w.heap.size, 1, none⟩ = some (.slice X1 nX1 cX1))
    (first | exact ⟨hb, hc_x_0, hc_x_1⟩ | exact ⟨hb.drew, hc_x_0, hc_x_1⟩)
    (first
      | (have stq1 := stq0
         clear stq0
         have z0 := Z0.out
         have zdrew : W0.drew.heap.size = W0.heap.size := rfl
         go_at_call 50
         refine (X_s_MarkedOk _ x _ (rdm_at HXM.out (by first | exact hb | exact hb.drew)) hs).mono ?_
         rintro e w1 ⟨rfl, hb_⟩
         have z1 := hb_.size
         have hbk : Below W0.heap.size W0 w1 := (by first | exact hb_ | exact nb1 hb_)
         replace hb : Below w.heap.size w w1 := up_hb hb hbk
         replace hx_x : Bx w1 (w.heap.size) #[.slice X0 nX cX0, .slice X1 nX1 cX1] 26 := up_bx hx_x hbk
         replace hc_x_0 : w1.cell? ⟨w.heap.size, 0, none⟩ = some (.slice X0 nX cX0) := hx_x.cell 0
         replace hc_x_1 : w1.cell? ⟨w.heap.size, 1, none⟩ = some (.slice X1 nX1 cX1) := hx_x.cell 1
         clear hbk
         rw [e1]
         clear hb_
         clear zdrew z0)
      | (have stq2 := stq1
         clear stq1
         have z0 := Z0.out
         have zdrew : W0.drew.heap.size = W0.heap.size := rfl
         go_at_call 75
         refine (s_NumOk _ _).mono ?_
         rintro e w2 ⟨rfl, rfl⟩
         rw [e2]
         clear zdrew z0)
      | (have stq3 := stq2
         clear stq2
         have z0 := Z0.out
         have zdrew : W0.drew.heap.size = W0.heap.size := rfl
         go_at_call 58
         refine (s_l10Sum X1 nX1 cX1 x.2 _ (rd_at HX1.out (by first | exact hb | exact hb.drew)) HN1.out m1).mono ?_
         rintro e w3 ⟨rfl, rfl⟩
         rw [hS1.out]
         clear zdrew z0)
      | (have stq4 := stq3
         clear stq3
         have z0 := Z0.out
         have zdrew : W0.drew.heap.size = W0.heap.size := rfl
         go_at_call 58
         refine (s_l10Sum X0 nX cX0 x.1 _ (rd_at HX0.out (by first | exact hb | exact hb.drew)) HN0.out m0).mono ?_
         rintro e w4 ⟨rfl, rfl⟩
         rw [hS0.out]
         clear zdrew z0))
  have HB2 := Lib.hid hb
  clear hb
  go_wp2
  go_ret
  exact ⟨ret_bool HF.out.symm, HB2.out⟩

set_option maxHeartbeats 8000000 in
theorem X_i_MarkedCheck (v : Value) (x : MkD) (key : Int) (w : World) (h : RdMarked w w.heap.size v x) (hs : szMarked x ≤ 1048576) :
    Calls Try.prog 28 #[v, .int .i64 key] w fun e w' => e = .returned (.bool (chkB x key)) ∧ Below w.heap.size w w' := by
  obtain ⟨X0, nX, cX0, X1, nX1, cX1, rfl, aX0, aX1, lX0, lX1⟩ := h.open_
  have hz := szM hs
  have m0 : nX ≤ 1048576 := by omega
  have m1 : nX1 ≤ 1048576 := by omega
  have HXM := Lib.hid h
  have HX0 := Lib.hid aX0
  have HX1 := Lib.hid aX1
  clear h aX0 aX1 lX0 lX1 hz
  obtain ⟨W0, hW0⟩ : ∃ W, Hid (w.alloc (.cells #[.slice X0 nX cX0, .slice X1 nX1 cX1] 26) = W) := ⟨_, Lib.hid rfl⟩
  have HB : Hid (Below w.heap.size w W0) := Lib.hid (by rw [← hW0.out]; exact (Below.refl _ _).alloc (Nat.le_refl _) _)
  have HX_x : Hid (Bx W0 w.heap.size #[.slice X0 nX cX0, .slice X1 nX1 cX1] 26) := Lib.hid (by rw [← hW0.out]; exact Bx.new w _ _)
  have Z0 : Hid (W0.heap.size = w.heap.size + 1) := Lib.hid (by rw [← hW0.out]; simp only [World.size_alloc])
  cases e1 : markB x
  · have HF : Hid (chkB x key = false) := Lib.hid (by simp [chkB, e1])
    go_enter Try.func28, Try.ntmps28
    go_wp2
    rw [hW0.out]
    clear hW0
    refine wp_region_held_drew (S := fun w' => w'.cell? ⟨w.heap.size, 0, none⟩ = some (.slice X0 nX cX0) ∧ w'.cell? ⟨w.heap.size, 1, none⟩ = some (.slice X1 nX1 cX1)) (by kernel_rfl) ⟨HX_x.out.cell 0, HX_x.out.cell 1⟩ (fun hHeld => ?_)
    refine wpAnyH_take (i := 0) (oi := { dst := some 5, op := Op.load 26 (Operand.tmp 2), type := 26, pos := "l10_marks.go:108", after := #[], guard := none }) (v := ?_) rfl (by kernel_rfl) (by kernel_rfl) (by kernel_rfl) (fun _ _ _ h => h) (Or.inl ⟨by rfl, ?_⟩) hHeld ?_
    rotate_left
    · intro w hSw; obtain ⟨s0, s1⟩ := hSw; (try dsimp only at hSw); go_simp; (try with_reducible rfl)
    try simp only [Act.put, List.setIfInBounds_toArray, List.set_cons_zero, List.set_cons_succ]
    refine wpAnyH_ready (rs := [1]) (by kernel_rfl) (by simp) ?_
    refine AllReadyH.cons (o := { dst := some 6, op := Op.call { callee := Callee.value (Operand.func 52), args := #[Operand.tmp 5], argTypes := #[26] }, type := 4, pos := "l10_marks.go:108", after := #[{ on := 0, ground := Ground.data }], guard := none }) rfl (fun K hK => ?_) ?_
    · go_simp
      refine (X_i_MarkedOk _ x W0.drew (rdm_at HXM.out HB.out.drew) hs).mono ?_
      rintro e w1 ⟨rfl, hb_⟩
      have hbk : Below W0.heap.size W0 w1 := nb1 hb_
      have hb1 : Below w.heap.size w w1 := up_hb HB.out hbk
      have hx1 : Bx w1 w.heap.size #[.slice X0 nX cX0, .slice X1 nX1 cX1] 26 := up_bx HX_x.out hbk
      have HB1 := Lib.hid hb1
      clear hb_ hbk hb1
      rw [e1]
      refine hK.out _ _ ⟨hx1.cell 0, hx1.cell 1⟩ (fun hHeld => ?_)
      clear hK K
      try simp only [Act.put, List.setIfInBounds_toArray, List.set_cons_zero, List.set_cons_succ]
      refine wpAnyH_take (i := 2) (oi := { dst := some 7, op := Op.move (Operand.tmp 6), type := 4, pos := "l10_marks.go:108", after := #[{ on := 1, ground := Ground.data }, { on := 1, ground := Ground.chain }], guard := none }) (v := ?_) rfl (by kernel_rfl) (by kernel_rfl) (by kernel_rfl) (fun _ _ _ h => h) (Or.inl ⟨by rfl, ?_⟩) hHeld ?_
      rotate_left
      · intro w hSw; obtain ⟨s0, s1⟩ := hSw; (try dsimp only at hSw); go_simp; (try with_reducible rfl)
      try simp only [Act.put, List.setIfInBounds_toArray, List.set_cons_zero, List.set_cons_succ]
      refine wpAnyH_take (i := 3) (oi := { dst := some 8, op := Op.move (Operand.tmp 1), type := 3, pos := "l10_marks.go:108", after := #[{ on := 2, ground := Ground.guard }], guard := some (2, true) }) rfl (by kernel_rfl) (by kernel_rfl) (by kernel_rfl) (fun _ _ _ h => h) (Or.inr ⟨by rfl, rfl⟩) hHeld ?_
      try simp only [Act.put, List.setIfInBounds_toArray, List.set_cons_zero, List.set_cons_succ]
      refine wpAnyH_take (i := 4) (oi := { dst := some 9, op := Op.call { callee := Callee.value (Operand.func 71), args := #[Operand.tmp 8], argTypes := #[3] }, type := 4, pos := "l10_marks.go:108", after := #[{ on := 3, ground := Ground.data }, { on := 2, ground := Ground.chain }, { on := 2, ground := Ground.guard }], guard := some (2, true) }) rfl (by kernel_rfl) (by kernel_rfl) (by kernel_rfl) (fun _ _ _ h => h) (Or.inr ⟨by rfl, rfl⟩) hHeld ?_
      try simp only [Act.put, List.setIfInBounds_toArray, List.set_cons_zero, List.set_cons_succ]
      refine wpAnyH_take (i := 5) (oi := { dst := some 10, op := Op.pick (Operand.tmp 7) (Operand.tmp 9) (Operand.const (Value.bool false)), type := 4, pos := "l10_marks.go:108", after := #[{ on := 2, ground := Ground.data }, { on := 4, ground := Ground.data }], guard := none }) (v := ?_) rfl (by kernel_rfl) (by kernel_rfl) (by kernel_rfl) (fun _ _ _ h => h) (Or.inl ⟨by rfl, ?_⟩) hHeld ?_
      rotate_left
      · intro w hSw; obtain ⟨s0, s1⟩ := hSw; (try dsimp only at hSw); go_simp; (try with_reducible rfl)
      try simp only [Act.put, List.setIfInBounds_toArray, List.set_cons_zero, List.set_cons_succ]
      refine wpAnyH_take (i := 6) (oi := { dst := some 11, op := Op.move (Operand.tmp 10), type := 4, pos := "l10_marks.go:108", after := #[{ on := 5, ground := Ground.data }, { on := 4, ground := Ground.chain }], guard := none }) (v := ?_) rfl (by kernel_rfl) (by kernel_rfl) (by kernel_rfl) (fun _ _ _ h => h) (Or.inl ⟨by rfl, ?_⟩) hHeld ?_
      rotate_left
      · intro w hSw; obtain ⟨s0, s1⟩ := hSw; (try dsimp only at hSw); go_simp; (try with_reducible rfl)
      try simp only [Act.put, List.setIfInBounds_toArray, List.set_cons_zero, List.set_cons_succ]
      refine wpAnyH_take (i := 7) (oi := { dst := some 12, op := Op.load 26 (Operand.tmp 2), type := 26, pos := "l10_marks.go:108", after := #[{ on := 6, ground := Ground.guard }], guard := some (6, true) }) rfl (by kernel_rfl) (by kernel_rfl) (by kernel_rfl) (fun _ _ _ h => h) (Or.inr ⟨by rfl, rfl⟩) hHeld ?_
      try simp only [Act.put, List.setIfInBounds_toArray, List.set_cons_zero, List.set_cons_succ]
      refine wpAnyH_take (i := 8) (oi := { dst := some 13, op := Op.call { callee := Callee.value (Operand.func 78), args := #[Operand.tmp 12], argTypes := #[26] }, type := 99, pos := "l10_marks.go:108", after := #[{ on := 7, ground := Ground.data }, { on := 6, ground := Ground.chain }, { on := 6, ground := Ground.guard }], guard := some (6, true) }) rfl (by kernel_rfl) (by kernel_rfl) (by kernel_rfl) (fun _ _ _ h => h) (Or.inr ⟨by rfl, rfl⟩) hHeld ?_
      try simp only [Act.put, List.setIfInBounds_toArray, List.set_cons_zero, List.set_cons_succ]
      refine wpAnyH_take (i := 9) (oi := { dst := some 14, op := Op.call { callee := Callee.value (Operand.func 79), args := #[Operand.tmp 13], argTypes := #[99] }, type := 83, pos := "l10_marks.go:108", after := #[{ on := 8, ground := Ground.data }, { on := 8, ground := Ground.chain }, { on := 6, ground := Ground.guard }], guard := some (6, true) }) rfl (by kernel_rfl) (by kernel_rfl) (by kernel_rfl) (fun _ _ _ h => h) (Or.inr ⟨by rfl, rfl⟩) hHeld ?_
      try simp only [Act.put, List.setIfInBounds_toArray, List.set_cons_zero, List.set_cons_succ]
      refine wpAnyH_take (i := 10) (oi := { dst := some 15, op := Op.load 26 (Operand.tmp 2), type := 26, pos := "l10_marks.go:108", after := #[{ on := 6, ground := Ground.guard }], guard := some (6, true) }) rfl (by kernel_rfl) (by kernel_rfl) (by kernel_rfl) (fun _ _ _ h => h) (Or.inr ⟨by rfl, rfl⟩) hHeld ?_
      try simp only [Act.put, List.setIfInBounds_toArray, List.set_cons_zero, List.set_cons_succ]
      refine wpAnyH_take (i := 11) (oi := { dst := some 16, op := Op.call { callee := Callee.value (Operand.func 61), args := #[Operand.tmp 15], argTypes := #[26] }, type := 84, pos := "l10_marks.go:108", after := #[{ on := 10, ground := Ground.data }, { on := 9, ground := Ground.chain }, { on := 6, ground := Ground.guard }], guard := some (6, true) }) rfl (by kernel_rfl) (by kernel_rfl) (by kernel_rfl) (fun _ _ _ h => h) (Or.inr ⟨by rfl, rfl⟩) hHeld ?_
      try simp only [Act.put, List.setIfInBounds_toArray, List.set_cons_zero, List.set_cons_succ]
      refine wpAnyH_take (i := 12) (oi := { dst := some 17, op := Op.call { callee := Callee.value (Operand.func 62), args := #[Operand.tmp 16], argTypes := #[84] }, type := 83, pos := "l10_marks.go:108", after := #[{ on := 11, ground := Ground.data }, { on := 11, ground := Ground.chain }, { on := 6, ground := Ground.guard }], guard := some (6, true) }) rfl (by kernel_rfl) (by kernel_rfl) (by kernel_rfl) (fun _ _ _ h => h) (Or.inr ⟨by rfl, rfl⟩) hHeld ?_
      try simp only [Act.put, List.setIfInBounds_toArray, List.set_cons_zero, List.set_cons_succ]
      refine wpAnyH_take (i := 13) (oi := { dst := some 18, op := Op.move (Operand.tmp 1), type := 3, pos := "l10_marks.go:108", after := #[{ on := 6, ground := Ground.guard }], guard := some (6, true) }) rfl (by kernel_rfl) (by kernel_rfl) (by kernel_rfl) (fun _ _ _ h => h) (Or.inr ⟨by rfl, rfl⟩) hHeld ?_
      try simp only [Act.put, List.setIfInBounds_toArray, List.set_cons_zero, List.set_cons_succ]
      refine wpAnyH_take (i := 14) (oi := { dst := some 19, op := Op.call { callee := Callee.value (Operand.func 66), args := #[Operand.tmp 17, Operand.tmp 18], argTypes := #[83, 83] }, type := 83, pos := "l10_marks.go:108", after := #[{ on := 12, ground := Ground.data }, { on := 13, ground := Ground.data }, { on := 12, ground := Ground.chain }, { on := 6, ground := Ground.guard }], guard := some (6, true) }) rfl (by kernel_rfl) (by kernel_rfl) (by kernel_rfl) (fun _ _ _ h => h) (Or.inr ⟨by rfl, rfl⟩) hHeld ?_
      try simp only [Act.put, List.setIfInBounds_toArray, List.set_cons_zero, List.set_cons_succ]
      refine wpAnyH_take (i := 15) (oi := { dst := some 20, op := Op.binOp BinOp.eql 83 (Operand.tmp 14) (Operand.tmp 19) 83, type := 4, pos := "l10_marks.go:108", after := #[{ on := 9, ground := Ground.data }, { on := 14, ground := Ground.data }, { on := 6, ground := Ground.guard }], guard := some (6, true) }) rfl (by kernel_rfl) (by kernel_rfl) (by kernel_rfl) (fun _ _ _ h => h) (Or.inr ⟨by rfl, rfl⟩) hHeld ?_
      try simp only [Act.put, List.setIfInBounds_toArray, List.set_cons_zero, List.set_cons_succ]
      refine wpAnyH_take (i := 16) (oi := { dst := some 21, op := Op.pick (Operand.tmp 11) (Operand.tmp 20) (Operand.const (Value.bool false)), type := 4, pos := "l10_marks.go:108", after := #[{ on := 6, ground := Ground.data }, { on := 15, ground := Ground.data }], guard := none }) (v := ?_) rfl (by kernel_rfl) (by kernel_rfl) (by kernel_rfl) (fun _ _ _ h => h) (Or.inl ⟨by rfl, ?_⟩) hHeld ?_
      rotate_left
      · intro w hSw; obtain ⟨s0, s1⟩ := hSw; (try dsimp only at hSw); go_simp; (try with_reducible rfl)
      try simp only [Act.put, List.setIfInBounds_toArray, List.set_cons_zero, List.set_cons_succ]
      refine wpAnyH_take (i := 17) (oi := { dst := some 4, op := Op.assign (Operand.tmp 21), type := 4, pos := "l10_marks.go:108", after := #[{ on := 16, ground := Ground.data }, { on := 14, ground := Ground.chain }, { on := 0, ground := Ground.phase }, { on := 1, ground := Ground.phase }, { on := 2, ground := Ground.phase }, { on := 3, ground := Ground.phase }, { on := 4, ground := Ground.phase }, { on := 5, ground := Ground.phase }, { on := 6, ground := Ground.phase }, { on := 7, ground := Ground.phase }, { on := 8, ground := Ground.phase }, { on := 9, ground := Ground.phase }, { on := 10, ground := Ground.phase }, { on := 11, ground := Ground.phase }, { on := 12, ground := Ground.phase }, { on := 13, ground := Ground.phase }, { on := 14, ground := Ground.phase }, { on := 15, ground := Ground.phase }, { on := 16, ground := Ground.phase }], guard := none }) (v := ?_) rfl (by kernel_rfl) (by kernel_rfl) (by kernel_rfl) (fun _ _ _ h => h) (Or.inl ⟨by rfl, ?_⟩) hHeld ?_
      rotate_left
      · intro w hSw; obtain ⟨s0, s1⟩ := hSw; (try dsimp only at hSw); go_simp; (try with_reducible rfl)
      try simp only [Act.put, List.setIfInBounds_toArray, List.set_cons_zero, List.set_cons_succ]
      refine wpAnyH_done (by kernel_rfl) ?_ _
      clear hHeld
      go_wp2
      go_ret
      exact ⟨ret_bool HF.out.symm, HB1.out⟩
    exact AllReadyH.nil
  cases e2 : numB key
  · have HF : Hid (chkB x key = false) := Lib.hid (by simp [chkB, e2])
    go_enter Try.func28, Try.ntmps28
    go_wp2
    rw [hW0.out]
    clear hW0
    refine wp_region_held_drew (S := fun w' => w'.cell? ⟨w.heap.size, 0, none⟩ = some (.slice X0 nX cX0) ∧ w'.cell? ⟨w.heap.size, 1, none⟩ = some (.slice X1 nX1 cX1)) (by kernel_rfl) ⟨HX_x.out.cell 0, HX_x.out.cell 1⟩ (fun hHeld => ?_)
    refine wpAnyH_take (i := 0) (oi := { dst := some 5, op := Op.load 26 (Operand.tmp 2), type := 26, pos := "l10_marks.go:108", after := #[], guard := none }) (v := ?_) rfl (by kernel_rfl) (by kernel_rfl) (by kernel_rfl) (fun _ _ _ h => h) (Or.inl ⟨by rfl, ?_⟩) hHeld ?_
    rotate_left
    · intro w hSw; obtain ⟨s0, s1⟩ := hSw; (try dsimp only at hSw); go_simp; (try with_reducible rfl)
    try simp only [Act.put, List.setIfInBounds_toArray, List.set_cons_zero, List.set_cons_succ]
    refine wpAnyH_ready (rs := [1]) (by kernel_rfl) (by simp) ?_
    refine AllReadyH.cons (o := { dst := some 6, op := Op.call { callee := Callee.value (Operand.func 52), args := #[Operand.tmp 5], argTypes := #[26] }, type := 4, pos := "l10_marks.go:108", after := #[{ on := 0, ground := Ground.data }], guard := none }) rfl (fun K hK => ?_) ?_
    · go_simp
      refine (X_i_MarkedOk _ x W0.drew (rdm_at HXM.out HB.out.drew) hs).mono ?_
      rintro e w1 ⟨rfl, hb_⟩
      have hbk : Below W0.heap.size W0 w1 := nb1 hb_
      have hb1 : Below w.heap.size w w1 := up_hb HB.out hbk
      have hx1 : Bx w1 w.heap.size #[.slice X0 nX cX0, .slice X1 nX1 cX1] 26 := up_bx HX_x.out hbk
      have HB1 := Lib.hid hb1
      clear hb_ hbk hb1
      rw [e1]
      refine hK.out _ _ ⟨hx1.cell 0, hx1.cell 1⟩ (fun hHeld => ?_)
      clear hK K
      try simp only [Act.put, List.setIfInBounds_toArray, List.set_cons_zero, List.set_cons_succ]
      refine wpAnyH_take (i := 2) (oi := { dst := some 7, op := Op.move (Operand.tmp 6), type := 4, pos := "l10_marks.go:108", after := #[{ on := 1, ground := Ground.data }, { on := 1, ground := Ground.chain }], guard := none }) (v := ?_) rfl (by kernel_rfl) (by kernel_rfl) (by kernel_rfl) (fun _ _ _ h => h) (Or.inl ⟨by rfl, ?_⟩) hHeld ?_
      rotate_left
      · intro w hSw; obtain ⟨s0, s1⟩ := hSw; (try dsimp only at hSw); go_simp; (try with_reducible rfl)
      try simp only [Act.put, List.setIfInBounds_toArray, List.set_cons_zero, List.set_cons_succ]
      refine wpAnyH_take (i := 3) (oi := { dst := some 8, op := Op.move (Operand.tmp 1), type := 3, pos := "l10_marks.go:108", after := #[{ on := 2, ground := Ground.guard }], guard := some (2, true) }) (v := ?_) rfl (by kernel_rfl) (by kernel_rfl) (by kernel_rfl) (fun _ _ _ h => h) (Or.inl ⟨by rfl, ?_⟩) hHeld ?_
      rotate_left
      · intro w hSw; obtain ⟨s0, s1⟩ := hSw; (try dsimp only at hSw); go_simp; (try with_reducible rfl)
      try simp only [Act.put, List.setIfInBounds_toArray, List.set_cons_zero, List.set_cons_succ]
      refine wpAnyH_ready (rs := [4]) (by kernel_rfl) (by simp) ?_
      refine AllReadyH.cons (o := { dst := some 9, op := Op.call { callee := Callee.value (Operand.func 71), args := #[Operand.tmp 8], argTypes := #[3] }, type := 4, pos := "l10_marks.go:108", after := #[{ on := 3, ground := Ground.data }, { on := 2, ground := Ground.chain }, { on := 2, ground := Ground.guard }], guard := some (2, true) }) rfl (fun K hK => ?_) ?_
      · go_simp
        refine (i_NumOk _ _).mono ?_
        rintro e w' ⟨rfl, rfl⟩
        rw [e2]
        refine hK.out _ _ ⟨hx1.cell 0, hx1.cell 1⟩ (fun hHeld => ?_)
        clear hK K
        try simp only [Act.put, List.setIfInBounds_toArray, List.set_cons_zero, List.set_cons_succ]
        refine wpAnyH_take (i := 5) (oi := { dst := some 10, op := Op.pick (Operand.tmp 7) (Operand.tmp 9) (Operand.const (Value.bool false)), type := 4, pos := "l10_marks.go:108", after := #[{ on := 2, ground := Ground.data }, { on := 4, ground := Ground.data }], guard := none }) (v := ?_) rfl (by kernel_rfl) (by kernel_rfl) (by kernel_rfl) (fun _ _ _ h => h) (Or.inl ⟨by rfl, ?_⟩) hHeld ?_
        rotate_left
        · intro w hSw; obtain ⟨s0, s1⟩ := hSw; (try dsimp only at hSw); go_simp; (try with_reducible rfl)
        try simp only [Act.put, List.setIfInBounds_toArray, List.set_cons_zero, List.set_cons_succ]
        refine wpAnyH_take (i := 6) (oi := { dst := some 11, op := Op.move (Operand.tmp 10), type := 4, pos := "l10_marks.go:108", after := #[{ on := 5, ground := Ground.data }, { on := 4, ground := Ground.chain }], guard := none }) (v := ?_) rfl (by kernel_rfl) (by kernel_rfl) (by kernel_rfl) (fun _ _ _ h => h) (Or.inl ⟨by rfl, ?_⟩) hHeld ?_
        rotate_left
        · intro w hSw; obtain ⟨s0, s1⟩ := hSw; (try dsimp only at hSw); go_simp; (try with_reducible rfl)
        try simp only [Act.put, List.setIfInBounds_toArray, List.set_cons_zero, List.set_cons_succ]
        refine wpAnyH_take (i := 7) (oi := { dst := some 12, op := Op.load 26 (Operand.tmp 2), type := 26, pos := "l10_marks.go:108", after := #[{ on := 6, ground := Ground.guard }], guard := some (6, true) }) rfl (by kernel_rfl) (by kernel_rfl) (by kernel_rfl) (fun _ _ _ h => h) (Or.inr ⟨by rfl, rfl⟩) hHeld ?_
        try simp only [Act.put, List.setIfInBounds_toArray, List.set_cons_zero, List.set_cons_succ]
        refine wpAnyH_take (i := 8) (oi := { dst := some 13, op := Op.call { callee := Callee.value (Operand.func 78), args := #[Operand.tmp 12], argTypes := #[26] }, type := 99, pos := "l10_marks.go:108", after := #[{ on := 7, ground := Ground.data }, { on := 6, ground := Ground.chain }, { on := 6, ground := Ground.guard }], guard := some (6, true) }) rfl (by kernel_rfl) (by kernel_rfl) (by kernel_rfl) (fun _ _ _ h => h) (Or.inr ⟨by rfl, rfl⟩) hHeld ?_
        try simp only [Act.put, List.setIfInBounds_toArray, List.set_cons_zero, List.set_cons_succ]
        refine wpAnyH_take (i := 9) (oi := { dst := some 14, op := Op.call { callee := Callee.value (Operand.func 79), args := #[Operand.tmp 13], argTypes := #[99] }, type := 83, pos := "l10_marks.go:108", after := #[{ on := 8, ground := Ground.data }, { on := 8, ground := Ground.chain }, { on := 6, ground := Ground.guard }], guard := some (6, true) }) rfl (by kernel_rfl) (by kernel_rfl) (by kernel_rfl) (fun _ _ _ h => h) (Or.inr ⟨by rfl, rfl⟩) hHeld ?_
        try simp only [Act.put, List.setIfInBounds_toArray, List.set_cons_zero, List.set_cons_succ]
        refine wpAnyH_take (i := 10) (oi := { dst := some 15, op := Op.load 26 (Operand.tmp 2), type := 26, pos := "l10_marks.go:108", after := #[{ on := 6, ground := Ground.guard }], guard := some (6, true) }) rfl (by kernel_rfl) (by kernel_rfl) (by kernel_rfl) (fun _ _ _ h => h) (Or.inr ⟨by rfl, rfl⟩) hHeld ?_
        try simp only [Act.put, List.setIfInBounds_toArray, List.set_cons_zero, List.set_cons_succ]
        refine wpAnyH_take (i := 11) (oi := { dst := some 16, op := Op.call { callee := Callee.value (Operand.func 61), args := #[Operand.tmp 15], argTypes := #[26] }, type := 84, pos := "l10_marks.go:108", after := #[{ on := 10, ground := Ground.data }, { on := 9, ground := Ground.chain }, { on := 6, ground := Ground.guard }], guard := some (6, true) }) rfl (by kernel_rfl) (by kernel_rfl) (by kernel_rfl) (fun _ _ _ h => h) (Or.inr ⟨by rfl, rfl⟩) hHeld ?_
        try simp only [Act.put, List.setIfInBounds_toArray, List.set_cons_zero, List.set_cons_succ]
        refine wpAnyH_take (i := 12) (oi := { dst := some 17, op := Op.call { callee := Callee.value (Operand.func 62), args := #[Operand.tmp 16], argTypes := #[84] }, type := 83, pos := "l10_marks.go:108", after := #[{ on := 11, ground := Ground.data }, { on := 11, ground := Ground.chain }, { on := 6, ground := Ground.guard }], guard := some (6, true) }) rfl (by kernel_rfl) (by kernel_rfl) (by kernel_rfl) (fun _ _ _ h => h) (Or.inr ⟨by rfl, rfl⟩) hHeld ?_
        try simp only [Act.put, List.setIfInBounds_toArray, List.set_cons_zero, List.set_cons_succ]
        refine wpAnyH_take (i := 13) (oi := { dst := some 18, op := Op.move (Operand.tmp 1), type := 3, pos := "l10_marks.go:108", after := #[{ on := 6, ground := Ground.guard }], guard := some (6, true) }) rfl (by kernel_rfl) (by kernel_rfl) (by kernel_rfl) (fun _ _ _ h => h) (Or.inr ⟨by rfl, rfl⟩) hHeld ?_
        try simp only [Act.put, List.setIfInBounds_toArray, List.set_cons_zero, List.set_cons_succ]
        refine wpAnyH_take (i := 14) (oi := { dst := some 19, op := Op.call { callee := Callee.value (Operand.func 66), args := #[Operand.tmp 17, Operand.tmp 18], argTypes := #[83, 83] }, type := 83, pos := "l10_marks.go:108", after := #[{ on := 12, ground := Ground.data }, { on := 13, ground := Ground.data }, { on := 12, ground := Ground.chain }, { on := 6, ground := Ground.guard }], guard := some (6, true) }) rfl (by kernel_rfl) (by kernel_rfl) (by kernel_rfl) (fun _ _ _ h => h) (Or.inr ⟨by rfl, rfl⟩) hHeld ?_
        try simp only [Act.put, List.setIfInBounds_toArray, List.set_cons_zero, List.set_cons_succ]
        refine wpAnyH_take (i := 15) (oi := { dst := some 20, op := Op.binOp BinOp.eql 83 (Operand.tmp 14) (Operand.tmp 19) 83, type := 4, pos := "l10_marks.go:108", after := #[{ on := 9, ground := Ground.data }, { on := 14, ground := Ground.data }, { on := 6, ground := Ground.guard }], guard := some (6, true) }) rfl (by kernel_rfl) (by kernel_rfl) (by kernel_rfl) (fun _ _ _ h => h) (Or.inr ⟨by rfl, rfl⟩) hHeld ?_
        try simp only [Act.put, List.setIfInBounds_toArray, List.set_cons_zero, List.set_cons_succ]
        refine wpAnyH_take (i := 16) (oi := { dst := some 21, op := Op.pick (Operand.tmp 11) (Operand.tmp 20) (Operand.const (Value.bool false)), type := 4, pos := "l10_marks.go:108", after := #[{ on := 6, ground := Ground.data }, { on := 15, ground := Ground.data }], guard := none }) (v := ?_) rfl (by kernel_rfl) (by kernel_rfl) (by kernel_rfl) (fun _ _ _ h => h) (Or.inl ⟨by rfl, ?_⟩) hHeld ?_
        rotate_left
        · intro w hSw; obtain ⟨s0, s1⟩ := hSw; (try dsimp only at hSw); go_simp; (try with_reducible rfl)
        try simp only [Act.put, List.setIfInBounds_toArray, List.set_cons_zero, List.set_cons_succ]
        refine wpAnyH_take (i := 17) (oi := { dst := some 4, op := Op.assign (Operand.tmp 21), type := 4, pos := "l10_marks.go:108", after := #[{ on := 16, ground := Ground.data }, { on := 14, ground := Ground.chain }, { on := 0, ground := Ground.phase }, { on := 1, ground := Ground.phase }, { on := 2, ground := Ground.phase }, { on := 3, ground := Ground.phase }, { on := 4, ground := Ground.phase }, { on := 5, ground := Ground.phase }, { on := 6, ground := Ground.phase }, { on := 7, ground := Ground.phase }, { on := 8, ground := Ground.phase }, { on := 9, ground := Ground.phase }, { on := 10, ground := Ground.phase }, { on := 11, ground := Ground.phase }, { on := 12, ground := Ground.phase }, { on := 13, ground := Ground.phase }, { on := 14, ground := Ground.phase }, { on := 15, ground := Ground.phase }, { on := 16, ground := Ground.phase }], guard := none }) (v := ?_) rfl (by kernel_rfl) (by kernel_rfl) (by kernel_rfl) (fun _ _ _ h => h) (Or.inl ⟨by rfl, ?_⟩) hHeld ?_
        rotate_left
        · intro w hSw; obtain ⟨s0, s1⟩ := hSw; (try dsimp only at hSw); go_simp; (try with_reducible rfl)
        try simp only [Act.put, List.setIfInBounds_toArray, List.set_cons_zero, List.set_cons_succ]
        refine wpAnyH_done (by kernel_rfl) ?_ _
        clear hHeld
        go_wp2
        go_ret
        exact ⟨ret_bool HF.out.symm, HB1.out⟩
      exact AllReadyH.nil
    exact AllReadyH.nil
  have HF := Lib.hid (chk_t e1 e2)
  obtain ⟨t0, t1⟩ := (numB_iff key).1 e2
  have HN0 : Hid (Nums x.1) := Lib.hid (nums_of_B (markB_iff.1 e1).2.2.1)
  have HN1 : Hid (Nums x.2) := Lib.hid (nums_of_B (markB_iff.1 e1).2.2.2)
  obtain ⟨s0, s1⟩ := sumI_bd x.1
  obtain ⟨S0, hS0⟩ : ∃ S, Hid (sumI x.1 = S) := ⟨_, Lib.hid rfl⟩
  obtain ⟨S1, hS1⟩ : ∃ S, Hid (sumI x.2 = S) := ⟨_, Lib.hid rfl⟩
  rw [hS0.out] at s0 s1
  rw [hS0.out, hS1.out] at HF
  obtain ⟨m2, m3⟩ := mul_bd S0 key s0 s1 t0 t1
  have iw : IntKind.i64.wrap (S0 * key) = S0 * key := IntWalk.i64_in _ (by omega)
  have im : (S0 * key).tmod 113 = S0 * key % 113 := Int.tmod_eq_emod_of_nonneg m2
  go_enter Try.func28, Try.ntmps28
  go_wp2
  rw [hW0.out]
  clear hW0
  have hb := HB.out
  have hx_x := HX_x.out
  have hc_x_0 : W0.cell? ⟨w.heap.size, 0, none⟩ = some (.slice X0 nX cX0) := HX_x.out.cell 0
  have hc_x_1 : W0.cell? ⟨w.heap.size, 1, none⟩ = some (.slice X1 nX1 cX1) := HX_x.out.cell 1
  have stq0 : True := trivial
  go_region_held3 (fun w' => Below w.heap.size w w' ∧ (w').cell? ⟨w.heap.size, 0, none⟩ = some (.slice X0 nX cX0) ∧ (w').cell? ⟨w.heap.size, 1, none⟩ = some (.slice X1 nX1 cX1))
    (first | exact ⟨hb, hc_x_0, hc_x_1⟩ | exact ⟨hb.drew, hc_x_0, hc_x_1⟩)
    (first
      | (have stq1 := stq0
         clear stq0
         have z0 := Z0.out
         have zdrew : W0.drew.heap.size = W0.heap.size := rfl
         go_at_call 52
         refine (X_i_MarkedOk _ x _ (rdm_at HXM.out (by first | exact hb | exact hb.drew)) hs).mono ?_
         rintro e w1 ⟨rfl, hb_⟩
         have z1 := hb_.size
         have hbk : Below W0.heap.size W0 w1 := (by first | exact hb_ | exact nb1 hb_)
         replace hb : Below w.heap.size w w1 := up_hb hb hbk
         replace hx_x : Bx w1 (w.heap.size) #[.slice X0 nX cX0, .slice X1 nX1 cX1] 26 := up_bx hx_x hbk
         replace hc_x_0 : w1.cell? ⟨w.heap.size, 0, none⟩ = some (.slice X0 nX cX0) := hx_x.cell 0
         replace hc_x_1 : w1.cell? ⟨w.heap.size, 1, none⟩ = some (.slice X1 nX1 cX1) := hx_x.cell 1
         clear hbk
         rw [e1]
         clear hb_
         clear zdrew z0)
      | (have stq2 := stq1
         clear stq1
         have z0 := Z0.out
         have zdrew : W0.drew.heap.size = W0.heap.size := rfl
         go_at_call 71
         refine (i_NumOk _ _).mono ?_
         rintro e w2 ⟨rfl, rfl⟩
         rw [e2]
         clear zdrew z0)
      | (have stq3 := stq2
         clear stq2
         have z0 := Z0.out
         have zdrew : W0.drew.heap.size = W0.heap.size := rfl
         go_at_call 78
         refine (i_marks _ _ _).mono ?_
         rintro e w3 ⟨rfl, hb_⟩
         have z3 := hb_.size
         have hbk : Below w1.heap.size w1 w3 := (by first | exact hb_ | exact nb1 hb_)
         replace hb : Below w.heap.size w w3 := up_hb hb hbk
         replace hx_x : Bx w3 (w.heap.size) #[.slice X0 nX cX0, .slice X1 nX1 cX1] 26 := up_bx hx_x hbk
         replace hc_x_0 : w3.cell? ⟨w.heap.size, 0, none⟩ = some (.slice X0 nX cX0) := hx_x.cell 0
         replace hc_x_1 : w3.cell? ⟨w.heap.size, 1, none⟩ = some (.slice X1 nX1 cX1) := hx_x.cell 1
         clear hbk
         clear hb_
         clear zdrew z0)
      | (have stq4 := stq3
         clear stq3
         have z0 := Z0.out
         have zdrew : W0.drew.heap.size = W0.heap.size := rfl
         go_at_call 79
         refine (i_totalM X1 nX1 cX1 x.2 _ (rd_at HX1.out (by first | exact hb | exact hb.drew)) HN1.out m1).mono ?_
         rintro e w4 ⟨rfl, rfl⟩
         rw [hS1.out]
         clear zdrew z0)
      | (have stq5 := stq4
         clear stq4
         have z0 := Z0.out
         have zdrew : W0.drew.heap.size = W0.heap.size := rfl
         go_at_call 61
         refine (i_values _ _ _).mono ?_
         rintro e w5 ⟨rfl, hb_⟩
         have z5 := hb_.size
         have hbk : Below w3.heap.size w3 w5 := (by first | exact hb_ | exact nb1 hb_)
         replace hb : Below w.heap.size w w5 := up_hb hb hbk
         replace hx_x : Bx w5 (w.heap.size) #[.slice X0 nX cX0, .slice X1 nX1 cX1] 26 := up_bx hx_x hbk
         replace hc_x_0 : w5.cell? ⟨w.heap.size, 0, none⟩ = some (.slice X0 nX cX0) := hx_x.cell 0
         replace hc_x_1 : w5.cell? ⟨w.heap.size, 1, none⟩ = some (.slice X1 nX1 cX1) := hx_x.cell 1
         clear hbk
         clear hb_
         clear zdrew z0)
      | (have stq6 := stq5
         clear stq5
         have z0 := Z0.out
         have zdrew : W0.drew.heap.size = W0.heap.size := rfl
         go_at_call 62
         refine (i_totalV X0 nX cX0 x.1 _ (rd_at HX0.out (by first | exact hb | exact hb.drew)) HN0.out m0).mono ?_
         rintro e w6 ⟨rfl, rfl⟩
         rw [hS0.out]
         clear zdrew z0)
      | (have stq7 := stq6
         clear stq6
         have z0 := Z0.out
         have zdrew : W0.drew.heap.size = W0.heap.size := rfl
         go_at_call 66
         refine (i_times _ _ _ s0 s1 t0 t1).mono ?_
         rintro e w7 ⟨rfl, rfl⟩
         clear zdrew z0))
  have HB2 := Lib.hid hb
  clear hb
  go_wp2
  go_ret
  exact ⟨ret_bool HF.out.symm, HB2.out⟩
end Go.Proofs.Ytpejigfndkdhcaa

/- Chapter 10: MarkedMake of both sides. Made by tools/gen10/make.py. -/
namespace Go.Proofs.Ytpejigfndkdhcaa
open Go.RowKit
set_option maxRecDepth 100000

def mkN (n : Int) : Nat := (n - 1).toNat
def R_MarkedMake_1 (v k n : Int) (tape : List Int) : Bool := numB v && (numB k && (inB n 2 7 && (decide ((tape.length : Int) = 2 * (n - 1)) && numsB tape)))
def R_MarkedMake_0 (v k n : Int) (tape : List Int) : MkD := if R_MarkedMake_1 v k n tape = true then (splitL v (tape.take (mkN n)), splitL (v * k % 113) (tape.drop (mkN n))) else ([], [])
theorem nums_takeM {zs : List Int} (h : Nums zs) (m : Nat) : Nums (zs.take m) := fun j => by
  by_cases hj : j < m
  · have : (zs.take m).getD j 0 = zs.getD j 0 := by simp [hj]
    rw [this]; exact h j
  · rw [getD_out _ _ (by rw [List.length_take]; omega)]; omega
theorem nums_dropM {zs : List Int} (h : Nums zs) (m : Nat) : Nums (zs.drop m) := fun j => by
  have : (zs.drop m).getD j 0 = zs.getD (m + j) 0 := by simp
  rw [this]; exact h _
theorem addA (a : Addr) (i j : Nat) : (a.add i).add j = a.add (i + j) := by
  unfold Addr.add
  by_cases hi : i = 0
  · subst hi; simp
  · by_cases hj : j = 0
    · subst hj; simp [hi]
    · simp [hi, hj, Nat.add_assoc]
/-- ints cut off at the front -/
theorem Rd.cutI {w : World} {hi n k : Nat} {A : Option Addr} {zs : List Int} (h : Rd w hi 1 A n (cI zs)) (hk : k < n) : ∃ a, A = some a ∧ Rd w hi 1 (some (a.add k)) (n - k) (cI (zs.drop k)) := by
  have hl := h.len
  obtain ⟨a, e, hb, hc⟩ := h.2 (by omega)
  refine ⟨a, e, by rw [cI_length, List.length_drop]; omega, fun _ => ⟨_, rfl, by rw [add_block]; exact hb, fun j u hj => ?_⟩⟩
  have hj2 : j < (zs.drop k).length := by
    have := (List.getElem?_eq_some_iff.1 hj).1
    rw [cI_length] at this; exact this
  have e2 : (cI (zs.drop k))[j]? = (cI zs)[k + j]? := by simp [cI]
  rw [e2] at hj
  rw [addA]
  exact hc _ _ hj

set_option maxHeartbeats 8000000 in
theorem X_s_MarkedMake (u : Value) (v k n : Int) (tape : List Int) (w : World) (lo hi : Nat) (h : OwIntS w lo hi u tape) (hh : hi ≤ w.heap.size) (hs : szIntS tape ≤ 1048576) :
    Calls Try.prog 25 #[.int .i64 v, .int .i64 k, .int .i64 n, u] w fun e w' => ∃ g, e = .returned (.tuple #[g, .bool (R_MarkedMake_1 v k n tape)]) ∧ OwMarked w' w.heap.size w'.heap.size g (R_MarkedMake_0 v k n tape) ∧ Below w.heap.size w w' := by
  obtain ⟨_, A, N, c, rfl, ho⟩ := h
  have hnc := ho.2.1
  have hl := ho.len
  have hN : N ≤ 1048576 := by unfold szIntS at hs; omega
  have HK := Lib.hid (ho.rd.more hh)
  have HL := Lib.hid hl
  have no : R_MarkedMake_1 v k n tape = false → Hid (R_MarkedMake_1 v k n tape = false ∧ R_MarkedMake_0 v k n tape = ([], [])) := fun h => Lib.hid ⟨h, by unfold R_MarkedMake_0; rw [h]; rfl⟩
  clear ho hl hs hh
  obtain ⟨W0, hW0⟩ : ∃ W, Hid (w.alloc (.cells #[.slice none 0 0, .slice none 0 0] 26) = W) := ⟨_, Lib.hid rfl⟩
  have HB : Hid (Below w.heap.size w W0) := Lib.hid (by rw [← hW0.out]; exact (Below.refl _ _).alloc (Nat.le_refl _) _)
  have HX_R : Hid (Bx W0 w.heap.size #[.slice none 0 0, .slice none 0 0] 26) := Lib.hid (by rw [← hW0.out]; exact Bx.new w _ _)
  have Z0 : Hid (W0.heap.size = w.heap.size + 1) := Lib.hid (by rw [← hW0.out]; simp only [World.size_alloc])
  have HKW : Hid (Rd W0 W0.heap.size 1 A N (cI tape)) := Lib.hid (rd_at HK.out HB.out)
  cases e1 : numB v
  · have HF := no (by simp [R_MarkedMake_1, e1])
    have r0 : W0.cell? ⟨w.heap.size, 0, none⟩ = some (.slice none 0 0) := HX_R.out.cell 0
    have r1 : W0.cell? ⟨w.heap.size, 1, none⟩ = some (.slice none 0 0) := HX_R.out.cell 1
    have f0 : W0.frozen? ⟨w.heap.size, 0, none⟩ = false := HX_R.out.free 0
    have f1 : W0.frozen? ⟨w.heap.size, 1, none⟩ = false := HX_R.out.free 1
    go_enter Try.func25, Try.ntmps25
    go_wp2_with fail
    rw [hW0.out]
    clear hW0
    refine (s_NumOk _ _).mono ?_
    rintro e w' ⟨rfl, rfl⟩
    rw [e1]
    go_wp2
    have z0 := Z0.out
    exact bodyPost_ret (v := .tuple #[.agg #[.slice none 0 0, .slice none 0 0], .bool false]) (resM2 rfl rfl rfl (st_done HX_R.out)) rfl ⟨_, by rw [HF.out.1], by rw [HF.out.2]; exact OwMarked.nil_ _ _ _ (by have := (st_kept W0 w.heap.size (.slice none 0 0) (.slice none 0 0)).size; omega), st_below HB.out (Nat.le_refl _)⟩
  cases e2 : numB k
  · have HF := no (by simp [R_MarkedMake_1, e2])
    have r0 : W0.cell? ⟨w.heap.size, 0, none⟩ = some (.slice none 0 0) := HX_R.out.cell 0
    have r1 : W0.cell? ⟨w.heap.size, 1, none⟩ = some (.slice none 0 0) := HX_R.out.cell 1
    have f0 : W0.frozen? ⟨w.heap.size, 0, none⟩ = false := HX_R.out.free 0
    have f1 : W0.frozen? ⟨w.heap.size, 1, none⟩ = false := HX_R.out.free 1
    go_enter Try.func25, Try.ntmps25
    go_wp2_with fail
    rw [hW0.out]
    clear hW0
    refine (s_NumOk _ _).mono ?_
    rintro e w' ⟨rfl, rfl⟩
    rw [e1]
    go_wp2_with fail
    refine (s_NumOk _ _).mono ?_
    rintro e w' ⟨rfl, rfl⟩
    rw [e2]
    go_wp2
    have z0 := Z0.out
    exact bodyPost_ret (v := .tuple #[.agg #[.slice none 0 0, .slice none 0 0], .bool false]) (resM2 rfl rfl rfl (st_done HX_R.out)) rfl ⟨_, by rw [HF.out.1], by rw [HF.out.2]; exact OwMarked.nil_ _ _ _ (by have := (st_kept W0 w.heap.size (.slice none 0 0) (.slice none 0 0)).size; omega), st_below HB.out (Nat.le_refl _)⟩
  cases e3 : inB n 2 7
  · have HF := no (by simp [R_MarkedMake_1, e3])
    have r0 : W0.cell? ⟨w.heap.size, 0, none⟩ = some (.slice none 0 0) := HX_R.out.cell 0
    have r1 : W0.cell? ⟨w.heap.size, 1, none⟩ = some (.slice none 0 0) := HX_R.out.cell 1
    have f0 : W0.frozen? ⟨w.heap.size, 0, none⟩ = false := HX_R.out.free 0
    have f1 : W0.frozen? ⟨w.heap.size, 1, none⟩ = false := HX_R.out.free 1
    go_enter Try.func25, Try.ntmps25
    go_wp2_with fail
    rw [hW0.out]
    clear hW0
    refine (s_NumOk _ _).mono ?_
    rintro e w' ⟨rfl, rfl⟩
    rw [e1]
    go_wp2_with fail
    refine (s_NumOk _ _).mono ?_
    rintro e w' ⟨rfl, rfl⟩
    rw [e2]
    go_wp2_with fail
    refine (s_l6In _ _ _ _).mono ?_
    rintro e w' ⟨rfl, rfl⟩
    rw [e3]
    go_wp2
    have z0 := Z0.out
    exact bodyPost_ret (v := .tuple #[.agg #[.slice none 0 0, .slice none 0 0], .bool false]) (resM2 rfl rfl rfl (st_done HX_R.out)) rfl ⟨_, by rw [HF.out.1], by rw [HF.out.2]; exact OwMarked.nil_ _ _ _ (by have := (st_kept W0 w.heap.size (.slice none 0 0) (.slice none 0 0)).size; omega), st_below HB.out (Nat.le_refl _)⟩
  obtain ⟨n2, n7⟩ := inB_iff.1 e3
  obtain ⟨m, hm⟩ : ∃ m : Nat, n - 1 = (m : Int) := ⟨(n - 1).toNat, by omega⟩
  have HM : Hid (mkN n = m) := Lib.hid (by unfold mkN; omega)
  have m1 : 1 ≤ m := by omega
  have m6 : m ≤ 6 := by omega
  have iw : IntKind.i64.wrap (n - 1) = (m : Int) := by rw [hm]; exact IntWalk.i64_in _ (by omega)
  have iw2 : IntKind.i64.wrap (2 * (m : Int)) = 2 * (m : Int) := IntWalk.i64_in _ (by omega)
  have HMI := Lib.hid hm
  clear hm
  by_cases e4 : N = 2 * m
  rotate_left
  · have HF := no (by have h1 := HMI.out; have h2 := HL.out; have : ¬ (tape.length : Int) = 2 * (n - 1) := (by omega); simp [R_MarkedMake_1, this])
    have r0 : W0.cell? ⟨w.heap.size, 0, none⟩ = some (.slice none 0 0) := HX_R.out.cell 0
    have r1 : W0.cell? ⟨w.heap.size, 1, none⟩ = some (.slice none 0 0) := HX_R.out.cell 1
    have f0 : W0.frozen? ⟨w.heap.size, 0, none⟩ = false := HX_R.out.free 0
    have f1 : W0.frozen? ⟨w.heap.size, 1, none⟩ = false := HX_R.out.free 1
    have q1 : ((N : Int) != 2 * (m : Int)) = true := by rw [bne_iff_ne]; omega
    go_enter Try.func25, Try.ntmps25
    go_wp2_with fail
    rw [hW0.out]
    clear hW0
    refine (s_NumOk _ _).mono ?_
    rintro e w' ⟨rfl, rfl⟩
    rw [e1]
    go_wp2_with fail
    refine (s_NumOk _ _).mono ?_
    rintro e w' ⟨rfl, rfl⟩
    rw [e2]
    go_wp2_with fail
    refine (s_l6In _ _ _ _).mono ?_
    rintro e w' ⟨rfl, rfl⟩
    rw [e3]
    go_wp2
    have z0 := Z0.out
    exact bodyPost_ret (v := .tuple #[.agg #[.slice none 0 0, .slice none 0 0], .bool false]) (resM2 rfl rfl rfl (st_done HX_R.out)) rfl ⟨_, by rw [HF.out.1], by rw [HF.out.2]; exact OwMarked.nil_ _ _ _ (by have := (st_kept W0 w.heap.size (.slice none 0 0) (.slice none 0 0)).size; omega), st_below HB.out (Nat.le_refl _)⟩
  have q1 : ((N : Int) != 2 * (m : Int)) = false := by rw [bne_eq_false_iff_eq]; omega
  have HE4 := Lib.hid e4
  clear e4
  cases e5 : numsB tape
  · have HF := no (by simp [R_MarkedMake_1, e5])
    have r0 : W0.cell? ⟨w.heap.size, 0, none⟩ = some (.slice none 0 0) := HX_R.out.cell 0
    have r1 : W0.cell? ⟨w.heap.size, 1, none⟩ = some (.slice none 0 0) := HX_R.out.cell 1
    have f0 : W0.frozen? ⟨w.heap.size, 0, none⟩ = false := HX_R.out.free 0
    have f1 : W0.frozen? ⟨w.heap.size, 1, none⟩ = false := HX_R.out.free 1
    go_enter Try.func25, Try.ntmps25
    go_wp2_with fail
    rw [hW0.out]
    clear hW0
    refine (s_NumOk _ _).mono ?_
    rintro e w' ⟨rfl, rfl⟩
    rw [e1]
    go_wp2_with fail
    refine (s_NumOk _ _).mono ?_
    rintro e w' ⟨rfl, rfl⟩
    rw [e2]
    go_wp2_with fail
    refine (s_l6In _ _ _ _).mono ?_
    rintro e w' ⟨rfl, rfl⟩
    rw [e3]
    go_wp2_with fail
    refine (s_l1In _ _ _ _ _ HKW.out hN).mono ?_
    rintro e w' ⟨rfl, rfl⟩
    rw [e5]
    go_wp2
    have z0 := Z0.out
    exact bodyPost_ret (v := .tuple #[.agg #[.slice none 0 0, .slice none 0 0], .bool false]) (resM2 rfl rfl rfl (st_done HX_R.out)) rfl ⟨_, by rw [HF.out.1], by rw [HF.out.2]; exact OwMarked.nil_ _ _ _ (by have := (st_kept W0 w.heap.size (.slice none 0 0) (.slice none 0 0)).size; omega), st_below HB.out (Nat.le_refl _)⟩
  have HF : Hid (R_MarkedMake_1 v k n tape = true ∧ R_MarkedMake_0 v k n tape = (splitL v (tape.take m), splitL (v * k % 113) (tape.drop m))) := Lib.hid (by
    have h1 : R_MarkedMake_1 v k n tape = true := (by have := HE4.out; have := HMI.out; have := HL.out; have h9 : (tape.length : Int) = 2 * (n - 1) := (by omega); simp [R_MarkedMake_1, e1, e2, e3, e5, h9])
    exact ⟨h1, by unfold R_MarkedMake_0; rw [if_pos h1, HM.out]⟩)
  have HTN := Lib.hid (nums_of_B e5)
  have HN1 : Hid (Nums (tape.take m)) := Lib.hid (nums_takeM HTN.out m)
  have HN2 : Hid (Nums (tape.drop m)) := Lib.hid (nums_dropM HTN.out m)
  obtain ⟨a, rfl, hcd⟩ := HK.out.cutI (show m < N by have := HE4.out; omega)
  have HRD1 := Lib.hid (HK.out.cut (show m ≤ N by have := HE4.out; omega))
  have HRD2 := Lib.hid hcd
  clear hcd no
  obtain ⟨v0, v1⟩ := (numB_iff v).1 e1
  obtain ⟨k0, k1⟩ := (numB_iff k).1 e2
  obtain ⟨p0, p1⟩ := mul_bd v k v0 v1 k0 k1
  have ip : IntKind.i64.wrap (v * k) = v * k := IntWalk.i64_in _ (by omega)
  have it : (v * k).tmod 113 = v * k % 113 := Int.tmod_eq_emod_of_nonneg p0
  have hcm : ¬ c = m := by have := HE4.out; omega
  have s0 : (0 : Int) ≤ (m : Int) := by omega
  have s1 : (m : Int) ≤ (c : Int) := by have := HE4.out; omega
  have s2 : (m : Int) ≤ (N : Int) := by have := HE4.out; omega
  have s3 : (N : Int) ≤ (c : Int) := by omega
  go_enter Try.func25, Try.ntmps25
  go_wp2_with fail
  rw [hW0.out]
  clear hW0
  refine (s_NumOk _ _).mono ?_
  rintro e w' ⟨rfl, rfl⟩
  rw [e1]
  go_wp2_with fail
  refine (s_NumOk _ _).mono ?_
  rintro e w' ⟨rfl, rfl⟩
  rw [e2]
  go_wp2_with fail
  refine (s_l6In _ _ _ _).mono ?_
  rintro e w' ⟨rfl, rfl⟩
  rw [e3]
  go_wp2_with fail
  refine (s_l1In _ _ _ _ _ HKW.out hN).mono ?_
  rintro e w' ⟨rfl, rfl⟩
  rw [e5]
  go_wp2
  have hb := HB.out
  have hx_R := HX_R.out
  have stq0 : True := trivial
  go_region_held3 (fun w' => Below w.heap.size w w')
    (first | exact hb | exact hb.drew | exact hst _ _)
    (first
      | (have stq1 := stq0
         clear stq0
         have z0 := Z0.out
         have zdrew : W0.drew.heap.size = W0.heap.size := rfl
         go_at_call 77
         refine (s_l10Split v (some a) m c (tape.take m) _ (rd_at HRD1.out (by first | exact hb | exact hb.drew)) HN1.out (by omega) v0 v1).mono ?_
         rintro e w1 ⟨A3, c3, rfl, ho0, hb_⟩
         have z1 := hb_.size
         have hbk : Below W0.heap.size W0 w1 := (by first | exact hb_ | exact nb1 hb_)
         replace hb : Below w.heap.size w w1 := up_hb hb hbk
         replace hx_R : Bx w1 (w.heap.size) #[.slice none 0 0, .slice none 0 0] 26 := up_bx hx_R hbk
         clear hbk
         clear hb_
         clear zdrew z0)
      | (have stq2 := stq1
         clear stq1
         have z0 := Z0.out
         have zdrew : W0.drew.heap.size = W0.heap.size := rfl
         go_at_call 77
         refine (s_l10Split (v * k % 113) (some (a.add m)) (N - m) (c - m) (tape.drop m) _ (rd_at HRD2.out (by first | exact hb | exact hb.drew)) HN2.out (by have := HE4.out; omega) (by omega) (by omega)).mono ?_
         rintro e w2 ⟨A4, c4, rfl, ho1, hb_⟩
         have z2 := hb_.size
         have hbk : Below w1.heap.size w1 w2 := (by first | exact hb_ | exact nb1 hb_)
         replace hb : Below w.heap.size w w2 := up_hb hb hbk
         replace hx_R : Bx w2 (w.heap.size) #[.slice none 0 0, .slice none 0 0] 26 := up_bx hx_R hbk
         replace ho0 := ho0.below hbk (by omega)
         clear hbk
         clear hb_
         have hr0 : w2.cell? ⟨w.heap.size, 0, none⟩ = some (.slice none 0 0) := hx_R.cell 0
         have hf0 : w2.frozen? ⟨w.heap.size, 0, none⟩ = false := hx_R.free 0
         have hr1 : w2.cell? ⟨w.heap.size, 1, none⟩ = some (.slice none 0 0) := hx_R.cell 1
         have hf1 : w2.frozen? ⟨w.heap.size, 1, none⟩ = false := hx_R.free 1
         have hst : ∀ a b, Below w.heap.size w ((w2.setCell ⟨w.heap.size, 0, none⟩ a).setCell ⟨w.heap.size, 1, none⟩ b) := fun a b => st_below hb (by omega)
         clear zdrew z0))
  have HR := Lib.hid (st_done (a := .slice A3 (1 + m) c3) (b := .slice A4 (1 + (N - m)) c4) hx_R)
  have HKK := Lib.hid (st_kept w2 (w.heap.size) (.slice A3 (1 + m) c3) (.slice A4 (1 + (N - m)) c4))
  have HFB : Hid (Below w.heap.size w ((w2.setCell ⟨w.heap.size, 0, none⟩ (.slice A3 (1 + m) c3)).setCell ⟨w.heap.size, 1, none⟩ (.slice A4 (1 + (N - m)) c4))) := Lib.hid (st_below hb (by omega))
  have hsz := HKK.out.size
  have zdrew : W0.drew.heap.size = W0.heap.size := rfl
  clear hb hst
  go_wp2
  have z0 := Z0.out
  have hl0 : (splitL v (tape.take m)).length ≤ 1 + N := by simp only [splitL, List.length_cons, List.length_take]; have := HL.out; omega
  have hl1 : (splitL (v * k % 113) (tape.drop m)).length ≤ 1 + N := by simp only [splitL, List.length_cons, List.length_drop]; have := HL.out; omega
  have hn12 : N ≤ 12 := by have := HE4.out; omega
  exact bodyPost_ret (v := .tuple #[.agg #[.slice A3 (1 + m) c3, .slice A4 (1 + (N - m)) c4], .bool true]) (resM2 rfl rfl rfl HR.out) rfl ⟨_, by rw [HF.out.1], by rw [HF.out.2]; exact (OwMarked.of (ho0.kept HKK.out (by omega) (by omega)) (ho1.kept HKK.out (by omega) (by omega)) (by omega) (by omega) (by omega) (by omega)).widen (by omega) (by omega), HFB.out⟩

set_option maxHeartbeats 8000000 in
theorem X_i_MarkedMake (u : Value) (v k n : Int) (tape : List Int) (w : World) (lo hi : Nat) (h : OwIntS w lo hi u tape) (hh : hi ≤ w.heap.size) (hs : szIntS tape ≤ 1048576) :
    Calls Try.prog 24 #[.int .i64 v, .int .i64 k, .int .i64 n, u] w fun e w' => ∃ g, e = .returned (.tuple #[g, .bool (R_MarkedMake_1 v k n tape)]) ∧ OwMarked w' w.heap.size w'.heap.size g (R_MarkedMake_0 v k n tape) ∧ Below w.heap.size w w' := by
  obtain ⟨_, A, N, c, rfl, ho⟩ := h
  have hnc := ho.2.1
  have hl := ho.len
  have hN : N ≤ 1048576 := by unfold szIntS at hs; omega
  have HK := Lib.hid (ho.rd.more hh)
  have HL := Lib.hid hl
  have no : R_MarkedMake_1 v k n tape = false → Hid (R_MarkedMake_1 v k n tape = false ∧ R_MarkedMake_0 v k n tape = ([], [])) := fun h => Lib.hid ⟨h, by unfold R_MarkedMake_0; rw [h]; rfl⟩
  clear ho hl hs hh
  obtain ⟨W0, hW0⟩ : ∃ W, Hid (w.alloc (.cells #[.slice none 0 0, .slice none 0 0] 26) = W) := ⟨_, Lib.hid rfl⟩
  have HB : Hid (Below w.heap.size w W0) := Lib.hid (by rw [← hW0.out]; exact (Below.refl _ _).alloc (Nat.le_refl _) _)
  have HX_R : Hid (Bx W0 w.heap.size #[.slice none 0 0, .slice none 0 0] 26) := Lib.hid (by rw [← hW0.out]; exact Bx.new w _ _)
  have Z0 : Hid (W0.heap.size = w.heap.size + 1) := Lib.hid (by rw [← hW0.out]; simp only [World.size_alloc])
  have HKW : Hid (Rd W0 W0.heap.size 1 A N (cI tape)) := Lib.hid (rd_at HK.out HB.out)
  cases e1 : numB v
  · have HF := no (by simp [R_MarkedMake_1, e1])
    have r0 : W0.cell? ⟨w.heap.size, 0, none⟩ = some (.slice none 0 0) := HX_R.out.cell 0
    have r1 : W0.cell? ⟨w.heap.size, 1, none⟩ = some (.slice none 0 0) := HX_R.out.cell 1
    have f0 : W0.frozen? ⟨w.heap.size, 0, none⟩ = false := HX_R.out.free 0
    have f1 : W0.frozen? ⟨w.heap.size, 1, none⟩ = false := HX_R.out.free 1
    go_enter Try.func24, Try.ntmps24
    go_wp2_with fail
    rw [hW0.out]
    clear hW0
    refine (i_NumOk _ _).mono ?_
    rintro e w' ⟨rfl, rfl⟩
    rw [e1]
    go_wp2
    have z0 := Z0.out
    exact bodyPost_ret (v := .tuple #[.agg #[.slice none 0 0, .slice none 0 0], .bool false]) (resM2 rfl rfl rfl (st_done HX_R.out)) rfl ⟨_, by rw [HF.out.1], by rw [HF.out.2]; exact OwMarked.nil_ _ _ _ (by have := (st_kept W0 w.heap.size (.slice none 0 0) (.slice none 0 0)).size; omega), st_below HB.out (Nat.le_refl _)⟩
  cases e2 : numB k
  · have HF := no (by simp [R_MarkedMake_1, e2])
    have r0 : W0.cell? ⟨w.heap.size, 0, none⟩ = some (.slice none 0 0) := HX_R.out.cell 0
    have r1 : W0.cell? ⟨w.heap.size, 1, none⟩ = some (.slice none 0 0) := HX_R.out.cell 1
    have f0 : W0.frozen? ⟨w.heap.size, 0, none⟩ = false := HX_R.out.free 0
    have f1 : W0.frozen? ⟨w.heap.size, 1, none⟩ = false := HX_R.out.free 1
    go_enter Try.func24, Try.ntmps24
    go_wp2_with fail
    rw [hW0.out]
    clear hW0
    refine (i_NumOk _ _).mono ?_
    rintro e w' ⟨rfl, rfl⟩
    rw [e1]
    go_wp2_with fail
    refine (i_NumOk _ _).mono ?_
    rintro e w' ⟨rfl, rfl⟩
    rw [e2]
    go_wp2
    have z0 := Z0.out
    exact bodyPost_ret (v := .tuple #[.agg #[.slice none 0 0, .slice none 0 0], .bool false]) (resM2 rfl rfl rfl (st_done HX_R.out)) rfl ⟨_, by rw [HF.out.1], by rw [HF.out.2]; exact OwMarked.nil_ _ _ _ (by have := (st_kept W0 w.heap.size (.slice none 0 0) (.slice none 0 0)).size; omega), st_below HB.out (Nat.le_refl _)⟩
  by_cases n2 : 2 ≤ n
  rotate_left
  · have HF := no (by simp [R_MarkedMake_1, inB_f (show ¬ (2 ≤ n ∧ n ≤ 7) by omega)])
    have r0 : W0.cell? ⟨w.heap.size, 0, none⟩ = some (.slice none 0 0) := HX_R.out.cell 0
    have r1 : W0.cell? ⟨w.heap.size, 1, none⟩ = some (.slice none 0 0) := HX_R.out.cell 1
    have f0 : W0.frozen? ⟨w.heap.size, 0, none⟩ = false := HX_R.out.free 0
    have f1 : W0.frozen? ⟨w.heap.size, 1, none⟩ = false := HX_R.out.free 1
    have q : n < 2 := by omega
    go_enter Try.func24, Try.ntmps24
    go_wp2_with fail
    rw [hW0.out]
    clear hW0
    refine (i_NumOk _ _).mono ?_
    rintro e w' ⟨rfl, rfl⟩
    rw [e1]
    go_wp2_with fail
    refine (i_NumOk _ _).mono ?_
    rintro e w' ⟨rfl, rfl⟩
    rw [e2]
    go_wp2
    have z0 := Z0.out
    exact bodyPost_ret (v := .tuple #[.agg #[.slice none 0 0, .slice none 0 0], .bool false]) (resM2 rfl rfl rfl (st_done HX_R.out)) rfl ⟨_, by rw [HF.out.1], by rw [HF.out.2]; exact OwMarked.nil_ _ _ _ (by have := (st_kept W0 w.heap.size (.slice none 0 0) (.slice none 0 0)).size; omega), st_below HB.out (Nat.le_refl _)⟩
  by_cases n7 : n ≤ 7
  rotate_left
  · have HF := no (by simp [R_MarkedMake_1, inB_f (show ¬ (2 ≤ n ∧ n ≤ 7) by omega)])
    have r0 : W0.cell? ⟨w.heap.size, 0, none⟩ = some (.slice none 0 0) := HX_R.out.cell 0
    have r1 : W0.cell? ⟨w.heap.size, 1, none⟩ = some (.slice none 0 0) := HX_R.out.cell 1
    have f0 : W0.frozen? ⟨w.heap.size, 0, none⟩ = false := HX_R.out.free 0
    have f1 : W0.frozen? ⟨w.heap.size, 1, none⟩ = false := HX_R.out.free 1
    have q : 7 < n := by omega
    have q2 : ¬ n < 2 := by omega
    go_enter Try.func24, Try.ntmps24
    go_wp2_with fail
    rw [hW0.out]
    clear hW0
    refine (i_NumOk _ _).mono ?_
    rintro e w' ⟨rfl, rfl⟩
    rw [e1]
    go_wp2_with fail
    refine (i_NumOk _ _).mono ?_
    rintro e w' ⟨rfl, rfl⟩
    rw [e2]
    go_wp2
    have z0 := Z0.out
    exact bodyPost_ret (v := .tuple #[.agg #[.slice none 0 0, .slice none 0 0], .bool false]) (resM2 rfl rfl rfl (st_done HX_R.out)) rfl ⟨_, by rw [HF.out.1], by rw [HF.out.2]; exact OwMarked.nil_ _ _ _ (by have := (st_kept W0 w.heap.size (.slice none 0 0) (.slice none 0 0)).size; omega), st_below HB.out (Nat.le_refl _)⟩
  have e3 : inB n 2 7 = true := inB_t ⟨n2, n7⟩
  obtain ⟨m, hm⟩ : ∃ m : Nat, n - 1 = (m : Int) := ⟨(n - 1).toNat, by omega⟩
  have HM : Hid (mkN n = m) := Lib.hid (by unfold mkN; omega)
  have m1 : 1 ≤ m := by omega
  have m6 : m ≤ 6 := by omega
  have iw : IntKind.i64.wrap (n - 1) = (m : Int) := by rw [hm]; exact IntWalk.i64_in _ (by omega)
  have iw2 : IntKind.i64.wrap (2 * (m : Int)) = 2 * (m : Int) := IntWalk.i64_in _ (by omega)
  have HMI := Lib.hid hm
  clear hm
  cases e5 : (decide ((N : Int) = 2 * (m : Int)) && numsB tape)
  · have HF := no (by have h1 := HMI.out; have h2 := HL.out; rw [← h2, ← h1] at e5; simp [R_MarkedMake_1, e5])
    have r0 : W0.cell? ⟨w.heap.size, 0, none⟩ = some (.slice none 0 0) := HX_R.out.cell 0
    have r1 : W0.cell? ⟨w.heap.size, 1, none⟩ = some (.slice none 0 0) := HX_R.out.cell 1
    have f0 : W0.frozen? ⟨w.heap.size, 0, none⟩ = false := HX_R.out.free 0
    have f1 : W0.frozen? ⟨w.heap.size, 1, none⟩ = false := HX_R.out.free 1
    go_enter Try.func24, Try.ntmps24
    go_wp2_with fail
    rw [hW0.out]
    clear hW0
    refine (i_NumOk _ _).mono ?_
    rintro e w' ⟨rfl, rfl⟩
    rw [e1]
    go_wp2_with fail
    refine (i_NumOk _ _).mono ?_
    rintro e w' ⟨rfl, rfl⟩
    rw [e2]
    go_wp2_with fail
    refine (i_manyNumbers _ _ _ _ _ _ HKW.out hN).mono ?_
    rintro e w' ⟨rfl, rfl⟩
    rw [e5]
    go_wp2
    have z0 := Z0.out
    exact bodyPost_ret (v := .tuple #[.agg #[.slice none 0 0, .slice none 0 0], .bool false]) (resM2 rfl rfl rfl (st_done HX_R.out)) rfl ⟨_, by rw [HF.out.1], by rw [HF.out.2]; exact OwMarked.nil_ _ _ _ (by have := (st_kept W0 w.heap.size (.slice none 0 0) (.slice none 0 0)).size; omega), st_below HB.out (Nat.le_refl _)⟩
  have e4 : N = 2 * m := by simp only [Bool.and_eq_true, decide_eq_true_eq] at e5; omega
  have e5b : numsB tape = true := by simp only [Bool.and_eq_true] at e5; exact e5.2
  have HE4 := Lib.hid e4
  clear e4
  have HF : Hid (R_MarkedMake_1 v k n tape = true ∧ R_MarkedMake_0 v k n tape = (splitL v (tape.take m), splitL (v * k % 113) (tape.drop m))) := Lib.hid (by
    have h1 : R_MarkedMake_1 v k n tape = true := (by have := HE4.out; have := HMI.out; have := HL.out; have h9 : (tape.length : Int) = 2 * (n - 1) := (by omega); simp [R_MarkedMake_1, e1, e2, e3, e5b, h9])
    exact ⟨h1, by unfold R_MarkedMake_0; rw [if_pos h1, HM.out]⟩)
  have HTN := Lib.hid (nums_of_B e5b)
  have HN1 : Hid (Nums (tape.take m)) := Lib.hid (nums_takeM HTN.out m)
  have HN2 : Hid (Nums (tape.drop m)) := Lib.hid (nums_dropM HTN.out m)
  obtain ⟨a, rfl, hcd⟩ := HK.out.cutI (show m < N by have := HE4.out; omega)
  have HRD1 := Lib.hid (HK.out.cut (show m ≤ N by have := HE4.out; omega))
  have HRD2 := Lib.hid hcd
  clear hcd no
  obtain ⟨v0, v1⟩ := (numB_iff v).1 e1
  obtain ⟨k0, k1⟩ := (numB_iff k).1 e2
  obtain ⟨p0, p1⟩ := mul_bd v k v0 v1 k0 k1
  have ip : IntKind.i64.wrap (v * k) = v * k := IntWalk.i64_in _ (by omega)
  have it : (v * k).tmod 113 = v * k % 113 := Int.tmod_eq_emod_of_nonneg p0
  have hcm : ¬ c = m := by have := HE4.out; omega
  have s0 : (0 : Int) ≤ (m : Int) := by omega
  have s1 : (m : Int) ≤ (c : Int) := by have := HE4.out; omega
  have s2 : (m : Int) ≤ (N : Int) := by have := HE4.out; omega
  have s3 : (N : Int) ≤ (c : Int) := by omega
  go_enter Try.func24, Try.ntmps24
  go_wp2_with fail
  rw [hW0.out]
  clear hW0
  refine (i_NumOk _ _).mono ?_
  rintro e w' ⟨rfl, rfl⟩
  rw [e1]
  go_wp2_with fail
  refine (i_NumOk _ _).mono ?_
  rintro e w' ⟨rfl, rfl⟩
  rw [e2]
  go_wp2_with fail
  refine (i_manyNumbers _ _ _ _ _ _ HKW.out hN).mono ?_
  rintro e w' ⟨rfl, rfl⟩
  rw [e5]
  go_wp2_with fail
  refine (i_times _ _ _ v0 v1 k0 k1).mono ?_
  rintro e w' ⟨rfl, rfl⟩
  clear ip it
  go_wp2
  have hb := HB.out
  have hx_R := HX_R.out
  have stq0 : True := trivial
  go_region_held3 (fun w' => Below w.heap.size w w')
    (first | exact hb | exact hb.drew | exact hst _ _)
    (first
      | (have stq1 := stq0
         clear stq0
         have z0 := Z0.out
         have zdrew : W0.drew.heap.size = W0.heap.size := rfl
         go_at_call 73
         refine (i_sumsToV v (some a) m c (tape.take m) _ (rd_at HRD1.out (by first | exact hb | exact hb.drew)) HN1.out (by omega) v0 v1).mono ?_
         rintro e w1 ⟨A3, c3, rfl, ho0, hb_⟩
         have z1 := hb_.size
         have hbk : Below W0.heap.size W0 w1 := (by first | exact hb_ | exact nb1 hb_)
         replace hb : Below w.heap.size w w1 := up_hb hb hbk
         replace hx_R : Bx w1 (w.heap.size) #[.slice none 0 0, .slice none 0 0] 26 := up_bx hx_R hbk
         clear hbk
         clear hb_
         clear zdrew z0)
      | (have stq2 := stq1
         clear stq1
         have z0 := Z0.out
         have zdrew : W0.drew.heap.size = W0.heap.size := rfl
         go_at_call 74
         refine (i_sumsToM (v * k % 113) (some (a.add m)) (N - m) (c - m) (tape.drop m) _ (rd_at HRD2.out (by first | exact hb | exact hb.drew)) HN2.out (by have := HE4.out; omega) (by omega) (by omega)).mono ?_
         rintro e w2 ⟨A4, c4, rfl, ho1, hb_⟩
         have z2 := hb_.size
         have hbk : Below w1.heap.size w1 w2 := (by first | exact hb_ | exact nb1 hb_)
         replace hb : Below w.heap.size w w2 := up_hb hb hbk
         replace hx_R : Bx w2 (w.heap.size) #[.slice none 0 0, .slice none 0 0] 26 := up_bx hx_R hbk
         replace ho0 := ho0.below hbk (by omega)
         clear hbk
         clear hb_
         have hr0 : w2.cell? ⟨w.heap.size, 0, none⟩ = some (.slice none 0 0) := hx_R.cell 0
         have hf0 : w2.frozen? ⟨w.heap.size, 0, none⟩ = false := hx_R.free 0
         have hr1 : w2.cell? ⟨w.heap.size, 1, none⟩ = some (.slice none 0 0) := hx_R.cell 1
         have hf1 : w2.frozen? ⟨w.heap.size, 1, none⟩ = false := hx_R.free 1
         have hst : ∀ a b, Below w.heap.size w ((w2.setCell ⟨w.heap.size, 0, none⟩ a).setCell ⟨w.heap.size, 1, none⟩ b) := fun a b => st_below hb (by omega)
         clear zdrew z0))
  have HR := Lib.hid (st_done (a := .slice A3 (1 + m) c3) (b := .slice A4 (1 + (N - m)) c4) hx_R)
  have HKK := Lib.hid (st_kept w2 (w.heap.size) (.slice A3 (1 + m) c3) (.slice A4 (1 + (N - m)) c4))
  have HFB : Hid (Below w.heap.size w ((w2.setCell ⟨w.heap.size, 0, none⟩ (.slice A3 (1 + m) c3)).setCell ⟨w.heap.size, 1, none⟩ (.slice A4 (1 + (N - m)) c4))) := Lib.hid (st_below hb (by omega))
  have hsz := HKK.out.size
  have zdrew : W0.drew.heap.size = W0.heap.size := rfl
  clear hb hst
  go_wp2
  have z0 := Z0.out
  have hl0 : (splitL v (tape.take m)).length ≤ 1 + N := by simp only [splitL, List.length_cons, List.length_take]; have := HL.out; omega
  have hl1 : (splitL (v * k % 113) (tape.drop m)).length ≤ 1 + N := by simp only [splitL, List.length_cons, List.length_drop]; have := HL.out; omega
  have hn12 : N ≤ 12 := by have := HE4.out; omega
  exact bodyPost_ret (v := .tuple #[.agg #[.slice A3 (1 + m) c3, .slice A4 (1 + (N - m)) c4], .bool true]) (resM2 rfl rfl rfl HR.out) rfl ⟨_, by rw [HF.out.1], by rw [HF.out.2]; exact (OwMarked.of (ho0.kept HKK.out (by omega) (by omega)) (ho1.kept HKK.out (by omega) (by omega)) (by omega) (by omega) (by omega) (by omega)).widen (by omega) (by omega), HFB.out⟩
end Go.Proofs.Ytpejigfndkdhcaa

/- Chapters 10 and 11: what P53, P63, P67 say. No word of a program. -/
namespace Go.Proofs.Ytpejigfndkdhcaa
open Go.RowKit
set_option maxRecDepth 100000

theorem sumK_cons (a : Int) (rest : List Int) (k : Nat) : sumK (a :: rest) (k + 1) = (a + sumK rest k) % 113 := by
  induction k with
  | zero => simp [sumK]
  | succ k ih =>
    have e : sumK (a :: rest) (k + 1 + 1) = (sumK (a :: rest) (k + 1) + (a :: rest).getD (k + 1) 0) % 113 := rfl
    rw [e, ih, List.getD_cons_succ, sumK]
    omega
theorem sum_split {v : Int} (rest : List Int) (h0 : 0 ≤ v) (h1 : v ≤ 112) : sumI (splitL v rest) = v := by
  unfold sumI splitL
  rw [List.length_cons, sumK_cons]
  show (((v - sumI rest) % 113) + sumI rest) % 113 = v
  omega
theorem split_len (v : Int) (rest : List Int) : (splitL v rest).length = rest.length + 1 := rfl
theorem split_nums (v : Int) {rest : List Int} (h : Nums rest) : numsB (splitL v rest) = true := by
  apply B_of_nums
  intro j
  cases j with
  | zero => show 0 ≤ (v - sumI rest) % 113 ∧ (v - sumI rest) % 113 ≤ 112; omega
  | succ j => exact h j
theorem make_right {v k n : Int} {tape : List Int} (h : R_MarkedMake_1 v k n tape = true) :
    markB (R_MarkedMake_0 v k n tape) = true ∧ markS (R_MarkedMake_0 v k n tape) = v ∧ chkB (R_MarkedMake_0 v k n tape) k = true ∧ ((R_MarkedMake_0 v k n tape).1.length : Int) = n := by
  have hh := h
  unfold R_MarkedMake_1 at hh
  simp only [Bool.and_eq_true, decide_eq_true_eq, inB_iff, numB_iff] at hh
  obtain ⟨⟨v0, v1⟩, ⟨k0, k1⟩, ⟨n2, n7⟩, hl, ht⟩ := hh
  have hN := nums_of_B ht
  obtain ⟨m, hm⟩ : ∃ m : Nat, n - 1 = (m : Int) := ⟨(n - 1).toNat, by omega⟩
  have em : mkN n = m := by unfold mkN; rw [hm]; rfl
  have e : R_MarkedMake_0 v k n tape = (splitL v (tape.take m), splitL (v * k % 113) (tape.drop m)) := by unfold R_MarkedMake_0; rw [if_pos h, em]
  have l1 : (tape.take m).length = m := by rw [List.length_take]; omega
  have l2 : (tape.drop m).length = m := by rw [List.length_drop]; omega
  have hb : markB (splitL v (tape.take m), splitL (v * k % 113) (tape.drop m)) = true := by
    rw [markB_iff]
    refine ⟨⟨?_, ?_⟩, ?_, split_nums _ (nums_takeM hN m), split_nums _ (nums_dropM hN m)⟩
    · rw [split_len, l1]; omega
    · rw [split_len, l1]; omega
    · rw [split_len, split_len, l1, l2]
  rw [e]
  refine ⟨hb, ?_, ?_, ?_⟩
  · unfold markS; rw [if_pos hb]; exact sum_split _ v0 v1
  · unfold chkB
    rw [hb, (numB_iff k).2 ⟨k0, k1⟩]
    have s1 : sumI (splitL v (tape.take m)) = v := sum_split _ v0 v1
    have s2 : sumI (splitL (v * k % 113) (tape.drop m)) = v * k % 113 := sum_split _ (by omega) (by omega)
    simp only [s1, s2, decide_true, Bool.and_self]
  · rw [split_len, l1]; omega

theorem answer_take {d xs : List Int} {pl t : Int} {i : Nat} (h : R_ChoiceAnswer_1 (d, pl) xs t = true) (hi : i < xs.length) :
    takeB (R_ChoiceAnswer_0 (d, pl) xs t) i (d.getD (((i : Int) + t) % xs.length).toNat 0) = true ∧ takeV (R_ChoiceAnswer_0 (d, pl) xs t) i (d.getD (((i : Int) + t) % xs.length).toNat 0) = xs.getD i 0 := by
  have hh := h
  unfold R_ChoiceAnswer_1 thingsB dealB at hh
  simp only [Bool.and_eq_true, decide_eq_true_eq, inB_iff] at hh
  obtain ⟨⟨⟨⟨n2, n8⟩, hd, p0, p1⟩, hl, hx⟩, t0, t1⟩ := hh
  have e : R_ChoiceAnswer_0 (d, pl) xs t = mapK (fun x y => x + y) xs (atM d t d.length) d.length := by unfold R_ChoiceAnswer_0; rw [if_pos h]
  rw [e, hl]
  have hi2 : i < d.length := by omega
  have ge : (mapK (fun x y => x + y) xs (atM d t d.length) d.length).getD i 0 = (xs.getD i 0 + d.getD (((i : Int) + t) % d.length).toNat 0) % 113 := by
    rw [mapK_at _ _ _ hi2]; rfl
  have hM := nums_of_B hd (((i : Int) + t) % d.length).toNat
  have hX := nums_of_B hx i
  generalize d.getD (((i : Int) + t) % d.length).toNat 0 = m at *
  have hB : takeB (mapK (fun x y => x + y) xs (atM d t d.length) d.length) i m = true := by
    unfold takeB
    rw [mapK_length, inB_t ⟨n2, n8⟩, inB_t ⟨by omega, by omega⟩, (numB_iff m).2 hM]
    have : numsB (mapK (fun x y => x + y) xs (atM d t d.length) d.length) = true := by
      rw [mapK_map]
      unfold numsB
      rw [List.all_eq_true]
      intro z hz
      obtain ⟨j, _, rfl⟩ := List.mem_map.1 hz
      exact (numB_iff _).2 (by unfold mapE; omega)
    rw [this]; rfl
  refine ⟨hB, ?_⟩
  unfold takeV
  rw [if_pos hB, Int.toNat_natCast, ge]
  omega
theorem choice_whole {d a : List Int} {pl : Int} {k : Int} (hB : askB (d, pl) k = true) (hl : a.length = d.length) (ha : numsB a = true) :
    R_ChoiceAnswer_1 (d, pl) a (askV (d, pl) k) = true ∧ takeB (R_ChoiceAnswer_0 (d, pl) a (askV (d, pl) k)) k (d.getD pl.toNat 0) = true ∧ takeV (R_ChoiceAnswer_0 (d, pl) a (askV (d, pl) k)) k (d.getD pl.toNat 0) = a.getD k.toNat 0 ∧ (0 ≤ pl ∧ pl < d.length) ∧ (0 ≤ k ∧ k < d.length) := by
  have hh := hB
  unfold askB dealB at hh
  simp only [Bool.and_eq_true, inB_iff] at hh
  obtain ⟨⟨⟨n2, n8⟩, hd, p0, p1⟩, k0, k1⟩ := hh
  have hv : askV (d, pl) k = (pl - k) % d.length := by unfold askV; rw [if_pos hB]
  have bd := emod_bd (pl - k) (show 0 < (d.length : Int) by omega)
  have h1 : R_ChoiceAnswer_1 (d, pl) a (askV (d, pl) k) = true := by
    unfold R_ChoiceAnswer_1 thingsB dealB
    rw [hv, inB_t ⟨n2, n8⟩, hd, inB_t ⟨p0, p1⟩, decide_eq_true hl, ha, inB_t ⟨bd.1, by show _ ≤ (d.length : Int) - 1; omega⟩]; rfl
  obtain ⟨j, rfl⟩ := Int.eq_ofNat_of_zero_le k0
  have hj : j < a.length := by omega
  have ht := answer_take h1 hj
  have e : ((j : Int) + askV (d, pl) j) % (a.length : Int) = pl := by
    rw [hv, hl, Int.add_comm]
    exact turn2 p0 (by omega)
  rw [e] at ht
  exact ⟨h1, ht.1, by rw [ht.2]; rfl, ⟨p0, by omega⟩, ⟨by omega, by omega⟩⟩
end Go.Proofs.Ytpejigfndkdhcaa

/- P53, P67: the laws' walks. Made by tools/plain/p10.py. -/
namespace Go.Proofs.Ytpejigfndkdhcaa
open Go.RowKit
set_option maxRecDepth 100000

set_option maxHeartbeats 4000000 in
theorem P67_walk (A : Option Addr) (n c : Nat) (bs : List Int) (w : World) (h : Rd w w.heap.size 1 A n (cU bs)) (hby : Byt bs) (hc : n ≤ c) (hm : n ≤ 9223372036854775807) :
    Calls Try.prog 9 #[.slice A n c] w fun e w' => e = .returned (.bool true) ∧ Below w.heap.size w w' := by
  by_cases hn : n ≤ 1048576
  · have h3 : ¬ ((1048576 : Int) < (n : Int)) := by omega
    have H := Lib.hid h
    clear h
    go_enter Try.func9, Try.ntmps9
    go_wp2_with fail
    refine (d_DrawChoiceMasks _ _ _ _ _ H.out hby hn hc).mono ?_
    rintro e w1 ⟨Am, nm, cm, pl, d, k, va, a, vb, rfl, h_d, h_a, ⟨hal, han⟩, hb⟩
    have z1 : w.heap.size ≤ w1.heap.size := hb.size
    have HB := Lib.hid hb
    have HO_d := Lib.hid h_d
    have HO_a := Lib.hid h_a
    clear hb h_d h_a
    go_wp2_with fail
    obtain ⟨w2, hW2⟩ : ∃ W, Hid (w1.alloc (.cells #[.slice Am nm cm, .int .i64 pl] 52) = W) := ⟨_, Lib.hid rfl⟩
    try rw [hW2.out]
    have z2 : w1.heap.size < w2.heap.size := by rw [← hW2.out, World.size_alloc]; omega
    have ha2 : Below w1.heap.size w1 w2 := by rw [← hW2.out]; exact (Below.refl _ _).alloc (Nat.le_refl _) _
    replace HO_d := Lib.hid (HO_d.out.below ha2 (by omega))
    replace HO_a := Lib.hid (HO_a.out.below ha2 (by omega))
    have HX_x : Hid (Bx w2 w1.heap.size #[.slice Am nm cm, .int .i64 pl] 52) := Lib.hid (by rw [← hW2.out]; exact Bx.new _ _ _)
    replace HB := Lib.hid (HB.out.trans (ha2.mono (by omega)))
    clear ha2 hW2
    refine (X_i_ChoiceAsk _ (d, pl) k _ ⟨_, _, _, rfl, HO_d.out.rd.more (by omega)⟩ (show szDeal (d, pl) ≤ 1048576 from HO_d.out.small)).mono ?_
    rintro e w3 ⟨rfl, hb⟩
    have z3 : w2.heap.size ≤ w3.heap.size := hb.size
    replace HO_d := Lib.hid (HO_d.out.below hb (by omega))
    replace HO_a := Lib.hid (HO_a.out.below hb (by omega))
    replace HX_x := Lib.hid (HX_x.out.below hb HX_x.out.lt)
    replace HB := Lib.hid (HB.out.trans (hb.mono (by omega)))
    clear hb
    have fc4 : w3.cell? ⟨w1.heap.size, 0, none⟩ = some (.slice Am nm cm) := HX_x.out.cell 0
    have fc5 : w3.cell? ⟨w1.heap.size, 1, none⟩ = some (.int .i64 pl) := HX_x.out.cell 1
    go_wp2_with fail
    clear fc4 fc5
    refine (X_s_ChoiceAsk _ (d, pl) k _ ⟨_, _, _, rfl, HO_d.out.rd.more (by omega)⟩ (show szDeal (d, pl) ≤ 1048576 from HO_d.out.small)).mono ?_
    rintro e w6 ⟨rfl, hb⟩
    have z6 : w3.heap.size ≤ w6.heap.size := hb.size
    replace HO_d := Lib.hid (HO_d.out.below hb (by omega))
    replace HO_a := Lib.hid (HO_a.out.below hb (by omega))
    replace HX_x := Lib.hid (HX_x.out.below hb HX_x.out.lt)
    replace HB := Lib.hid (HB.out.trans (hb.mono (by omega)))
    clear hb
    cases hB : askB (d, pl) k
    · have fc7 : w6.cell? ⟨w1.heap.size, 0, none⟩ = some (.slice Am nm cm) := HX_x.out.cell 0
      have fc8 : w6.cell? ⟨w1.heap.size, 1, none⟩ = some (.int .i64 pl) := HX_x.out.cell 1
      go_wp2
      go_ret
      exact ⟨rfl, HB.out⟩
    have HQ := Lib.hid (choice_whole hB hal han)
    clear hB
    obtain ⟨V, hV⟩ : ∃ V, Hid (askV (d, pl) k = V) := ⟨_, Lib.hid rfl⟩
    rw [hV.out] at HQ
    rw [hV.out]
    have fc9 : w6.cell? ⟨w1.heap.size, 0, none⟩ = some (.slice Am nm cm) := HX_x.out.cell 0
    have fc10 : w6.cell? ⟨w1.heap.size, 1, none⟩ = some (.int .i64 pl) := HX_x.out.cell 1
    go_wp2_with fail
    clear fc9 fc10
    refine (X_i_ChoiceAnswer _ _ (d, pl) a V _ ⟨_, _, _, rfl, HO_d.out.rd.more (by omega)⟩ (HO_a.out.rd.more (by omega)) (show szDeal (d, pl) ≤ 1048576 from HO_d.out.small) HO_a.out.small).mono ?_
    rintro e w11 ⟨vg, rfl, h_g, hb⟩
    have z11 : w6.heap.size ≤ w11.heap.size := hb.size
    replace HO_d := Lib.hid (HO_d.out.below hb (by omega))
    replace HO_a := Lib.hid (HO_a.out.below hb (by omega))
    replace HX_x := Lib.hid (HX_x.out.below hb HX_x.out.lt)
    replace HB := Lib.hid (HB.out.trans (hb.mono (by omega)))
    have HO_g := Lib.hid h_g
    clear hb h_g
    rw [HQ.out.1]
    have hp := HQ.out.2.2.2.1
    have hk := HQ.out.2.2.2.2
    obtain ⟨k, rfl⟩ := Int.eq_ofNat_of_zero_le hk.1
    obtain ⟨pl, rfl⟩ := Int.eq_ofNat_of_zero_le hp.1
    obtain ⟨_, A1, n1, c1, e1, od⟩ := HO_d.out
    injection e1 with g1 g2 g3
    subst g1 g2 g3
    have hdl := od.len
    obtain ⟨ad, m, hA, had, hcm, HM⟩ := od.rd.intAt (show pl < nm by omega)
    subst hA
    obtain ⟨_, A2, n2, c2, e2, oa⟩ := HO_a.out
    subst e2
    have hna := oa.len
    obtain ⟨aa, x, hA2, haa, hcx, HXx⟩ := oa.rd.intAt (show k < n2 by omega)
    subst hA2
    have j0 : (0 : Int) ≤ (pl : Int) := by omega
    have j1 : (pl : Int) < (nm : Int) := by omega
    have j2 : (0 : Int) ≤ (k : Int) := by omega
    have j3 : (k : Int) < (n2 : Int) := by omega
    have hcx0 := hcx
    have hQ2 := HQ.out.2.1
    have hQ3 := HQ.out.2.2.1
    rw [Int.toNat_natCast, ← HM.out] at hQ2 hQ3
    rw [Int.toNat_natCast, ← HXx.out] at hQ3
    have HQ2 := Lib.hid hQ2
    have HQ3 := Lib.hid hQ3
    clear od oa hQ2 hQ3 hp hk hal HM
    have fc12 : w11.cell? ⟨w1.heap.size, 0, none⟩ = some (.slice (some ad) nm cm) := HX_x.out.cell 0
    have fc13 : w11.cell? ⟨w1.heap.size, 1, none⟩ = some (.int .i64 (pl : Int)) := HX_x.out.cell 1
    go_wp2_with fail
    clear fc12 fc13
    refine (X_i_ChoiceTake _ (R_ChoiceAnswer_0 (d, (pl : Int)) a V) (k : Int) m _ (HO_g.out.rd.more (by omega)) HO_g.out.small).mono ?_
    rintro e w14 ⟨rfl, hb⟩
    have z14 : w11.heap.size ≤ w14.heap.size := hb.size
    replace HO_a := Lib.hid (HO_a.out.below hb (by omega))
    replace HO_g := Lib.hid (HO_g.out.below hb (by omega))
    replace HX_x := Lib.hid (HX_x.out.below hb HX_x.out.lt)
    replace HB := Lib.hid (HB.out.trans (hb.mono (by omega)))
    clear hb
    rw [HQ2.out, HQ3.out]
    obtain ⟨_, A2, n2', c2', e2, oa⟩ := HO_a.out
    injection e2 with g1 g2 g3
    subst g1 g2 g3
    obtain ⟨aa', x', hA2, haa', hcx', HXx'⟩ := oa.rd.intAt (show k < n2 by omega)
    injection hA2 with hA2
    subst hA2
    obtain rfl : x' = x := HXx'.out.trans HXx.out.symm
    clear hcx hcx0 hcm oa
    have fc15 : w14.cell? ⟨w1.heap.size, 0, none⟩ = some (.slice (some ad) nm cm) := HX_x.out.cell 0
    have fc16 : w14.cell? ⟨w1.heap.size, 1, none⟩ = some (.int .i64 (pl : Int)) := HX_x.out.cell 1
    go_wp2
    go_ret
    exact ⟨rfl, HB.out⟩
  · have h3 : (1048576 : Int) < (n : Int) := by omega
    go_enter Try.func9, Try.ntmps9
    go_wp2
    go_ret
    exact ⟨rfl, Below.refl _ _⟩
end Go.Proofs.Ytpejigfndkdhcaa

/- P53, P67: the laws' walks. Made by tools/plain/p10.py. -/
namespace Go.Proofs.Ytpejigfndkdhcaa
open Go.RowKit
set_option maxRecDepth 100000
set_option maxHeartbeats 400000 in
theorem u_uvIntsQ2 (A A' : Option Addr) (n c c' : Nat) (d : List Int) (w : World) (h : Rd w w.heap.size 1 A n (cI d)) (h' : Rd w w.heap.size 1 A' n (cI d)) (hn : n ≤ 1048576) :
    Calls Try.prog 37 #[.slice A n c, .slice A' n c'] w fun e w' => e = .returned (.bool true) ∧ ∃ m, w' = w.drewN m := by
  have H := Lib.hid h
  have H' := Lib.hid h'
  clear h h'
  go_enter Try.func37, Try.ntmps37
  go_wp2
  go_loopw [5] (fun i wr => ∃ k m : Nat, k ≤ n ∧ i = .int .i64 k ∧ wr = w.drewN m) (fun i _ => n - (intOf i).toNat)
  case atStart => exact ⟨0, 0, Nat.zero_le _, rfl, rfl⟩
  case round =>
    obtain ⟨k, m, hk, rfl, rfl⟩ := hrel
    by_cases hlt : k < n
    · obtain ⟨a, x, rfl, hab, hx, HP⟩ := H.out.intAt hlt
      obtain ⟨a', x', rfl, hab', hx', HP'⟩ := H'.out.intAt hlt
      obtain rfl : x' = x := by rw [HP.out, HP'.out]
      have i0 : (0 : Int) ≤ (k : Int) := by omega
      have i1 : (k : Int) < (n : Int) := by omega
      clear HP HP'
      go_wp2
      go_quiet (fail)
      go_wp2
      go_roundw
      case rel => exact ⟨k + 1, _, by omega, by go_num, rfl⟩
      case measure => simp [intOf] <;> omega
    · go_wp2
      go_ret
      exact ⟨rfl, _, rfl⟩

set_option maxHeartbeats 2000000 in
theorem U_uvMarked (v v' : Value) (d : List Int × List Int) (w : World) (h : RdMarked w w.heap.size v d) (h' : RdMarked w w.heap.size v' d) (hs : szMarked d ≤ 1048576) :
    Calls Try.prog 26 #[v, v'] w fun e w' => e = .returned (.bool true) ∧ Below w.heap.size w w' := by
  obtain ⟨X0, nX, cX0, X1, nX1, cX1, rfl, aX0, aX1, lX0, lX1⟩ := h.open_
  obtain ⟨Y0, nY, cY0, Y1, nY1, cY1, rfl, aY0, aY1, lY0, lY1⟩ := h'.open_
  have hsz := szM hs
  obtain rfl : nY = nX := by omega
  obtain rfl : nY1 = nX1 := by omega
  obtain ⟨W, hW⟩ : ∃ W, Hid ((w.alloc (.cells #[.slice X0 nY cX0, .slice X1 nY1 cX1] 26)).alloc (.cells #[.slice Y0 nY cY0, .slice Y1 nY1 cY1] 26) = W) := ⟨_, Lib.hid rfl⟩
  have HB : Hid (Below w.heap.size w W) := Lib.hid (by rw [← hW.out]; exact ((Below.refl _ _).alloc (Nat.le_refl _) _).alloc (by simp) _)
  have z := HB.out.size
  have f0 : W.cell? ⟨w.heap.size, 0, none⟩ = some (.slice X0 nY cX0) := by rw [← hW.out]; exact ((Bx.new w _ _).alloc _).cell 0
  have f1 : W.cell? ⟨w.heap.size, 1, none⟩ = some (.slice X1 nY1 cX1) := by rw [← hW.out]; exact ((Bx.new w _ _).alloc _).cell 1
  have f2 : W.cell? ⟨w.heap.size + 1, 0, none⟩ = some (.slice Y0 nY cY0) := by
    rw [← hW.out]; have := (Bx.new (w.alloc (.cells #[.slice X0 nY cX0, .slice X1 nY1 cX1] 26)) #[.slice Y0 nY cY0, .slice Y1 nY1 cY1] 26).cell 0; rw [World.size_alloc] at this; exact this
  have f3 : W.cell? ⟨w.heap.size + 1, 1, none⟩ = some (.slice Y1 nY1 cY1) := by
    rw [← hW.out]; have := (Bx.new (w.alloc (.cells #[.slice X0 nY cX0, .slice X1 nY1 cX1] 26)) #[.slice Y0 nY cY0, .slice Y1 nY1 cY1] 26).cell 1; rw [World.size_alloc] at this; exact this
  have HX0 := Lib.hid ((aX0.below HB.out).more z)
  have HX1 := Lib.hid ((aX1.below HB.out).more z)
  have HY0 := Lib.hid ((aY0.below HB.out).more z)
  have HY1 := Lib.hid ((aY1.below HB.out).more z)
  clear aX0 aX1 aY0 aY1 h h'
  have F := Lib.hid (And.intro f0 (And.intro f1 (And.intro f2 f3)))
  rw [← hW.out] at f0 f1 f2 f3
  go_enter Try.func26, Try.ntmps26
  go_wp2_with fail
  rw [hW.out]
  clear f0 f1 f2 f3
  refine (u_uvIntsQ2 X0 Y0 _ _ _ d.1 W HX0.out HY0.out (by omega)).mono ?_
  rintro e w1 ⟨rfl, k1, hk1⟩
  subst hk1
  obtain ⟨f0, f1, f2, f3⟩ := F.out
  have g1 : (W.drewN k1).cell? ⟨w.heap.size, 1, none⟩ = some (.slice X1 nY1 cX1) := f1
  have g3 : (W.drewN k1).cell? ⟨w.heap.size + 1, 1, none⟩ = some (.slice Y1 nY1 cY1) := f3
  clear f0 f1 f2 f3
  go_wp2_with fail
  refine (u_uvIntsQ2 X1 Y1 _ _ _ d.2 (W.drewN k1) HX1.out HY1.out (by omega)).mono ?_
  rintro e w2 ⟨rfl, k2, hk2⟩
  subst hk2
  clear g1 g3
  go_wp2
  go_ret
  exact ⟨rfl, below_drewN HB.out _⟩

set_option maxHeartbeats 4000000 in
theorem P53_walk (A : Option Addr) (n c : Nat) (bs : List Int) (w : World) (h : Rd w w.heap.size 1 A n (cU bs)) (hby : Byt bs) (hc : n ≤ c) (hm : n ≤ 9223372036854775807) :
    Calls Try.prog 5 #[.slice A n c] w fun e w' => e = .returned (.bool true) ∧ Below w.heap.size w w' := by
  by_cases hn : n ≤ 1048576
  · have h3 : ¬ ((1048576 : Int) < (n : Int)) := by omega
    have H := Lib.hid h
    clear h
    go_enter Try.func5, Try.ntmps5
    go_wp2_with fail
    refine (d_DrawMarkedMake _ _ _ _ _ H.out hby hn hc).mono ?_
    rintro e w1 ⟨v, k, N, vt, tp, rfl, h_t, hb⟩
    have z1 : w.heap.size ≤ w1.heap.size := hb.size
    have HB := Lib.hid hb
    have HO_t := Lib.hid h_t
    clear hb h_t
    go_wp2_with fail
    refine (X_i_MarkedMake _ v k N tp _ _ _ HO_t.out (by omega) HO_t.out.small).mono ?_
    rintro e w2 ⟨g, rfl, h_x, hb⟩
    have z2 : w1.heap.size ≤ w2.heap.size := hb.size
    replace HO_t := Lib.hid (HO_t.out.below hb (by omega))
    replace HB := Lib.hid (HB.out.trans (hb.mono (by omega)))
    have HO_x := Lib.hid h_x
    clear hb h_x
    obtain ⟨A0, n0, c0, A1, n1, c1, hg⟩ := OwMarked.open_ HO_x.out
    subst hg
    go_wp2_with fail
    obtain ⟨w3, hW3⟩ : ∃ W, Hid (w2.alloc (.cells #[.slice A0 n0 c0, .slice A1 n1 c1] 26) = W) := ⟨_, Lib.hid rfl⟩
    try rw [hW3.out]
    have z3 : w2.heap.size < w3.heap.size := by rw [← hW3.out, World.size_alloc]; omega
    have ha3 : Below w2.heap.size w2 w3 := by rw [← hW3.out]; exact (Below.refl _ _).alloc (Nat.le_refl _) _
    replace HO_t := Lib.hid (HO_t.out.below ha3 (by omega))
    replace HO_x := Lib.hid (HO_x.out.below ha3 (by omega))
    have HX_bx : Hid (Bx w3 w2.heap.size #[.slice A0 n0 c0, .slice A1 n1 c1] 26) := Lib.hid (by rw [← hW3.out]; exact Bx.new _ _ _)
    replace HB := Lib.hid (HB.out.trans (ha3.mono (by omega)))
    clear ha3 hW3
    refine (X_s_MarkedMake _ v k N tp _ _ _ HO_t.out (by omega) HO_t.out.small).mono ?_
    rintro e w4 ⟨g, rfl, h_y, hb⟩
    have z4 : w3.heap.size ≤ w4.heap.size := hb.size
    replace HO_t := Lib.hid (HO_t.out.below hb (by omega))
    replace HO_x := Lib.hid (HO_x.out.below hb (by omega))
    replace HX_bx := Lib.hid (HX_bx.out.below hb HX_bx.out.lt)
    replace HB := Lib.hid (HB.out.trans (hb.mono (by omega)))
    have HO_y := Lib.hid h_y
    clear hb h_y
    obtain ⟨B0, m0, e0, B1, m1, e1, hg⟩ := OwMarked.open_ HO_y.out
    subst hg
    have fc5 : (w4.alloc (.cells #[.slice B0 m0 e0, .slice B1 m1 e1] 26)).cell? ⟨w2.heap.size, 0, none⟩ = some (.slice A0 n0 c0) := (HX_bx.out.alloc _).cell 0
    have fc6 : (w4.alloc (.cells #[.slice B0 m0 e0, .slice B1 m1 e1] 26)).cell? ⟨w2.heap.size, 1, none⟩ = some (.slice A1 n1 c1) := (HX_bx.out.alloc _).cell 1
    go_wp2_with fail
    clear fc5 fc6
    obtain ⟨w7, hW7⟩ : ∃ W, Hid (w4.alloc (.cells #[.slice B0 m0 e0, .slice B1 m1 e1] 26) = W) := ⟨_, Lib.hid rfl⟩
    try rw [hW7.out]
    have z7 : w4.heap.size < w7.heap.size := by rw [← hW7.out, World.size_alloc]; omega
    have ha7 : Below w4.heap.size w4 w7 := by rw [← hW7.out]; exact (Below.refl _ _).alloc (Nat.le_refl _) _
    replace HO_t := Lib.hid (HO_t.out.below ha7 (by omega))
    replace HO_x := Lib.hid (HO_x.out.below ha7 (by omega))
    replace HO_y := Lib.hid (HO_y.out.below ha7 (by omega))
    replace HX_bx := Lib.hid (HX_bx.out.below ha7 HX_bx.out.lt)
    have HX_by_ : Hid (Bx w7 w4.heap.size #[.slice B0 m0 e0, .slice B1 m1 e1] 26) := Lib.hid (by rw [← hW7.out]; exact Bx.new _ _ _)
    replace HB := Lib.hid (HB.out.trans (ha7.mono (by omega)))
    clear ha7 hW7
    refine (U_uvMarked _ _ _ _ (HO_x.out.rd.more (by omega)) (HO_y.out.rd.more (by omega)) HO_x.out.small).mono ?_
    rintro e w8 ⟨rfl, hb⟩
    have z8 : w7.heap.size ≤ w8.heap.size := hb.size
    replace HO_t := Lib.hid (HO_t.out.below hb (by omega))
    replace HO_x := Lib.hid (HO_x.out.below hb (by omega))
    replace HO_y := Lib.hid (HO_y.out.below hb (by omega))
    replace HX_bx := Lib.hid (HX_bx.out.below hb HX_bx.out.lt)
    replace HX_by_ := Lib.hid (HX_by_.out.below hb HX_by_.out.lt)
    replace HB := Lib.hid (HB.out.trans (hb.mono (by omega)))
    clear hb
    cases hB : R_MarkedMake_1 v k N tp
    · have fc9 : w8.cell? ⟨w2.heap.size, 0, none⟩ = some (.slice A0 n0 c0) := HX_bx.out.cell 0
      have fc10 : w8.cell? ⟨w2.heap.size, 1, none⟩ = some (.slice A1 n1 c1) := HX_bx.out.cell 1
      have fc11 : w8.cell? ⟨w4.heap.size, 0, none⟩ = some (.slice B0 m0 e0) := HX_by_.out.cell 0
      have fc12 : w8.cell? ⟨w4.heap.size, 1, none⟩ = some (.slice B1 m1 e1) := HX_by_.out.cell 1
      go_wp2
      go_ret
      exact ⟨rfl, HB.out⟩
    have HQ := Lib.hid (make_right hB)
    clear hB
    have fc13 : w8.cell? ⟨w2.heap.size, 0, none⟩ = some (.slice A0 n0 c0) := HX_bx.out.cell 0
    have fc14 : w8.cell? ⟨w2.heap.size, 1, none⟩ = some (.slice A1 n1 c1) := HX_bx.out.cell 1
    have fc15 : w8.cell? ⟨w4.heap.size, 0, none⟩ = some (.slice B0 m0 e0) := HX_by_.out.cell 0
    have fc16 : w8.cell? ⟨w4.heap.size, 1, none⟩ = some (.slice B1 m1 e1) := HX_by_.out.cell 1
    go_wp2_with fail
    clear fc13 fc14 fc15 fc16
    refine (X_i_MarkedSum _ (R_MarkedMake_0 v k N tp) _ (HO_x.out.rd.more (by omega)) HO_x.out.small).mono ?_
    rintro e w17 ⟨rfl, hb⟩
    have z17 : w8.heap.size ≤ w17.heap.size := hb.size
    replace HO_t := Lib.hid (HO_t.out.below hb (by omega))
    replace HO_x := Lib.hid (HO_x.out.below hb (by omega))
    replace HO_y := Lib.hid (HO_y.out.below hb (by omega))
    replace HX_bx := Lib.hid (HX_bx.out.below hb HX_bx.out.lt)
    replace HX_by_ := Lib.hid (HX_by_.out.below hb HX_by_.out.lt)
    replace HB := Lib.hid (HB.out.trans (hb.mono (by omega)))
    clear hb
    rw [HQ.out.1, HQ.out.2.1]
    have fc18 : w17.cell? ⟨w2.heap.size, 0, none⟩ = some (.slice A0 n0 c0) := HX_bx.out.cell 0
    have fc19 : w17.cell? ⟨w2.heap.size, 1, none⟩ = some (.slice A1 n1 c1) := HX_bx.out.cell 1
    have fc20 : w17.cell? ⟨w4.heap.size, 0, none⟩ = some (.slice B0 m0 e0) := HX_by_.out.cell 0
    have fc21 : w17.cell? ⟨w4.heap.size, 1, none⟩ = some (.slice B1 m1 e1) := HX_by_.out.cell 1
    go_wp2_with fail
    clear fc18 fc19 fc20 fc21
    refine (X_i_MarkedCheck _ (R_MarkedMake_0 v k N tp) k _ (HO_x.out.rd.more (by omega)) HO_x.out.small).mono ?_
    rintro e w22 ⟨rfl, hb⟩
    have z22 : w17.heap.size ≤ w22.heap.size := hb.size
    replace HO_t := Lib.hid (HO_t.out.below hb (by omega))
    replace HO_x := Lib.hid (HO_x.out.below hb (by omega))
    replace HO_y := Lib.hid (HO_y.out.below hb (by omega))
    replace HX_bx := Lib.hid (HX_bx.out.below hb HX_bx.out.lt)
    replace HX_by_ := Lib.hid (HX_by_.out.below hb HX_by_.out.lt)
    replace HB := Lib.hid (HB.out.trans (hb.mono (by omega)))
    clear hb
    rw [HQ.out.2.2.1]
    have hl : (n0 : Int) = N := by
      obtain ⟨_, _, _, _, _, _, _, _, _, _, _, e, _, _, _, _, _, o0, _⟩ := HO_x.out
      injection e with e
      have e2 := congrArg (fun x => x.toList.head?) e
      simp at e2
      obtain ⟨_, A3, n3, c3, e3, o3⟩ := o0
      injection e3 with g1 g2 g3
      have := o3.len
      have := HQ.out.2.2.2
      omega
    have fc23 : w22.cell? ⟨w2.heap.size, 0, none⟩ = some (.slice A0 n0 c0) := HX_bx.out.cell 0
    have fc24 : w22.cell? ⟨w2.heap.size, 1, none⟩ = some (.slice A1 n1 c1) := HX_bx.out.cell 1
    have fc25 : w22.cell? ⟨w4.heap.size, 0, none⟩ = some (.slice B0 m0 e0) := HX_by_.out.cell 0
    have fc26 : w22.cell? ⟨w4.heap.size, 1, none⟩ = some (.slice B1 m1 e1) := HX_by_.out.cell 1
    go_wp2
    go_ret
    exact ⟨rfl, HB.out⟩
  · have h3 : (1048576 : Int) < (n : Int) := by omega
    go_enter Try.func5, Try.ntmps5
    go_wp2
    go_ret
    exact ⟨rfl, Below.refl _ _⟩
end Go.Proofs.Ytpejigfndkdhcaa

/- An argument of type []byte, opened. -/
namespace Go.Proofs.Ytpejigfndkdhcaa
open Go.RowKit
set_option maxRecDepth 100000

section
open Go.ChangeShapes Go.WideShapes Go.ChangeAt Go.RowKit
/-- an argument of type []byte: a list of bytes that reads -/
theorem open_byteS {H : Type} {enc : TypeId × Value → H} {P : Program} {w : World} {b0 : Nat} {t e : TypeId} {r : Reach} {v : Value} {d : DataW H} {ps : List MemPlace} (ht : P.underlying t = some (.slice e)) (he : P.underlying e = some (.int .u8)) (hc : P.cellsOf e = 1)
    (hv : Value.okWide P w r b0 t v) (h : DataW.Trod enc P w 0 (fun _ => true) true t v d ps) :
    ∃ A n c zs, v = .slice A n c ∧ n ≤ 9223372036854775807 ∧ n ≤ c ∧ Rd w w.heap.size 1 A n (cU zs) ∧ Byt zs := by
  obtain ⟨A, n, c, rfl⟩ : ∃ A n c, v = .slice A n c := by
    cases v <;> simp [Value.okWide, ht, Cell.okWide, Cell.ok] at hv
    exact ⟨_, _, _, rfl⟩
  obtain ⟨fuel, hf⟩ := h
  rcases open_ints ht he hc hf with ⟨hn, _⟩ | ⟨a, len, cap, zs, hs, _, hlc, hm, hlen, _, hcell, hwz⟩
  · simp [Value.cells] at hn
    obtain ⟨rfl, rfl, rfl⟩ := hn
    exact ⟨_, _, _, [], rfl, by omega, Nat.le_refl _, ⟨by simp [cU], fun h => by omega⟩, fun j => by simp⟩
  · simp [Value.cells] at hs
    obtain ⟨rfl, rfl, rfl⟩ := hs
    simp only [if_true] at hlen
    unfold maxLen at hm
    have hby : Byt zs := fun j => by
      by_cases hj : j < zs.length
      · have hw := hwz zs[j] (List.getElem_mem hj)
        simp only [Lit.wf, IntKind.min, IntKind.max, IntKind.signed, IntKind.bits, Bool.and_eq_true] at hw
        simp [hj]
        simp at hw
        omega
      · simp [List.getElem?_eq_none (show zs.length ≤ j by omega)]
    refine ⟨_, _, _, zs.take n, rfl, by omega, by omega, ⟨by rw [cU_length, List.length_take]; omega, fun hn => ⟨a, rfl, ?_, fun j u hu => ?_⟩⟩, hby.take _⟩
    · have := hcell 0 (by omega)
      exact World.block_lt_of_cell? (a := a.add 0) _ this
    · have hj : j < n := by
        have := (List.getElem?_eq_some_iff.1 hu).1
        rw [cU_length, List.length_take] at this; omega
      simp only [cU, List.map_take, List.getElem?_take, if_pos hj, List.getElem?_map, List.getElem?_eq_getElem (show j < zs.length by omega), Option.map_some, Option.some.injEq] at hu
      rw [← hu, hcell j (by omega)]
      simp [show j < zs.length by omega]
end
end Go.Proofs.Ytpejigfndkdhcaa
