/- Chapter 10: MarkedOk, MarkedSum of both sides. -/
import Derived.Test.YthfkjaofgpgoeaaWalk10b
import Derived.Test.YthfkjaofgpgoeaaWalk2c
namespace Go.Proofs.Ythfkjaofgpgoeaa
open Go.RowKit
set_option maxRecDepth 100000

theorem markB_1 {d0 d1 : List Int} (h : inB d0.length 2 7 = false) : markB (d0, d1) = false := by simp [markB, h]
theorem markB_2 {d0 d1 : List Int} (h : d1.length ≠ d0.length) : markB (d0, d1) = false := by simp [markB, h]
theorem markB_3 {d0 d1 : List Int} (h : numsB d0 = false) : markB (d0, d1) = false := by simp [markB, h]
theorem markB_4 {d0 d1 : List Int} (h : numsB d1 = false) : markB (d0, d1) = false := by simp [markB, h]
theorem markB_5 {d0 d1 : List Int} (h1 : inB d0.length 2 7 = true) (h2 : d1.length = d0.length) (h3 : numsB d0 = true) (h4 : numsB d1 = true) : markB (d0, d1) = true := by simp [markB, h1, h2, h3, h4]

set_option maxHeartbeats 4000000 in
theorem s_MarkedOk (A0 : Option Addr) (n0 c0 : Nat) (A1 : Option Addr) (n1 c1 : Nat) (d0 d1 : List Int) (w : World) (h0 : Rd w w.heap.size 1 A0 n0 (cI d0)) (h1 : Rd w w.heap.size 1 A1 n1 (cI d1)) (m0 : n0 ≤ 1048576) (m1 : n1 ≤ 1048576) :
    Calls Try.prog 32 #[.agg #[.slice A0 n0 c0, .slice A1 n1 c1]] w fun e w' => e = .returned (.bool (markB (d0, d1))) ∧ Below w.heap.size w w' := by
  have l0 : Hid (d0.length = n0) := Lib.hid h0.len
  have l1 : Hid (d1.length = n1) := Lib.hid h1.len
  have HB0 : Hid (Below w.heap.size w (w.alloc (.cells #[.slice A0 n0 c0, .slice A1 n1 c1] 24))) := Lib.hid ((Below.refl _ _).alloc (Nat.le_refl _) _)
  have H0 : Hid (Rd (w.alloc (.cells #[.slice A0 n0 c0, .slice A1 n1 c1] 24)) (w.alloc (.cells #[.slice A0 n0 c0, .slice A1 n1 c1] 24)).heap.size 1 A0 n0 (cI d0)) := Lib.hid ((h0.below HB0.out).more (by simp))
  have H1 : Hid (Rd (w.alloc (.cells #[.slice A0 n0 c0, .slice A1 n1 c1] 24)) (w.alloc (.cells #[.slice A0 n0 c0, .slice A1 n1 c1] 24)).heap.size 1 A1 n1 (cI d1)) := Lib.hid ((h1.below HB0.out).more (by simp))
  clear h0 h1
  cases e1 : inB (n0 : Int) 2 7
  · have HF := Lib.hid (markB_1 (d0 := d0) (d1 := d1) (by rw [l0.out]; exact e1))
    go_enter Try.func32, Try.ntmps32
    go_wp2_with fail
    refine (s_l6In _ _ _ _).mono ?_
    rintro e w' ⟨rfl, rfl⟩
    rw [e1]
    go_wp2
    go_ret
    exact ⟨ret_bool HF.out.symm, HB0.out⟩
  by_cases hl : n1 = n0
  rotate_left
  · have HF := Lib.hid (markB_2 (d0 := d0) (d1 := d1) (by rw [l0.out, l1.out]; exact hl))
    have q1 : ((n1 : Int) == (n0 : Int)) = false := by rw [beq_eq_false_iff_ne]; omega
    have q2 : (n1 == n0) = false := by rw [beq_eq_false_iff_ne]; omega
    go_enter Try.func32, Try.ntmps32
    go_wp2_with fail
    refine (s_l6In _ _ _ _).mono ?_
    rintro e w' ⟨rfl, rfl⟩
    rw [e1]
    go_wp2
    go_ret
    exact ⟨ret_bool HF.out.symm, HB0.out⟩
  subst hl
  cases e3 : numsB d0
  · have HF := Lib.hid (markB_3 (d1 := d1) e3)
    go_enter Try.func32, Try.ntmps32
    go_wp2_with fail
    refine (s_l6In _ _ _ _).mono ?_
    rintro e w' ⟨rfl, rfl⟩
    rw [e1]
    go_wp2_with fail
    refine (s_l1In _ _ _ _ _ H0.out m0).mono ?_
    rintro e w' ⟨rfl, rfl⟩
    rw [e3]
    go_wp2
    go_ret
    exact ⟨ret_bool HF.out.symm, HB0.out⟩
  have HF : Hid (markB (d0, d1) = numsB d1) := Lib.hid (by
    cases e4 : numsB d1
    · exact markB_4 e4
    · exact markB_5 (by rw [l0.out]; exact e1) (by rw [l0.out, l1.out]) e3 e4)
  go_enter Try.func32, Try.ntmps32
  go_wp2_with fail
  refine (s_l6In _ _ _ _).mono ?_
  rintro e w' ⟨rfl, rfl⟩
  rw [e1]
  go_wp2_with fail
  refine (s_l1In _ _ _ _ _ H0.out m0).mono ?_
  rintro e w' ⟨rfl, rfl⟩
  rw [e3]
  go_wp2_with fail
  refine (s_l1In _ _ _ _ _ H1.out m1).mono ?_
  rintro e w' ⟨rfl, rfl⟩
  go_wp2
  go_ret
  exact ⟨ret_bool HF.out.symm, HB0.out⟩

set_option maxHeartbeats 4000000 in
theorem i_MarkedOk (A0 : Option Addr) (n0 c0 : Nat) (A1 : Option Addr) (n1 c1 : Nat) (d0 d1 : List Int) (w : World) (h0 : Rd w w.heap.size 1 A0 n0 (cI d0)) (h1 : Rd w w.heap.size 1 A1 n1 (cI d1)) (m0 : n0 ≤ 1048576) (m1 : n1 ≤ 1048576) :
    Calls Try.prog 34 #[.agg #[.slice A0 n0 c0, .slice A1 n1 c1]] w fun e w' => e = .returned (.bool (markB (d0, d1))) ∧ Below w.heap.size w w' := by
  have l0 : Hid (d0.length = n0) := Lib.hid h0.len
  have l1 : Hid (d1.length = n1) := Lib.hid h1.len
  have HB0 : Hid (Below w.heap.size w (w.alloc (.cells #[.slice A0 n0 c0, .slice A1 n1 c1] 24))) := Lib.hid ((Below.refl _ _).alloc (Nat.le_refl _) _)
  have H0 : Hid (Rd (w.alloc (.cells #[.slice A0 n0 c0, .slice A1 n1 c1] 24)) (w.alloc (.cells #[.slice A0 n0 c0, .slice A1 n1 c1] 24)).heap.size 1 A0 n0 (cI d0)) := Lib.hid ((h0.below HB0.out).more (by simp))
  have H1 : Hid (Rd (w.alloc (.cells #[.slice A0 n0 c0, .slice A1 n1 c1] 24)) (w.alloc (.cells #[.slice A0 n0 c0, .slice A1 n1 c1] 24)).heap.size 1 A1 n1 (cI d1)) := Lib.hid ((h1.below HB0.out).more (by simp))
  clear h0 h1
  by_cases e0 : 2 ≤ n0
  rotate_left
  · have HF := Lib.hid (markB_1 (d0 := d0) (d1 := d1) (by rw [l0.out]; exact inB_f (by omega)))
    have q : (n0 : Int) < 2 := by omega
    go_enter Try.func34, Try.ntmps34
    go_wp2
    go_ret
    exact ⟨ret_bool HF.out.symm, HB0.out⟩
  by_cases e1 : n0 ≤ 7
  rotate_left
  · have HF := Lib.hid (markB_1 (d0 := d0) (d1 := d1) (by rw [l0.out]; exact inB_f (by omega)))
    have q : (2 : Int) ≤ n0 := by omega
    have q2 : (7 : Int) < n0 := by omega
    go_enter Try.func34, Try.ntmps34
    go_wp2
    go_ret
    exact ⟨ret_bool HF.out.symm, HB0.out⟩
  have q : (2 : Int) ≤ n0 := by omega
  have q2 : (n0 : Int) ≤ 7 := by omega
  cases e3 : numsB d0
  · have HF := Lib.hid (markB_3 (d1 := d1) e3)
    go_enter Try.func34, Try.ntmps34
    go_wp2_with fail
    refine (i_numbersOk _ _ _ _ _ H0.out m0).mono ?_
    rintro e w' ⟨rfl, rfl⟩
    rw [e3]
    go_wp2
    go_ret
    exact ⟨ret_bool HF.out.symm, HB0.out⟩
  have HF : Hid (markB (d0, d1) = (decide ((n1 : Int) = (n0 : Int)) && numsB d1)) := Lib.hid (by
    have hi : inB (d0.length : Int) 2 7 = true := by rw [l0.out]; exact inB_t ⟨q, q2⟩
    by_cases hl : n1 = n0
    · cases e4 : numsB d1
      · rw [markB_4 e4]; simp
      · rw [markB_5 hi (by rw [l0.out, l1.out, hl]) e3 e4]; simp [hl]
    · rw [markB_2 (by rw [l0.out, l1.out]; exact hl)]; simp; omega)
  go_enter Try.func34, Try.ntmps34
  go_wp2_with fail
  refine (i_numbersOk _ _ _ _ _ H0.out m0).mono ?_
  rintro e w' ⟨rfl, rfl⟩
  rw [e3]
  go_wp2_with fail
  refine (i_manyNumbers _ _ _ _ _ _ H1.out m1).mono ?_
  rintro e w' ⟨rfl, rfl⟩
  go_wp2
  go_ret
  exact ⟨ret_bool HF.out.symm, HB0.out⟩

/-- a struct's value, opened -/
theorem RdMarked.open_ {w : World} {hi : Nat} {v : Value} {d : MkD} (h : RdMarked w hi v d) : ∃ A0 n0 c0 A1 n1 c1, v = .agg #[.slice A0 n0 c0, .slice A1 n1 c1] ∧ Rd w hi 1 A0 n0 (cI d.1) ∧ Rd w hi 1 A1 n1 (cI d.2) ∧ d.1.length = n0 ∧ d.2.length = n1 := by
  obtain ⟨A0, n0, c0, A1, n1, c1, rfl, h0, h1⟩ := h
  obtain ⟨B0, k0, q0, e0, _, r0⟩ := h0
  obtain ⟨B1, k1, q1, e1, _, r1⟩ := h1
  injection e0 with a b c
  injection e1 with a' b' c'
  subst a b c a' b' c'
  exact ⟨_, _, _, _, _, _, rfl, r0, r1, r0.len, r1.len⟩
theorem szM {d : MkD} (hs : szMarked d ≤ 1048576) : d.1.length ≤ 1048576 ∧ d.2.length ≤ 1048576 := by
  unfold szMarked szIntS at hs; omega

theorem X_s_MarkedOk (v : Value) (d : MkD) (w : World) (h : RdMarked w w.heap.size v d) (hs : szMarked d ≤ 1048576) :
    Calls Try.prog 32 #[v] w fun e w' => e = .returned (.bool (markB d)) ∧ Below w.heap.size w w' := by
  obtain ⟨A0, n0, c0, A1, n1, c1, rfl, h0, h1, l0, l1⟩ := h.open_
  have := szM hs
  exact s_MarkedOk A0 n0 c0 A1 n1 c1 d.1 d.2 w h0 h1 (by omega) (by omega)
theorem X_i_MarkedOk (v : Value) (d : MkD) (w : World) (h : RdMarked w w.heap.size v d) (hs : szMarked d ≤ 1048576) :
    Calls Try.prog 34 #[v] w fun e w' => e = .returned (.bool (markB d)) ∧ Below w.heap.size w w' := by
  obtain ⟨A0, n0, c0, A1, n1, c1, rfl, h0, h1, l0, l1⟩ := h.open_
  have := szM hs
  exact i_MarkedOk A0 n0 c0 A1 n1 c1 d.1 d.2 w h0 h1 (by omega) (by omega)

/-- a function that gets a struct has it in a box of its own -/
theorem box_mk (w : World) (A0 : Option Addr) (n0 c0 : Nat) (A1 : Option Addr) (n1 c1 : Nat) : Hid (Bx (w.alloc (.cells #[.slice A0 n0 c0, .slice A1 n1 c1] 24)) w.heap.size #[.slice A0 n0 c0, .slice A1 n1 c1] 24) := Lib.hid (Bx.new _ _ _)
theorem box_hb (w : World) (o : Obj) : Hid (Below w.heap.size w (w.alloc o)) := Lib.hid ((Below.refl _ _).alloc (Nat.le_refl _) _)

def markS (d : MkD) : Int := if markB d = true then sumI d.1 else 0

set_option maxHeartbeats 4000000 in
theorem X_s_MarkedSum (v : Value) (d : MkD) (w : World) (h : RdMarked w w.heap.size v d) (hs : szMarked d ≤ 1048576) :
    Calls Try.prog 35 #[v] w fun e w' => e = .returned (.tuple #[.int .i64 (markS d), .bool (markB d)]) ∧ Below w.heap.size w w' := by
  obtain ⟨A0, n0, c0, A1, n1, c1, rfl, h0, h1, l0, l1⟩ := h.open_
  have hz := szM hs
  have m0 : n0 ≤ 1048576 := by omega
  have m1 : n1 ≤ 1048576 := by omega
  obtain ⟨d0, d1⟩ := d
  have HX0 := box_mk w A0 n0 c0 A1 n1 c1
  have HB0 := box_hb w (.cells #[.slice A0 n0 c0, .slice A1 n1 c1] 24)
  have H0 := Lib.hid h0
  have H1 := Lib.hid h1
  clear h h0 h1 hz hs l0 l1
  go_enter Try.func35, Try.ntmps35
  go_wp2_with fail
  refine (s_MarkedOk A0 n0 c0 A1 n1 c1 d0 d1 _ ((H0.out.below HB0.out).more HB0.out.size) ((H1.out.below HB0.out).more HB0.out.size) m0 m1).mono ?_
  rintro e w2 ⟨rfl, hb⟩
  have HX1 := Lib.hid (HX0.out.below hb HX0.out.lt)
  have HB1 : Hid (Below w.heap.size w w2) := Lib.hid (HB0.out.trans (hb.mono HB0.out.size))
  clear hb HX0 HB0
  cases e1 : markB (d0, d1)
  · have HF : Hid (markS (d0, d1) = 0) := Lib.hid (by simp [markS, e1])
    go_wp2
    go_ret2
    exact ⟨ret_ib2 HF.out.symm e1.symm, HB1.out⟩
  have HF : Hid (markS (d0, d1) = sumI d0) := Lib.hid (by simp [markS, e1])
  have HN : Hid (Nums d0) := Lib.hid (nums_of_B (markB_iff.1 e1).2.2.1)
  have b0 : w2.cell? ⟨w.heap.size, 0, none⟩ = some (.slice A0 n0 c0) := HX1.out.cell 0
  have HE := Lib.hid e1
  clear e1
  go_wp2_with fail
  refine (s_l10Sum _ _ _ _ _ ((H0.out.below HB1.out).more HB1.out.size) HN.out m0).mono ?_
  rintro e w' ⟨rfl, rfl⟩
  go_wp2
  go_ret2
  exact ⟨ret_ib2 HF.out.symm HE.out.symm, HB1.out⟩

set_option maxHeartbeats 4000000 in
theorem X_i_MarkedSum (v : Value) (d : MkD) (w : World) (h : RdMarked w w.heap.size v d) (hs : szMarked d ≤ 1048576) :
    Calls Try.prog 36 #[v] w fun e w' => e = .returned (.tuple #[.int .i64 (markS d), .bool (markB d)]) ∧ Below w.heap.size w w' := by
  obtain ⟨A0, n0, c0, A1, n1, c1, rfl, h0, h1, l0, l1⟩ := h.open_
  have hz := szM hs
  have m0 : n0 ≤ 1048576 := by omega
  have m1 : n1 ≤ 1048576 := by omega
  obtain ⟨d0, d1⟩ := d
  have HX0 := box_mk w A0 n0 c0 A1 n1 c1
  have HB0 := box_hb w (.cells #[.slice A0 n0 c0, .slice A1 n1 c1] 24)
  have H0 := Lib.hid h0
  have H1 := Lib.hid h1
  clear h h0 h1 hz hs l0 l1
  go_enter Try.func36, Try.ntmps36
  go_wp2_with fail
  refine (i_MarkedOk A0 n0 c0 A1 n1 c1 d0 d1 _ ((H0.out.below HB0.out).more HB0.out.size) ((H1.out.below HB0.out).more HB0.out.size) m0 m1).mono ?_
  rintro e w2 ⟨rfl, hb⟩
  have HX1 := Lib.hid (HX0.out.below hb HX0.out.lt)
  have HB1 : Hid (Below w.heap.size w w2) := Lib.hid (HB0.out.trans (hb.mono HB0.out.size))
  clear hb HX0 HB0
  cases e1 : markB (d0, d1)
  · have HF : Hid (markS (d0, d1) = 0) := Lib.hid (by simp [markS, e1])
    go_wp2
    go_ret2
    exact ⟨ret_ib2 HF.out.symm e1.symm, HB1.out⟩
  have HF : Hid (markS (d0, d1) = sumI d0) := Lib.hid (by simp [markS, e1])
  have HN : Hid (Nums d0) := Lib.hid (nums_of_B (markB_iff.1 e1).2.2.1)
  have b0 : w2.cell? ⟨w.heap.size, 0, none⟩ = some (.slice A0 n0 c0) := HX1.out.cell 0
  have b1 : w2.cell? ⟨w.heap.size, 1, none⟩ = some (.slice A1 n1 c1) := HX1.out.cell 1
  have HE := Lib.hid e1
  clear e1
  go_wp2_with fail
  refine (i_values _ _ _).mono ?_
  rintro e w3 ⟨rfl, hb⟩
  have HB2 : Hid (Below w.heap.size w w3) := Lib.hid (HB1.out.trans (hb.mono HB1.out.size))
  clear hb b0 b1
  go_wp2_with fail
  refine (i_totalV _ _ _ _ _ ((H0.out.below HB2.out).more HB2.out.size) HN.out m0).mono ?_
  rintro e w' ⟨rfl, rfl⟩
  go_wp2
  go_ret2
  exact ⟨ret_ib2 HF.out.symm HE.out.symm, HB2.out⟩
end Go.Proofs.Ythfkjaofgpgoeaa
