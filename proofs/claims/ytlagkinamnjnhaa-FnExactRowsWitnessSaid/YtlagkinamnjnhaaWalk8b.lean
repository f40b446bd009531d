/- Chapter 8 in the model: CircuitOk. -/
import Derived.Test.YtlagkinamnjnhaaWalk8a
namespace Go.Proofs.Ytlagkinamnjnhaa
open Go.RowKit
set_option maxRecDepth 100000

theorem circB_no1 {z : Int} {d1 : List (Int × Int × Int)} {d2 : List Int} (h : inB z 1 6 = false) : circB (z, d1, d2) = false := by simp [circB, h]
theorem circB_no2 {z : Int} {d1 : List (Int × Int × Int)} {d2 : List Int} (h : inB d1.length 1 16 = false) : circB (z, d1, d2) = false := by simp [circB, h]
theorem circB_no3 {z : Int} {d1 : List (Int × Int × Int)} {d2 : List Int} (h : inB d2.length 1 16 = false) : circB (z, d1, d2) = false := by simp [circB, h]
theorem circB_no4 {z : Int} {d1 : List (Int × Int × Int)} {d2 : List Int} (h : gatesK d1 z d1.length = false) : circB (z, d1, d2) = false := by simp [circB, h]
theorem circB_no5 {z : Int} {d1 : List (Int × Int × Int)} {d2 : List Int} (h : outsK d2 d1.length d2.length = false) : circB (z, d1, d2) = false := by simp [circB, h]
theorem circB_yes {z : Int} {d1 : List (Int × Int × Int)} {d2 : List Int} (h1 : inB z 1 6 = true) (h2 : inB d1.length 1 16 = true) (h3 : inB d2.length 1 16 = true) (h4 : gatesK d1 z d1.length = true) (h5 : outsK d2 d1.length d2.length = true) : circB (z, d1, d2) = true := by simp [circB, h1, h2, h3, h4, h5]

set_option maxHeartbeats 8000000 in
theorem s_CircuitOk (A1 : Option Addr) (n1 c1 : Nat) (A2 : Option Addr) (n2 c2 : Nat) (z : Int) (d1 : List (Int × Int × Int)) (d2 : List Int) (w : World) (h1 : Rd w w.heap.size 3 A1 n1 (cGate d1)) (h2 : Rd w w.heap.size 1 A2 n2 (cI d2)) (hn1 : n1 ≤ 1048576) (hn2 : n2 ≤ 1048576) :
    Calls Try.prog 28 #[.agg #[.int .i64 z, .slice A1 n1 c1, .slice A2 n2 c2]] w fun e w' => e = .returned (.bool (circB (z, d1, d2))) ∧ Below w.heap.size w w' := by
  have hl1 : Hid (d1.length = n1) := Lib.hid h1.Gatelen
  have hl2 : Hid (d2.length = n2) := Lib.hid h2.len
  have H1 := Lib.hid h1
  have H2 := Lib.hid h2
  clear h1 h2
  have HX : Hid (Bx (w.alloc (.cells #[.int .i64 z, .slice A1 n1 c1, .slice A2 n2 c2] 32)) w.heap.size #[.int .i64 z, .slice A1 n1 c1, .slice A2 n2 c2] 32) := Lib.hid (Bx.new _ _ _)
  have HB0 : Hid (Below w.heap.size w (w.alloc (.cells #[.int .i64 z, .slice A1 n1 c1, .slice A2 n2 c2] 32))) := Lib.hid ((Below.refl _ _).alloc (Nat.le_refl _) _)
  cases e1 : inB z 1 6
  · have HF := Lib.hid (circB_no1 (d1 := d1) (d2 := d2) e1)
    go_enter Try.func28, Try.ntmps28
    go_wp2_with fail
    refine (s_l6In _ _ _ _).mono ?_
    rintro e w' ⟨rfl, rfl⟩
    rw [e1]
    go_wp2
    go_ret
    exact ⟨ret_bool HF.out.symm, HB0.out⟩
  cases e2 : inB (n1 : Int) 1 16
  · have HF := Lib.hid (circB_no2 (z := z) (d1 := d1) (d2 := d2) (by rw [hl1.out]; exact e2))
    go_enter Try.func28, Try.ntmps28
    go_wp2_with fail
    refine (s_l6In _ _ _ _).mono ?_
    rintro e w' ⟨rfl, rfl⟩
    rw [e1]
    go_wp2_with fail
    refine (s_l6In _ _ _ _).mono ?_
    rintro e w' ⟨rfl, rfl⟩
    rw [e2]
    go_wp2
    go_ret
    exact ⟨ret_bool HF.out.symm, HB0.out⟩
  cases e3 : inB (n2 : Int) 1 16
  · have HF := Lib.hid (circB_no3 (z := z) (d1 := d1) (d2 := d2) (by rw [hl2.out]; exact e3))
    go_enter Try.func28, Try.ntmps28
    go_wp2_with fail
    refine (s_l6In _ _ _ _).mono ?_
    rintro e w' ⟨rfl, rfl⟩
    rw [e1]
    go_wp2_with fail
    refine (s_l6In _ _ _ _).mono ?_
    rintro e w' ⟨rfl, rfl⟩
    rw [e2]
    go_wp2_with fail
    refine (s_l6In _ _ _ _).mono ?_
    rintro e w' ⟨rfl, rfl⟩
    rw [e3]
    go_wp2
    go_ret
    exact ⟨ret_bool HF.out.symm, HB0.out⟩
  have m1 : 1 ≤ z ∧ z ≤ 6 := inB_iff.1 e1
  have m2 : n1 ≤ 16 := by have := inB_iff.1 e2; omega
  have m3 : n2 ≤ 16 := by have := inB_iff.1 e3; omega
  go_enter Try.func28, Try.ntmps28
  go_wp2_with fail
  refine (s_l6In _ _ _ _).mono ?_
  rintro e w' ⟨rfl, rfl⟩
  rw [e1]
  go_wp2_with fail
  refine (s_l6In _ _ _ _).mono ?_
  rintro e w' ⟨rfl, rfl⟩
  rw [e2]
  go_wp2_with fail
  refine (s_l6In _ _ _ _).mono ?_
  rintro e w' ⟨rfl, rfl⟩
  rw [e3]
  have E1 := Lib.hid e1
  have E2 := Lib.hid e2
  have E3 := Lib.hid e3
  clear e1 e2 e3
  go_wp2
  go_loopw [3] (fun i wr => ∃ k : Nat, k ≤ n1 ∧ i = .int .i64 k ∧ Hid (gatesK d1 z k = true) ∧ Hid (Bx wr w.heap.size #[.int .i64 z, .slice A1 n1 c1, .slice A2 n2 c2] 32) ∧ Hid (Below w.heap.size w wr)) (fun i _ => n1 - (intOf i).toNat)
  case atStart => exact ⟨0, Nat.zero_le _, rfl, Lib.hid rfl, HX, HB0⟩
  case round =>
    clear HX HB0
    obtain ⟨k, hk, rfl, HI, HX, HB⟩ := hrel
    have b0 : wr.cell? ⟨w.heap.size, 0, none⟩ = some (.int .i64 z) := HX.out.cell 0
    have b1 : wr.cell? ⟨w.heap.size, 1, none⟩ = some (.slice A1 n1 c1) := HX.out.cell 1
    by_cases hlt : k < n1
    · obtain ⟨a, x, y, u, rfl, hab, hx0, hy0, hu0, HP⟩ := H1.out.GateAt hlt
      have hx := (HB.out.cell (p := a.add (k * 3)) (by rw [add_block]; exact hab)).trans hx0
      have hy := (HB.out.cell (p := ⟨(a.add (k * 3)).block, (a.add (k * 3)).off + 1, none⟩) (by rw [add_block]; exact hab)).trans hy0
      have hu := (HB.out.cell (p := ⟨(a.add (k * 3)).block, (a.add (k * 3)).off + 2, none⟩) (by rw [add_block]; exact hab)).trans hu0
      have i0 : (0 : Int) ≤ (k : Int) := by omega
      have i1 : (k : Int) < (n1 : Int) := by omega
      have HG : Hid (gt d1 k = (x, y, u)) := Lib.hid HP.out
      clear hx0 hy0 hu0 HP
      go_wp2
      go_still_tail 8, (by kernel_rfl)
      change wpList _ _ _ _ _ wr.drew
      go_wp2_with fail
      refine (s_l8Gate _ _ _ _ _ _ ⟨by omega, by omega⟩ ⟨by omega, by omega⟩).mono ?_
      rintro e w2 ⟨rfl, hb⟩
      have HB2 : Hid (Below w.heap.size w w2) := Lib.hid (HB.out.drew.trans (hb.mono HB.out.size))
      have HX2 : Hid (Bx w2 w.heap.size #[.int .i64 z, .slice (some a) n1 c1, .slice A2 n2 c2] 32) := Lib.hid (Bx.below (w := wr.drew) HX.out hb HX.out.lt)
      cases eg : gateB (x, y, u) k z
      · have HF : Hid (circB (z, d1, d2) = false) := Lib.hid (circB_no4 (gatesK_bad (k := k) (by rw [gatesK, HG.out, eg, Bool.and_false]) (by have := hl1.out; omega)))
        clear hx hy hu hb HB HX b0 b1
        go_wp2
        go_ret
        exact ⟨ret_bool HF.out.symm, HB2.out⟩
      · have HI2 : Hid (gatesK d1 z (k + 1) = true) := Lib.hid (by rw [gatesK, HG.out, eg, HI.out]; rfl)
        clear hx hy hu hb HB HX b0 b1 HI
        go_wp2
        go_roundw
        case rel => exact ⟨k + 1, by omega, by go_num, HI2, HX2, HB2⟩
        case measure => simp [intOf] <;> omega
    · have hkn : k = n1 := by omega
      have HGK : Hid (gatesK d1 z d1.length = true) := Lib.hid (by rw [hl1.out, ← hkn]; exact HI.out)
      clear HI
      go_wp2
      go_loopw [4] (fun i wr => ∃ k : Nat, k ≤ n2 ∧ i = .int .i64 k ∧ Hid (outsK d2 n1 k = true) ∧ Hid (Bx wr w.heap.size #[.int .i64 z, .slice A1 n1 c1, .slice A2 n2 c2] 32) ∧ Hid (Below w.heap.size w wr)) (fun i _ => n2 - (intOf i).toNat)
      case atStart => exact ⟨0, Nat.zero_le _, rfl, Lib.hid rfl, HX, HB⟩
      case round =>
        clear HX HB b0 b1 hkn
        obtain ⟨j, hj, rfl, HI, HX, HB⟩ := hrel
        have b1 : wr.cell? ⟨w.heap.size, 1, none⟩ = some (.slice A1 n1 c1) := HX.out.cell 1
        have b2 : wr.cell? ⟨w.heap.size, 2, none⟩ = some (.slice A2 n2 c2) := HX.out.cell 2
        by_cases hlt : j < n2
        · obtain ⟨a, x, rfl, hab, hx0, HP⟩ := H2.out.intAt hlt
          have hx := (HB.out.cell (p := a.add j) (by rw [add_block]; exact hab)).trans hx0
          have i0 : (0 : Int) ≤ (j : Int) := by omega
          have i1 : (j : Int) < (n2 : Int) := by omega
          clear hx0
          go_wp2
          go_still_tail 9, (by kernel_rfl)
          change wpList _ _ _ _ _ wr.drew
          go_wp2_with fail
          refine (s_l6In _ _ _ _).mono ?_
          rintro e w' ⟨rfl, rfl⟩
          have HB2 : Hid (Below w.heap.size w wr.drew) := Lib.hid HB.out.drew
          have HX2 : Hid (Bx wr.drew w.heap.size #[.int .i64 z, .slice A1 n1 c1, .slice (some a) n2 c2] 32) := Lib.hid HX.out
          cases eg : inB x 0 ((n1 : Int) - 1)
          · have HF : Hid (circB (z, d1, d2) = false) := Lib.hid (circB_no5 (outsK_bad (k := j) (by rw [outsK, ← HP.out, hl1.out, eg, Bool.and_false]) (by have := hl2.out; omega)))
            clear hx HB HX b1 b2
            go_wp2
            go_ret
            exact ⟨ret_bool HF.out.symm, HB2.out⟩
          · have HI2 : Hid (outsK d2 n1 (j + 1) = true) := Lib.hid (by rw [outsK, ← HP.out, eg, HI.out]; rfl)
            clear hx HB HX b1 b2 HI
            go_wp2
            go_roundw
            case rel => exact ⟨j + 1, by omega, by go_num, HI2, HX2, HB2⟩
            case measure => simp [intOf] <;> omega
        · have hjn : j = n2 := by omega
          have HF : Hid (circB (z, d1, d2) = true) := Lib.hid (circB_yes E1.out (by rw [hl1.out]; exact E2.out) (by rw [hl2.out]; exact E3.out) HGK.out (by rw [hl1.out, hl2.out, ← hjn]; exact HI.out))
          clear HI
          go_wp2
          go_ret
          exact ⟨ret_bool HF.out.symm, HB.out⟩
end Go.Proofs.Ytlagkinamnjnhaa
