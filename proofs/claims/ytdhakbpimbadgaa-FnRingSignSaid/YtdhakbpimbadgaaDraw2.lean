/- What the plain laws draw from bytes: a number, seldom none. -/
import Derived.Test.YtdhakbpimbadgaaDraw1
namespace Go.Proofs.Ytdhakbpimbadgaa
open Go.RowKit
set_option maxRecDepth 100000

theorem Rdr.lt {w : World} {g hi p : Nat} {A : Option Addr} {n c : Nat} {bs : List Int} (h : Rdr w g hi p A n c bs) : g < w.heap.size := (Array.getElem?_eq_some_iff.1 h.blk).1
theorem Rdr.alloc {w : World} {g hi p : Nat} {A : Option Addr} {n c : Nat} {bs : List Int} (h : Rdr w g hi p A n c bs) (o : Obj) : Rdr (w.alloc o) g hi p A n c bs where
  blk := (Below.heap_alloc w o g h.lt).trans h.blk
  rd := h.rd.below ((Below.refl hi w).alloc (by have := h.low; have := h.lt; omega) o)
  low := h.low
  len := h.len
  few := h.few
  byt := h.byt
/-- what a literal of four numbers holds, after what has kept it -/
theorem lit4 {w w2 : World} {g : Nat} {t0 : Nat} (xs : Array Value) (hk : Kept g (g + 1) (w.alloc (.cells xs t0)) w2) (hg : g < w.heap.size) (j : Nat) (u : Value) (hj : xs[j]? = some u) : w2.cell? ⟨w.heap.size, j, none⟩ = some u := by
  have hb : w2.heap[w.heap.size]? = some (.cells xs t0 (0, 0)) := (hk.block _ (by simp) (by omega)).trans (heap_alloc_new _ _)
  rw [cell_of_row w2 w.heap.size j _ _ _ hb]; exact hj

theorem kept_alloc (lo mid : Nat) (w : World) (o : Obj) : Kept lo mid w (w.alloc o) := ⟨rfl, rfl, rfl, by simp, fun k hk _ => Below.heap_alloc w o k hk⟩
theorem four {j : Nat} (h : (j : Int) < 4) : j = 0 ∨ j = 1 ∨ j = 2 ∨ j = 3 := by omega

set_option maxHeartbeats 2000000 in
theorem d_l91Num (g hi p : Nat) (A : Option Addr) (n c : Nat) (bs : List Int) (w : World) (h : Rdr w g hi p A n c bs) (hp : p < 999990) :
    Calls Try.prog 101 #[.pointer (some ⟨g, 0, none⟩)] w fun e w' => ∃ z q, e = .returned (.int .i64 z) ∧ (-1 ≤ z ∧ z ≤ 1000000007) ∧ q ≤ p + 5 ∧ Rdr w' g hi q A n c bs ∧ Kept g (g + 1) w w' := by
  have H := Lib.hid h
  clear h
  go_enter Try.func101, Try.ntmps101
  go_wp2_with fail
  refine (d_pick _ _ _ _ _ _ _ _ _ H.out (by omega) (by omega) (by omega)).mono ?_
  rintro e w1 ⟨z0, rfl, _, _, h1, k1⟩
  have H1 := Lib.hid h1
  have K1 := Lib.hid k1
  clear h1 k1 H
  by_cases hz : z0 = 0
  · have hb : (z0 == 0) = true := by simp [hz]
    clear hz
    go_wp2_with fail
    refine (d_pick _ _ _ _ _ _ _ _ _ (H1.out.alloc _) (by omega) (by omega) (by omega)).mono ?_
    rintro e w2 ⟨z1, rfl, z10, z11, h2, k2⟩
    obtain ⟨j, rfl⟩ := Int.eq_ofNat_of_zero_le z10
    have hc := lit4 _ k2 H1.out.lt
    have H2 := Lib.hid h2
    have K2 := Lib.hid ((K1.out.trans (kept_alloc _ _ _ _)).trans k2)
    clear h2 k2 H1 K1
    rcases four z11 with rfl | rfl | rfl | rfl
    all_goals
      have hc0 := hc 0 _ rfl
      have hc1 := hc 1 _ rfl
      have hc2 := hc 2 _ rfl
      have hc3 := hc 3 _ rfl
      clear hc
      go_wp2
      go_ret
      exact ⟨_, _, rfl, by omega, by omega, H2.out, K2.out⟩
  · have hb : (z0 == 0) = false := by rw [beq_eq_false_iff_ne]; exact hz
    clear hz
    go_wp2_with fail
    refine (d_pick _ _ _ _ _ _ _ _ _ H1.out (by omega) (by omega) (by omega)).mono ?_
    rintro e w2 ⟨y1, rfl, y10, y11, h2, k2⟩
    have H2 := Lib.hid h2
    have K2 := Lib.hid (K1.out.trans k2)
    clear h2 k2 H1 K1
    go_wp2_with fail
    refine (d_pick _ _ _ _ _ _ _ _ _ H2.out (by omega) (by omega) (by omega)).mono ?_
    rintro e w3 ⟨y2, rfl, y20, y21, h3, k3⟩
    have H3 := Lib.hid h3
    have K3 := Lib.hid (K2.out.trans k3)
    clear h3 k3 H2 K2
    go_wp2_with fail
    refine (d_pick _ _ _ _ _ _ _ _ _ H3.out (by omega) (by omega) (by omega)).mono ?_
    rintro e w4 ⟨y3, rfl, y30, y31, h4, k4⟩
    have H4 := Lib.hid h4
    have K4 := Lib.hid (K3.out.trans k4)
    clear h4 k4 H3 K3
    go_wp2_with fail
    refine (d_pick _ _ _ _ _ _ _ _ _ (H4.out.alloc _) (by omega) (by omega) (by omega)).mono ?_
    rintro e w5 ⟨z1, rfl, z10, z11, h5, k5⟩
    obtain ⟨j, rfl⟩ := Int.eq_ofNat_of_zero_le z10
    have hc := lit4 _ k5 H4.out.lt
    have H5 := Lib.hid h5
    have K5 := Lib.hid ((K4.out.trans (kept_alloc _ _ _ _)).trans k5)
    clear h5 k5 H4 K4
    rcases four z11 with rfl | rfl | rfl | rfl
    all_goals
      have hc0 := hc 0 _ rfl
      have hc1 := hc 1 _ rfl
      have hc2 := hc 2 _ rfl
      have hc3 := hc 3 _ rfl
      clear hc
      go_wp2
      go_ret
      exact ⟨_, _, rfl, by omega, by omega, H5.out, K5.out⟩
end Go.Proofs.Ytdhakbpimbadgaa
