/- Chapter 5: the program's search: read, try. -/
import Derived.Test.YtjpjmlcmaombnaaWalk6d
import Derived.Test.YtjpjmlcmaombnaaWalk2m
namespace Go.Proofs.Ytjpjmlcmaombnaa
open Go.RowKit
set_option maxRecDepth 100000

/-- the panic that bears a reading -/
def rdP (p : List Int) (v : Value) : List PanicEntry := [{ v := .iface 76 (.agg #[.int .i64 (atI p 0), v]), recovered := false }]
abbrev mdV (A : Option Addr) (n c : Nat) (b1 most : Int) : Value := .agg #[.slice A n c, .int .i64 b1, .int .i64 most]

theorem below_still {B : Nat} {w w1 w2 : World} (hs : Still w1 w2) (h : Below B w w1) : Below B w w2 := by obtain ⟨m, rfl⟩ := hs; exact below_drewN h m
set_option maxHeartbeats 2000000 in
theorem i_read_yes (A A1 : Option Addr) (n c n1 c1 : Nat) (b1 most : Int) (d : List Pt) (p : List Int) (w : World) (h : Rd w w.heap.size 2 A n (cP d)) (hn : n ≤ 1048576) (hX : XIn d n) (h' : Rd w w.heap.size 1 A1 n1 (cI p)) (hN : Nums p) (hn1 : n1 ≤ 1048576) (hm : ((wrL p d).length : Int) ≤ most) :
    Calls Try.prog 125 #[mdV A n c b1 most, .slice A1 n1 c1] w fun e w' => ∃ v, e = .panicked (rdP p v) ∧ OwIntS w' w.heap.size w'.heap.size v (wrL p d) ∧ Below w.heap.size w w' := by
  have HDN := Lib.hid h.plen
  obtain ⟨W, hW⟩ : ∃ W, Hid (w.alloc (.cells #[.slice A n c, .int .i64 b1, .int .i64 most] 79) = W) := ⟨_, Lib.hid rfl⟩
  have HB0 : Hid (Below w.heap.size w W) := Lib.hid (by rw [← hW.out]; exact (Below.refl _ _).alloc (Nat.le_refl _) _)
  have hx : W.heap[w.heap.size]? = some (.cells #[.slice A n c, .int .i64 b1, .int .i64 most] 79 (0, 0)) := by rw [← hW.out]; exact heap_alloc_new _ _
  have hc0 : W.cell? ⟨w.heap.size, 0, none⟩ = some (.slice A n c) := by rw [cell_of_row W _ 0 _ _ _ hx]; rfl
  have HX := Lib.hid hx
  have HR := Lib.hid ((h.below HB0.out).more HB0.out.size)
  have HP := Lib.hid ((h'.below HB0.out).more HB0.out.size)
  clear hx h h'
  go_enter Try.func125, Try.ntmps125
  go_wp2_with fail
  rw [hW.out]
  go_wp2_with fail
  refine (i_differing _ _ _ _ _ _ _ _ _ HP.out hN hn1 HR.out hX hn).mono ?_
  rintro e w2 ⟨v2, rfl, ho2, hb2⟩
  obtain ⟨A2, n2, c2, rfl, hn2, hnc2, _⟩ := ho2.open
  have HO2 := Lib.hid ho2
  have HB2 := Lib.hid (HB0.out.trans (hb2.mono HB0.out.size))
  have hx2 := (hb2.block _ (Array.getElem?_eq_some_iff.1 HX.out).1).trans HX.out
  have hc2 : w2.cell? ⟨w.heap.size, 2, none⟩ = some (.int .i64 most) := by rw [cell_of_row w2 _ 2 _ _ _ hx2]; rfl
  have HP2 := Lib.hid ((HP.out.below hb2).more hb2.size)
  have hL : (n2 : Int) ≤ most := by rw [hn2]; have := hm; unfold wrL at this; rw [HDN.out] at this; exact this
  have HZ := Lib.hid HB0.out.size
  clear hx2 hb2 ho2 hn2 hnc2 hm HX HR HP
  go_wp2_with fail
  refine (i_polynomial_at _ _ _ _ _ _ HP2.out hN hn1 (by omega) (by omega)).mono ?_
  rintro e w3 ⟨rfl, hst⟩
  have HS := Lib.hid hst
  clear hst
  go_wp2
  refine ⟨rfl, _, rfl, ?_, below_still HS.out HB2.out⟩
  unfold wrL; rw [HDN.out]
  exact (HO2.out.below (HS.out.below _) (Nat.le_refl _)).widen HZ.out (by rw [HS.out.sz]; exact Nat.le_refl _)

set_option maxHeartbeats 2000000 in
theorem i_read_no (A A1 : Option Addr) (n c n1 c1 : Nat) (b1 most : Int) (d : List Pt) (p : List Int) (w : World) (h : Rd w w.heap.size 2 A n (cP d)) (hn : n ≤ 1048576) (hX : XIn d n) (h' : Rd w w.heap.size 1 A1 n1 (cI p)) (hN : Nums p) (hn1 : n1 ≤ 1048576) (hm : ¬ ((wrL p d).length : Int) ≤ most) :
    Calls Try.prog 125 #[mdV A n c b1 most, .slice A1 n1 c1] w fun e w' => e = .returned (.tuple #[]) ∧ Below w.heap.size w w' := by
  have HDN := Lib.hid h.plen
  obtain ⟨W, hW⟩ : ∃ W, Hid (w.alloc (.cells #[.slice A n c, .int .i64 b1, .int .i64 most] 79) = W) := ⟨_, Lib.hid rfl⟩
  have HB0 : Hid (Below w.heap.size w W) := Lib.hid (by rw [← hW.out]; exact (Below.refl _ _).alloc (Nat.le_refl _) _)
  have hx : W.heap[w.heap.size]? = some (.cells #[.slice A n c, .int .i64 b1, .int .i64 most] 79 (0, 0)) := by rw [← hW.out]; exact heap_alloc_new _ _
  have hc0 : W.cell? ⟨w.heap.size, 0, none⟩ = some (.slice A n c) := by rw [cell_of_row W _ 0 _ _ _ hx]; rfl
  have HX := Lib.hid hx
  have HR := Lib.hid ((h.below HB0.out).more HB0.out.size)
  have HP := Lib.hid ((h'.below HB0.out).more HB0.out.size)
  clear hx h h'
  go_enter Try.func125, Try.ntmps125
  go_wp2_with fail
  rw [hW.out]
  go_wp2_with fail
  refine (i_differing _ _ _ _ _ _ _ _ _ HP.out hN hn1 HR.out hX hn).mono ?_
  rintro e w2 ⟨v2, rfl, ho2, hb2⟩
  obtain ⟨A2, n2, c2, rfl, hn2, hnc2, _⟩ := ho2.open
  have HB2 := Lib.hid (HB0.out.trans (hb2.mono HB0.out.size))
  have hx2 := (hb2.block _ (Array.getElem?_eq_some_iff.1 HX.out).1).trans HX.out
  have hc2 : w2.cell? ⟨w.heap.size, 2, none⟩ = some (.int .i64 most) := by rw [cell_of_row w2 _ 2 _ _ _ hx2]; rfl
  have hL : ¬ (n2 : Int) ≤ most := by rw [hn2]; have := hm; unfold wrL at this; rw [HDN.out] at this; omega
  clear hx2 hb2 ho2 hn2 hnc2 hm HX HR HP
  go_wp2
  go_end0
  exact ⟨rfl, HB2.out⟩
end Go.Proofs.Ytjpjmlcmaombnaa
