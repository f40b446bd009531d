/- The walk of the exact law of ShareCheck. -/
import Derived.Test.YtjpjmlcmaombnaaWalk7f
import Derived.Test.YtjpjmlcmaombnaaFaceI
import Derived.Test.YtjpjmlcmaombnaaPts
namespace Go.Proofs.Ytjpjmlcmaombnaa
open Go.RowKit
set_option maxRecDepth 100000

theorem Rd.hereBelow {w w' : World} {A : Option Addr} {n : Nat} {xs : List Value} (h : Rd w w.heap.size 1 A n xs) (hb : Below w.heap.size w w') : Rd w' w'.heap.size 1 A n xs := (h.below hb).more hb.size
theorem upd2 {w W w1 : World} {u v : Value} {t : TypeId} (h : Below w.heap.size w W) (hx : W.heap[w.heap.size]? = some (.cells #[u, v] t (0, 0))) (hb1 : Below W.heap.size W w1) :
    Below w.heap.size w w1 ∧ w1.heap[w.heap.size]? = some (.cells #[u, v] t (0, 0)) ∧ w1.cell? ⟨w.heap.size, 0, none⟩ = some u ∧ w1.cell? ⟨w.heap.size, 1, none⟩ = some v := by
  have hx1 := (hb1.block _ (Array.getElem?_eq_some_iff.1 hx).1).trans hx
  exact ⟨h.trans (hb1.mono h.size), hx1, by rw [cell_of_row w1 _ 0 _ _ _ hx1]; rfl, by rw [cell_of_row w1 _ 1 _ _ _ hx1]; rfl⟩
set_option maxHeartbeats 4000000 in
theorem ShareCheck_walk (A : Option Addr) (n c : Nat) (d : List Int) (x y : Int) (w : World) (hm : n ≤ 9223372036854775807) (h : Rd w w.heap.size 1 A n (cI d)) (_wx : (Lit.int .i64 x).wf = true) (_wy : (Lit.int .i64 y).wf = true) :
    Calls Try.prog 12 #[.slice A n c, .agg #[.int .i64 x, .int .i64 y]] w fun e w' => e = .returned (.bool true) ∧ Below w.heap.size w w' := by
  have HR : Hid (RdIntS w w.heap.size (.slice A n c) d) := Lib.hid ⟨A, n, c, rfl, hm, h⟩
  have HLN := Lib.hid h.len
  obtain ⟨W, hW⟩ : ∃ W, Hid (w.alloc (.cells #[.int .i64 x, .int .i64 y] 51) = W) := ⟨_, Lib.hid rfl⟩
  have HB0 : Hid (Below w.heap.size w W) := Lib.hid (by rw [← hW.out]; exact (Below.refl _ _).alloc (Nat.le_refl _) _)
  have HX0 : Hid (W.heap[w.heap.size]? = some (.cells #[.int .i64 x, .int .i64 y] 51 (0, 0))) := Lib.hid (by rw [← hW.out]; exact heap_alloc_new _ _)
  clear h
  by_cases hn : n ≤ 1048576
  · have hs : szIntS d ≤ 1048576 := by unfold szIntS; rw [HLN.out]; exact hn
    have h3 : ¬ ((1048576 : Int) < (n : Int)) := by omega
    go_enter Try.func12, Try.ntmps12
    go_wp2
    rw [hW.out]
    have hb := HB0.out
    have hx := HX0.out
    have hc0 : W.cell? ⟨w.heap.size, 0, none⟩ = some (.int .i64 x) := by rw [cell_of_row W _ 0 _ _ _ hx]; rfl
    have hc1 : W.cell? ⟨w.heap.size, 1, none⟩ = some (.int .i64 y) := by rw [cell_of_row W _ 1 _ _ _ hx]; rfl
    have hs0 := And.intro hb (And.intro hx (And.intro hc0 hc1))
    go_region_held3 (fun w' => Below w.heap.size w w' ∧ w'.heap[w.heap.size]? = some (.cells #[.int .i64 x, .int .i64 y] 51 (0, 0)) ∧ w'.cell? ⟨w.heap.size, 0, none⟩ = some (.int .i64 x) ∧ w'.cell? ⟨w.heap.size, 1, none⟩ = some (.int .i64 y))
      (first | exact ⟨hb, hx, hc0, hc1⟩ | exact ⟨below_drew hb, hx, hc0, hc1⟩)
      (first
        | (go_at_call 32
           refine (L_toIntS _ _ _ _ (HR.out.below (by first | exact hb | exact below_drew hb)) (by exact hb.size) hs).mono ?_
           rintro e w1 ⟨v1, rfl, ho, hb1⟩
           have hn := upd2 (by first | exact hb | exact below_drew hb) (by exact hx) hb1
           have hsz := Nat.le_refl w1.heap.size
           clear hb hx hc0 hc1 hb1
           obtain ⟨hb, hx, hc0, hc1⟩ := hn)
        | (go_at_call 47
           refine (l_toPoint x y _).mono ?_
           rintro e w1 ⟨rfl, hb1⟩
           have hn := upd2 (by first | exact hb | exact below_drew hb) (by exact hx) hb1
           try (have ho1 := ho.below hb1 (by first | exact hsz | (simp; exact hsz)); have hsz1 := Nat.le_trans hsz hb1.size; clear ho hsz; have ho := ho1; have hsz := hsz1; clear ho1 hsz1)
           clear hb hx hc0 hc1 hb1
           obtain ⟨hb, hx, hc0, hc1⟩ := hn)
        | (go_at_call 46
           refine (X_s_ShareCheck _ d x y _ (by exact ho.rd.more hsz) hs).mono ?_
           rintro e w1 ⟨rfl, hb1⟩
           have hn := upd2 (by first | exact hb | exact below_drew hb) (by exact hx) hb1
           clear hb hx hc0 hc1 hb1 ho hsz
           obtain ⟨hb, hx, hc0, hc1⟩ := hn))
    all_goals (
      have HB1 := Lib.hid hb
      have HX1 := Lib.hid hx
      clear hb hx hc0 hc1 hs0
      go_wp2_with fail
      refine (L_toIntS _ _ _ _ (HR.out.below HB1.out) HB1.out.size hs).mono ?_
      rintro e w2 ⟨v2, rfl, ho, hb2⟩
      obtain ⟨hb, hx, hc0, hc1⟩ := upd2 HB1.out HX1.out hb2
      have HO2 := Lib.hid ho
      have HB2 := Lib.hid hb
      have HX2 := Lib.hid hx
      clear hb2 ho hb hx HB1 HX1
      go_wp2_with fail
      refine (l_toPoint x y _).mono ?_
      rintro e w3 ⟨rfl, hb3⟩
      obtain ⟨hb, hx, _, _⟩ := upd2 HB2.out HX2.out hb3
      have z3 := hb3.size
      have HO3 := Lib.hid (HO2.out.below hb3 (Nat.le_refl _))
      have HB3 := Lib.hid hb
      have HX3 := Lib.hid hx
      clear hb3 hb hx HB2 HX2 HO2 hc0 hc1
      go_wp2_with fail
      refine (X_i_ShareCheck _ d x y _ (HO3.out.rd.more z3) hs).mono ?_
      rintro e w4 ⟨rfl, hb4⟩
      have z4 := hb4.size
      have HO4 := Lib.hid (HO3.out.below hb4 z3)
      have HB4 := Lib.hid (HB3.out.trans (hb4.mono HB3.out.size))
      clear hb4 HB3 HX3 HO3
      go_wp2_with fail
      refine (L_toIntS _ _ _ _ (HR.out.below HB4.out) HB4.out.size hs).mono ?_
      rintro e w5 ⟨v5, rfl, ho5, hb5⟩
      have z5 := hb5.size
      have HO5 := Lib.hid ho5
      have HO45 := Lib.hid (HO4.out.below hb5 (Nat.le_trans z3 z4))
      have HB5 := Lib.hid (HB4.out.trans (hb5.mono HB4.out.size))
      clear hb5 ho5 HB4 HO4
      go_wp2_with fail
      refine (L_eqIntS _ _ _ _ _ _ HO45.out.rd HO5.out.rd (by omega) (by omega) HO45.out.small).mono ?_
      rintro e w6 ⟨rfl, hb6⟩
      have HB6 := Lib.hid (HB5.out.trans (hb6.mono HB5.out.size))
      clear hb6 HB5 HO5 HO45
      go_wp2
      go_ret
      exact ⟨rfl, HB6.out⟩)
  · have h3 : (1048576 : Int) < (n : Int) := by omega
    go_enter Try.func12, Try.ntmps12
    go_wp2
    go_ret
    exact ⟨rfl, (Below.refl _ _).alloc (Nat.le_refl _) _⟩
end Go.Proofs.Ytjpjmlcmaombnaa
