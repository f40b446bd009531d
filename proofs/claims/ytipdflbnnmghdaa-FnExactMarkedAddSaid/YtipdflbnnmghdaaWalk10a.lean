/- Chapter 10: sums in the model; sums party by party. -/
import Derived.Test.YtipdflbnnmghdaaMath14
import Derived.Test.YtipdflbnnmghdaaSum
import Derived.Test.YtipdflbnnmghdaaAppend3
import Derived.Test.YtipdflbnnmghdaaWalk2d
import Derived.Test.YtipdflbnnmghdaaWalk3a
import Derived.Test.YtipdflbnnmghdaaMarked
import Derived.Test.YtipdflbnnmghdaaWalk3c
import Derived.Test.YtipdflbnnmghdaaWalk5e
import Derived.Deep.RegionHeld3
import Derived.Deep.RegionLaw
namespace Go.Proofs.Ytipdflbnnmghdaa
open Go.RowKit
set_option maxRecDepth 100000

theorem lit_int0 (w : World) (s : Int) : (w.alloc (.cells #[.int .i64 s] 3)).ownsRow w.heap.size 3 1 (.slice (some ⟨w.heap.size, 0, none⟩) 1 1) 1 [.int .i64 s] :=
  ⟨rfl, .inr ⟨w.heap.size, 1, _, rfl, Nat.le_refl _, heap_alloc_new _ _, Nat.le_refl _, by unfold maxLen; omega, rfl, rfl⟩⟩
theorem own_fin {w1 : World} {B n : Nat} {v : Value} {ys : List Int} (h : w1.ownsRow B 3 1 v n (cI ys)) (hs : n ≤ 1048576) : ∃ A c, v = .slice A n c ∧ OwIntS w1 B w1.heap.size (.slice A n c) ys := by
  obtain ⟨A, c, rfl, ho⟩ := Ow.of_own h
  exact ⟨A, c, rfl, by have := ho.len; omega, A, _, c, rfl, ho⟩

set_option maxHeartbeats 1000000 in
theorem s_l10Split (a : Int) (A : Option Addr) (n c : Nat) (zs : List Int) (w : World) (h : Rd w w.heap.size 1 A n (cI zs)) (hN : Nums zs) (hn : n ≤ 1000) (a0 : 0 ≤ a) (a1 : a ≤ 112) :
    Calls Try.prog 150 #[.int .i64 a, .slice A n c] w fun e w' => ∃ A' c', e = .returned (.slice A' (1 + n) c') ∧ OwIntS w' w.heap.size w'.heap.size (.slice A' (1 + n) c') (splitL a zs) ∧ Below w.heap.size w w' := by
  have sb := sumI_bd zs
  obtain ⟨S, hS⟩ : ∃ S, Hid (sumI zs = S) := ⟨_, Lib.hid rfl⟩
  rw [hS.out] at sb
  have HE : Hid (splitL a zs = ((a - S) % 113) :: zs) := Lib.hid (by rw [splitL, hS.out])
  have HLIT := Lib.hid (lit_int0 w ((a - S) % 113))
  have HRD : Hid (Rd (w.alloc (.cells #[.int .i64 ((a - S) % 113)] 3)) w.heap.size 1 A n (cI zs)) := Lib.hid (h.below ((Below.refl _ _).alloc (Nat.le_refl _) _))
  have H := Lib.hid h
  have HN := Lib.hid hN
  clear h hN
  go_enter Try.func150, Try.ntmps150
  go_wp2_with fail
  refine (s_l10Sum _ _ _ _ _ H.out HN.out (by omega)).mono ?_
  rintro e w' ⟨rfl, rfl⟩
  rw [hS.out]
  go_wp2_with fail
  refine (s_l1Sub _ _ _ a0 a1 sb.1 sb.2).mono ?_
  rintro e w' ⟨rfl, rfl⟩
  go_wp2_with (at_builtin
               refine wpList_append_rd rfl (.tmp 9) (.tmp 10) _ rfl w.heap.size 3 _ 1 8 Try.underlying24 info_int rfl (by decide) (.slice (some ⟨w.heap.size, 0, none⟩) 1 1) 1 [.int .i64 ((a - S) % 113)] rfl HLIT.out _ A n c (cI zs) rfl HRD.out (cI_one _) (by unfold maxLen; omega) (by omega) (by simp) ?_
               intro v5 w5 hown hgr hat
               have HO5 : Hid (∃ A c, v5 = .slice A (1 + n) c ∧ OwIntS w5 w.heap.size w5.heap.size (.slice A (1 + n) c) (splitL a zs)) := Lib.hid (by rw [HE.out]; exact own_fin (ys := ((a - S) % 113) :: zs) hown (by omega))
               have HB5 : Hid (Below w.heap.size w w5) := Lib.hid (below_grown ((Below.refl _ _).alloc (Nat.le_refl _) _) hgr (fun g e => by simp [Value.ownBlock] at e; omega) (by simp))
               clear hown hgr hat)
  obtain ⟨A5, c5, rfl, ho5⟩ := HO5.out
  go_ret
  exact ⟨_, _, rfl, ho5, HB5.out⟩


set_option maxHeartbeats 2000000 in
theorem s_l10Mix (A A' : Option Addr) (n c n' c' : Nat) (xs ys : List Int) (t : Int) (w : World) (h : Rd w w.heap.size 1 A n (cI xs)) (h' : Rd w w.heap.size 1 A' n' (cI ys)) (hN : Nums xs) (hM : Nums ys) (hn : n ≤ 7) (hnn : n' = n) (t0 : 0 ≤ t) (t1 : t ≤ 112) :
    Calls Try.prog 139 #[.slice A n c, .slice A' n' c', .int .i64 t] w fun e w' => ∃ A3 c3, e = .returned (.slice A3 n c3) ∧ OwIntS w' w.heap.size w'.heap.size (.slice A3 n c3) (mixL xs ys t) ∧ Below w.heap.size w w' := by
  subst hnn
  have hlen : Hid (xs.length = n') := Lib.hid h.len
  have H := Lib.hid h
  have H' := Lib.hid h'
  have HN := Lib.hid hN
  have HM := Lib.hid hM
  clear h h' hN hM
  have H0 : Hid ((w.alloc (.cells #[] 3)).ownsRow w.heap.size 3 1 (.slice (some ⟨w.heap.size, 0, none⟩) 0 0) 0 (cI ((mixL xs ys t).take 0))) := Lib.hid (own_empty w _ 1)
  have HB0 : Hid (Below w.heap.size w (w.alloc (.cells #[] 3))) := Lib.hid ((Below.refl _ _).alloc (Nat.le_refl _) _)
  go_enter Try.func139, Try.ntmps139
  go_wp2
  go_loopw [7, 8] (fun out i wr => ∃ (k : Nat) (Ao : Option Addr) (co : Nat), k ≤ n' ∧ i = .int .i64 k ∧ out = .slice Ao k co ∧ Hid (wr.ownsRow w.heap.size 3 1 (.slice Ao k co) k (cI ((mixL xs ys t).take k))) ∧ Hid (Below w.heap.size w wr)) (fun _ i _ => n' - (intOf i).toNat)
  case atStart => exact ⟨0, _, 0, Nat.zero_le _, rfl, rfl, H0, HB0⟩
  case round =>
    clear H0 HB0
    obtain ⟨k, Ao, co, hk, rfl, rfl, HO, HB⟩ := hrel
    by_cases hlt : k < n'
    · obtain ⟨a, x, rfl, hab, hx0, HX⟩ := H.out.intAt hlt
      obtain ⟨a', y, rfl, hab', hy0, HY⟩ := H'.out.intAt hlt
      have hx := (HB.out.cell (p := a.add k) (by rw [add_block]; exact hab)).trans hx0
      have hy := (HB.out.cell (p := a'.add k) (by rw [add_block]; exact hab')).trans hy0
      have HX0 := Lib.hid hx0
      have HY0 := Lib.hid hy0
      clear hx0 hy0
      have x0 : 0 ≤ x := by rw [HX.out]; exact (HN.out k).1
      have x1 : x ≤ 112 := by rw [HX.out]; exact (HN.out k).2
      have y0 : 0 ≤ y := by rw [HY.out]; exact (HM.out k).1
      have y1 : y ≤ 112 := by rw [HY.out]; exact (HM.out k).2
      obtain ⟨m0, m1⟩ := mul_bd y t y0 y1 t0 t1
      have HE : Hid ((mixL xs ys t).take (k + 1) = (mixL xs ys t).take k ++ [(x + y * t) % 113]) := Lib.hid (by rw [mixL_take _ _ _ _ (by have := hlen.out; omega), ← HX.out, ← HY.out])
      have i0 : (0 : Int) ≤ (k : Int) := by omega
      have i1 : (k : Int) < (n' : Int) := by omega
      have iw : IntKind.i64.wrap (y * t) = y * t := IntWalk.i64_in _ (by omega)
      have iw2 : IntKind.i64.wrap (x + y * t) = x + y * t := IntWalk.i64_in _ (by omega)
      have im : (x + y * t).tmod 113 = (x + y * t) % 113 := Int.tmod_eq_emod_of_nonneg (by omega)
      clear m0 m1
      go_wp2
      go_region_held3 (fun w' => w'.cell? (a.add k) = some (.int .i64 x) ∧ w'.cell? (a'.add k) = some (.int .i64 y)) (go_keep) (first
        | (refine step_int (w := w) (wr := wr) (p := (x + y * t) % 113) rfl (.tmp 16) (.tmp 29) rfl rfl rfl HO.out HB.out ?hW ?hl (by omega) ?_
           case hW => first | exact (Below.refl _ _).alloc (Nat.le_refl _) _ | exact below_drew ((Below.refl _ _).alloc (Nat.le_refl _) _) | exact (below_drew (Below.refl _ _)).alloc (Nat.le_refl _) _
           case hl => exact heap_alloc_new _ _
           intro A3 c3 w3 h6 h7
           have hx3 := (h7.out.cell (p := a.add k) (by rw [add_block]; exact hab)).trans HX0.out
           have hy3 := (h7.out.cell (p := a'.add k) (by rw [add_block]; exact hab')).trans HY0.out))
      all_goals (
        have HO2 : Hid (w3.ownsRow w.heap.size 3 1 (.slice A3 (k + 1) c3) (k + 1) (cI ((mixL xs ys t).take (k + 1)))) := Lib.hid (by
          rw [HE.out]; exact h6.out)
        clear h6 hx3 hy3 iw im iw2
        go_wp2
        go_roundw
        case rel => exact ⟨k + 1, A3, c3, by omega, by go_num, rfl, HO2, h7⟩
        case measure => simp [intOf] <;> omega)
    · have hkn : k = n' := by omega
      have HOF : Hid (OwIntS wr w.heap.size wr.heap.size (.slice Ao k co) (mixL xs ys t)) := Lib.hid (by
        have := HO.out
        rw [hkn, List.take_of_length_le (by rw [mixL_length, hlen.out]; omega)] at this
        rw [hkn]
        obtain ⟨A, c, he, ho⟩ := own_fin this (by omega)
        rw [he]; exact ho)
      subst hkn
      go_wp2
      go_ret
      exact ⟨_, _, rfl, HOF.out, HB.out⟩
end Go.Proofs.Ytipdflbnnmghdaa
