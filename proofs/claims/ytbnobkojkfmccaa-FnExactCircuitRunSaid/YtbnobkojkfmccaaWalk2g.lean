/- Chapter 2: sums and products in the model. -/
import Derived.Test.YtbnobkojkfmccaaWalk2f
namespace Go.Proofs.Ytbnobkojkfmccaa
open Go.RowKit
set_option maxRecDepth 100000

/-- the first k places of a sum, in a row of m places -/
def addS (m : Nat) (zs ys : List Int) : Nat → List Int
  | 0 => List.replicate m 0
  | k + 1 => (addS m zs ys k).set k ((zs.getD k 0 + ys.getD k 0) % 113)
theorem addS_length (m : Nat) (zs ys : List Int) (k : Nat) : (addS m zs ys k).length = m := by
  induction k with
  | zero => simp [addS]
  | succ k ih => rw [addS, List.length_set, ih]
theorem zeros_get (m j : Nat) : (List.replicate m (0 : Int)).getD j 0 = 0 := by
  by_cases hj : j < m
  · simp [hj]
  · simp [List.getElem?_eq_none (show (List.replicate m (0 : Int)).length ≤ j by simp; omega)]
theorem addS_get (m : Nat) (zs ys : List Int) (k j : Nat) (h : k ≤ m) : (addS m zs ys k).getD j 0 = if j < k then (zs.getD j 0 + ys.getD j 0) % 113 else 0 := by
  induction k with
  | zero => rw [addS, zeros_get, if_neg (by omega)]
  | succ k ih =>
    rw [addS, getD_set, addS_length]
    by_cases h1 : k = j
    · subst h1; rw [if_pos ⟨rfl, by omega⟩, if_pos (by omega)]
    · rw [if_neg (by omega), ih (by omega)]
      by_cases h2 : j < k
      · rw [if_pos h2, if_pos (by omega)]
      · rw [if_neg h2, if_neg (by omega)]
def addL (zs ys : List Int) : List Int := trimL (addS (max zs.length ys.length) zs ys (max zs.length ys.length))
theorem getD_out (zs : List Int) (j : Nat) (h : zs.length ≤ j) : zs.getD j 0 = 0 := by simp [List.getElem?_eq_none h]
theorem add_step (w : World) (lo hi n c k : Nat) (g : Nat) (m : Nat) (zs ys : List Int) (v : Int) (h : Ow w lo hi 3 1 (some ⟨g, 0, none⟩) n c (cI (addS m zs ys k))) (hv : v = (zs.getD k 0 + ys.getD k 0) % 113) :
    Ow (w.setCell ⟨g, k, none⟩ (.int .i64 v)) lo hi 3 1 (some ⟨g, 0, none⟩) n c (cI (addS m zs ys (k + 1))) := by
  have := h.set k (.int .i64 v)
  rw [cI_set] at this
  rw [addS, ← hv]; exact this

set_option maxHeartbeats 2000000 in
theorem s_l2Add (A A' : Option Addr) (n c n' c' : Nat) (zs ys : List Int) (w : World) (h : Rd w w.heap.size 1 A n (cI zs)) (h' : Rd w w.heap.size 1 A' n' (cI ys)) (hz : Nums zs) (hy : Nums ys)
    (hn : n ≤ 100000) (hn' : n' ≤ 100000) :
    Calls Try.prog 101 #[.slice A n c, .slice A' n' c'] w fun e w' => ∃ v, e = .returned v ∧ OwIntS w' w.heap.size w'.heap.size v (addL zs ys) ∧ Below w.heap.size w w' := by
  have hl := Lib.hid h.len
  have hl' := Lib.hid h'.len
  have H := Lib.hid h
  have H' := Lib.hid h'
  have HZ := Lib.hid hz
  have HY := Lib.hid hy
  clear h h' hz hy
  by_cases hc : n' ≤ n
  · have HM : Hid (n = max n n') := Lib.hid (by omega)
    have hmk := fun W => run_make1 (P := Try.prog) Try.underlying27 info_int rfl n (by omega) (by omega) W
    go_enter Try.func101, Try.ntmps101
    go_wp2
    go_loopw [6] (fun i wr => ∃ k : Nat, k ≤ n ∧ i = .int .i64 k ∧ Hid (Ow wr w.heap.size (w.heap.size + 1) 3 1 (some ⟨w.heap.size, 0, none⟩) n n (cI (addS n zs ys k))) ∧ Hid (Below w.heap.size w wr) ∧ Hid (wr.heap.size = w.heap.size + 1)) (fun i _ => n - (intOf i).toNat)
    case atStart => exact ⟨0, Nat.zero_le _, rfl, Lib.hid (by rw [addS, ← cI_zeros]; exact Ow.zeros _ _ _ _), Lib.hid ((Below.refl _ _).alloc (Nat.le_refl _) _), Lib.hid (by simp)⟩
    case round =>
      obtain ⟨k, hk, rfl, HO, HB, HS⟩ := hrel
      by_cases hlt : k < n
      · have hd : wr.cell? ⟨w.heap.size, k, none⟩ = some (.int .i64 0) := by
          have := HO.out.cellAt (cI_get _ k (by rw [addS_length]; exact hlt))
          rw [addS_get _ _ _ _ _ (by omega), if_neg (by omega)] at this; exact this
        have hf := HO.out.free (by omega) k
        have i0 : (0 : Int) ≤ (k : Int) := by omega
        have i1 : (k : Int) < (n : Int) := by omega
        have h1 : k < n := hlt
        by_cases h2 : k < n'
        · obtain ⟨a, z, rfl, hab, hcz0, HQ⟩ := H.out.intAt h1
          have hcz := (HB.out.cell (p := a.add k) (by rw [add_block]; exact hab)).trans hcz0
          have z0 : 0 ≤ z := by rw [HQ.out]; exact (HZ.out k).1
          have z1 : z ≤ 112 := by rw [HQ.out]; exact (HZ.out k).2
          obtain ⟨a', y, rfl, hab', hcy0, HQ'⟩ := H'.out.intAt h2
          have hcy := (HB.out.cell (p := a'.add k) (by rw [add_block]; exact hab')).trans hcy0
          have y0 : 0 ≤ y := by rw [HQ'.out]; exact (HY.out k).1
          have y1 : y ≤ 112 := by rw [HQ'.out]; exact (HY.out k).2
          have HE : Hid (((z + y) % 113) = (zs.getD k 0 + ys.getD k 0) % 113) := Lib.hid (by rw [HQ.out, HQ'.out])
          have Hcz0 := Lib.hid hcz0
          clear hcz0
          have Hcy0 := Lib.hid hcy0
          clear hcy0
          go_wp2
          go_still_tail 12, (by kernel_rfl)
          change wpList _ _ _ _ _ wr.drew
          go_wp2
          obtain ⟨w2_, hw0⟩ : ∃ w2_, w2_ = (wr.setCell ⟨w.heap.size, k, none⟩ (.int .i64 z)).drew := ⟨_, rfl⟩
          have HO1 : Hid (Ow w2_ w.heap.size (w.heap.size + 1) 3 1 (some ⟨w.heap.size, 0, none⟩) n n (cI ((addS n zs ys k).set k z))) := Lib.hid (by rw [hw0, ← cI_set]; exact HO.out.set k (.int .i64 z))
          have HB1 : Hid (Below w.heap.size w w2_) := Lib.hid (by rw [hw0]; exact (HB.out.setCell (p := ⟨w.heap.size, k, none⟩) (Nat.le_refl _) _).drew)
          have HS1 : Hid (w2_.heap.size = w.heap.size + 1) := Lib.hid (by rw [hw0]; show (wr.setCell ⟨w.heap.size, k, none⟩ _).heap.size = _; rw [World.size_setCell]; exact HS.out)
          have hd1 : w2_.cell? ⟨w.heap.size, k, none⟩ = some (.int .i64 z) := by rw [hw0]; exact World.cell?_setCell_same _ _ _ hd
          have hf1 : w2_.frozen? ⟨w.heap.size, k, none⟩ = false := by rw [hw0]; exact (World.frozen?_setCell _ _ _ _).trans hf
          have hcy1 := (HB1.out.cell (p := a'.add k) (by rw [add_block]; exact hab')).trans Hcy0.out
          rw [← hw0]
          clear hw0 HO HB HS hd hf hcy
          go_still_tail 12, (by kernel_rfl)
          change wpList _ _ _ _ _ w2_.drew
          go_wp2
          go_roundw
          case rel => exact ⟨k + 1, by omega, by go_num, Lib.hid (by have := (HO1.out.set k (.int .i64 (z + y))).set k (.int .i64 ((z + y) % 113)); (repeat rw [cI_set] at this); (repeat rw [List.set_set] at this); rw [addS, ← HE.out]; exact this), Lib.hid (((HB1.out.setCell (p := ⟨w.heap.size, k, none⟩) (Nat.le_refl _) _).setCell (p := ⟨w.heap.size, k, none⟩) (Nat.le_refl _) _).drew), Lib.hid (by rw [World.size_drew, World.size_setCell, World.size_setCell]; exact HS1.out)⟩
          case measure => simp [intOf] <;> omega
        · obtain ⟨a, z, rfl, hab, hcz0, HQ⟩ := H.out.intAt h1
          have hcz := (HB.out.cell (p := a.add k) (by rw [add_block]; exact hab)).trans hcz0
          have z0 : 0 ≤ z := by rw [HQ.out]; exact (HZ.out k).1
          have z1 : z ≤ 112 := by rw [HQ.out]; exact (HZ.out k).2
          have HE : Hid ((z % 113) = (zs.getD k 0 + ys.getD k 0) % 113) := Lib.hid (by rw [HQ.out, getD_out ys k (by have := hl'.out; omega), Int.add_zero])
          have Hcz0 := Lib.hid hcz0
          clear hcz0
          go_wp2
          go_still_tail 12, (by kernel_rfl)
          change wpList _ _ _ _ _ wr.drew
          go_wp2
          go_roundw
          case rel => exact ⟨k + 1, by omega, by go_num, Lib.hid (by have := (HO.out.set k (.int .i64 z)).set k (.int .i64 (z % 113)); (repeat rw [cI_set] at this); (repeat rw [List.set_set] at this); rw [addS, ← HE.out]; exact this), Lib.hid (((HB.out.setCell (p := ⟨w.heap.size, k, none⟩) (Nat.le_refl _) _).setCell (p := ⟨w.heap.size, k, none⟩) (Nat.le_refl _) _).drew), Lib.hid (by rw [World.size_drew, World.size_setCell, World.size_setCell]; exact HS.out)⟩
          case measure => simp [intOf] <;> omega
      · have hkn : k = n := by omega
        have HO2 : Hid (Ow wr w.heap.size (w.heap.size + 1) 3 1 (some ⟨w.heap.size, 0, none⟩) n n (cI (addS n zs ys n))) := Lib.hid (by have := HO.out; rw [hkn] at this; exact this)
        clear HO hkn
        go_wp2_with fail
        refine (s_l2Trim _ _ _ _ _ (HO2.out.rd.more (by have := HS.out; omega)) (Nat.le_refl _) (by omega)).mono ?_
        rintro e w3 ⟨v, rfl, ho3, hb3⟩
        have HO3 : Hid (OwIntS w3 w.heap.size w3.heap.size v (addL zs ys)) := Lib.hid (by unfold addL; rw [hl.out, hl'.out, ← HM.out]; exact ho3.widen (by have := HS.out; omega) (Nat.le_refl _))
        have HB3 : Hid (Below w.heap.size w w3) := Lib.hid (HB.out.trans (hb3.mono (by have := HS.out; omega)))
        clear ho3 hb3
        go_wp2
        go_ret
        exact ⟨_, rfl, HO3.out, HB3.out⟩
  · have HM : Hid (n' = max n n') := Lib.hid (by omega)
    have hmk := fun W => run_make1 (P := Try.prog) Try.underlying27 info_int rfl n' (by omega) (by omega) W
    go_enter Try.func101, Try.ntmps101
    go_wp2
    go_loopw [6] (fun i wr => ∃ k : Nat, k ≤ n' ∧ i = .int .i64 k ∧ Hid (Ow wr w.heap.size (w.heap.size + 1) 3 1 (some ⟨w.heap.size, 0, none⟩) n' n' (cI (addS n' zs ys k))) ∧ Hid (Below w.heap.size w wr) ∧ Hid (wr.heap.size = w.heap.size + 1)) (fun i _ => n' - (intOf i).toNat)
    case atStart => exact ⟨0, Nat.zero_le _, rfl, Lib.hid (by rw [addS, ← cI_zeros]; exact Ow.zeros _ _ _ _), Lib.hid ((Below.refl _ _).alloc (Nat.le_refl _) _), Lib.hid (by simp)⟩
    case round =>
      obtain ⟨k, hk, rfl, HO, HB, HS⟩ := hrel
      by_cases hlt : k < n'
      · have hd : wr.cell? ⟨w.heap.size, k, none⟩ = some (.int .i64 0) := by
          have := HO.out.cellAt (cI_get _ k (by rw [addS_length]; exact hlt))
          rw [addS_get _ _ _ _ _ (by omega), if_neg (by omega)] at this; exact this
        have hf := HO.out.free (by omega) k
        have i0 : (0 : Int) ≤ (k : Int) := by omega
        have i1 : (k : Int) < (n' : Int) := by omega
        have h2 : k < n' := hlt
        by_cases h1 : k < n
        · obtain ⟨a, z, rfl, hab, hcz0, HQ⟩ := H.out.intAt h1
          have hcz := (HB.out.cell (p := a.add k) (by rw [add_block]; exact hab)).trans hcz0
          have z0 : 0 ≤ z := by rw [HQ.out]; exact (HZ.out k).1
          have z1 : z ≤ 112 := by rw [HQ.out]; exact (HZ.out k).2
          obtain ⟨a', y, rfl, hab', hcy0, HQ'⟩ := H'.out.intAt h2
          have hcy := (HB.out.cell (p := a'.add k) (by rw [add_block]; exact hab')).trans hcy0
          have y0 : 0 ≤ y := by rw [HQ'.out]; exact (HY.out k).1
          have y1 : y ≤ 112 := by rw [HQ'.out]; exact (HY.out k).2
          have HE : Hid (((z + y) % 113) = (zs.getD k 0 + ys.getD k 0) % 113) := Lib.hid (by rw [HQ.out, HQ'.out])
          have Hcz0 := Lib.hid hcz0
          clear hcz0
          have Hcy0 := Lib.hid hcy0
          clear hcy0
          go_wp2
          go_still_tail 12, (by kernel_rfl)
          change wpList _ _ _ _ _ wr.drew
          go_wp2
          obtain ⟨w2_, hw0⟩ : ∃ w2_, w2_ = (wr.setCell ⟨w.heap.size, k, none⟩ (.int .i64 z)).drew := ⟨_, rfl⟩
          have HO1 : Hid (Ow w2_ w.heap.size (w.heap.size + 1) 3 1 (some ⟨w.heap.size, 0, none⟩) n' n' (cI ((addS n' zs ys k).set k z))) := Lib.hid (by rw [hw0, ← cI_set]; exact HO.out.set k (.int .i64 z))
          have HB1 : Hid (Below w.heap.size w w2_) := Lib.hid (by rw [hw0]; exact (HB.out.setCell (p := ⟨w.heap.size, k, none⟩) (Nat.le_refl _) _).drew)
          have HS1 : Hid (w2_.heap.size = w.heap.size + 1) := Lib.hid (by rw [hw0]; show (wr.setCell ⟨w.heap.size, k, none⟩ _).heap.size = _; rw [World.size_setCell]; exact HS.out)
          have hd1 : w2_.cell? ⟨w.heap.size, k, none⟩ = some (.int .i64 z) := by rw [hw0]; exact World.cell?_setCell_same _ _ _ hd
          have hf1 : w2_.frozen? ⟨w.heap.size, k, none⟩ = false := by rw [hw0]; exact (World.frozen?_setCell _ _ _ _).trans hf
          have hcy1 := (HB1.out.cell (p := a'.add k) (by rw [add_block]; exact hab')).trans Hcy0.out
          rw [← hw0]
          clear hw0 HO HB HS hd hf hcy
          go_still_tail 12, (by kernel_rfl)
          change wpList _ _ _ _ _ w2_.drew
          go_wp2
          go_roundw
          case rel => exact ⟨k + 1, by omega, by go_num, Lib.hid (by have := (HO1.out.set k (.int .i64 (z + y))).set k (.int .i64 ((z + y) % 113)); (repeat rw [cI_set] at this); (repeat rw [List.set_set] at this); rw [addS, ← HE.out]; exact this), Lib.hid (((HB1.out.setCell (p := ⟨w.heap.size, k, none⟩) (Nat.le_refl _) _).setCell (p := ⟨w.heap.size, k, none⟩) (Nat.le_refl _) _).drew), Lib.hid (by rw [World.size_drew, World.size_setCell, World.size_setCell]; exact HS1.out)⟩
          case measure => simp [intOf] <;> omega
        · obtain ⟨a', y, rfl, hab', hcy0, HQ'⟩ := H'.out.intAt h2
          have hcy := (HB.out.cell (p := a'.add k) (by rw [add_block]; exact hab')).trans hcy0
          have y0 : 0 ≤ y := by rw [HQ'.out]; exact (HY.out k).1
          have y1 : y ≤ 112 := by rw [HQ'.out]; exact (HY.out k).2
          have HE : Hid ((y % 113) = (zs.getD k 0 + ys.getD k 0) % 113) := Lib.hid (by rw [HQ'.out, getD_out zs k (by have := hl.out; omega), Int.zero_add])
          have Hcy0 := Lib.hid hcy0
          clear hcy0
          go_wp2
          go_still_tail 12, (by kernel_rfl)
          change wpList _ _ _ _ _ wr.drew
          go_wp2
          go_roundw
          case rel => exact ⟨k + 1, by omega, by go_num, Lib.hid (by have := (HO.out.set k (.int .i64 y)).set k (.int .i64 (y % 113)); (repeat rw [cI_set] at this); (repeat rw [List.set_set] at this); rw [addS, ← HE.out]; exact this), Lib.hid (((HB.out.setCell (p := ⟨w.heap.size, k, none⟩) (Nat.le_refl _) _).setCell (p := ⟨w.heap.size, k, none⟩) (Nat.le_refl _) _).drew), Lib.hid (by rw [World.size_drew, World.size_setCell, World.size_setCell]; exact HS.out)⟩
          case measure => simp [intOf] <;> omega
      · have hkn : k = n' := by omega
        have HO2 : Hid (Ow wr w.heap.size (w.heap.size + 1) 3 1 (some ⟨w.heap.size, 0, none⟩) n' n' (cI (addS n' zs ys n'))) := Lib.hid (by have := HO.out; rw [hkn] at this; exact this)
        clear HO hkn
        go_wp2_with fail
        refine (s_l2Trim _ _ _ _ _ (HO2.out.rd.more (by have := HS.out; omega)) (Nat.le_refl _) (by omega)).mono ?_
        rintro e w3 ⟨v, rfl, ho3, hb3⟩
        have HO3 : Hid (OwIntS w3 w.heap.size w3.heap.size v (addL zs ys)) := Lib.hid (by unfold addL; rw [hl.out, hl'.out, ← HM.out]; exact ho3.widen (by have := HS.out; omega) (Nat.le_refl _))
        have HB3 : Hid (Below w.heap.size w w3) := Lib.hid (HB.out.trans (hb3.mono (by have := HS.out; omega)))
        clear ho3 hb3
        go_wp2
        go_ret
        exact ⟨_, rfl, HO3.out, HB3.out⟩
end Go.Proofs.Ytbnobkojkfmccaa
