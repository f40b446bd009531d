/- Chapter 2: sums and products in the program. -/
import Derived.Test.YtlagkinamnjnhaaWalk2e
namespace Go.Proofs.Ytlagkinamnjnhaa
open Go.RowKit
set_option maxRecDepth 100000

def plusL (zs ys : List Int) (x : Int) : List Int := trimL (addAtK (padL zs (max zs.length ys.length)) 0 ys x ys.length)

theorem addAtK_get (zs : List Int) (idx : Nat) (ys : List Int) (x : Int) (k j : Nat) (h : idx + k ≤ zs.length) :
    (addAtK zs idx ys x k).getD j 0 = if idx ≤ j ∧ j < idx + k then (zs.getD j 0 + ys.getD (j - idx) 0 * x) % 113 else zs.getD j 0 := by
  induction k with
  | zero => rw [addAtK, if_neg (by omega)]
  | succ k ih =>
    rw [addAtK, getD_set, addAtK_length]
    by_cases h1 : idx + k = j
    · subst h1
      rw [if_pos ⟨rfl, by omega⟩, if_pos (by omega), ih (by omega), if_neg (by omega), Nat.add_sub_cancel_left]
    · rw [if_neg (by omega), ih (by omega)]
      by_cases h2 : idx ≤ j ∧ j < idx + k
      · rw [if_pos h2, if_pos (by omega)]
      · rw [if_neg h2, if_neg (by omega)]

/-- k rounds of a product, in a row of m places -/
def mulK (m : Nat) (zs ys : List Int) : Nat → List Int
  | 0 => List.replicate m 0
  | k + 1 => addAtK (mulK m zs ys k) k ys (zs.getD k 0) ys.length
theorem mulK_length (m : Nat) (zs ys : List Int) (k : Nat) : (mulK m zs ys k).length = m := by
  induction k with
  | zero => simp [mulK]
  | succ k ih => rw [mulK, addAtK_length, ih]
theorem nums_zeros (m : Nat) : Nums (List.replicate m 0) := by
  intro j
  by_cases h : j < m
  · simp [h]
  · simp [List.getElem?_eq_none (show (List.replicate m (0 : Int)).length ≤ j by simp; omega)]
theorem nums_mulK (m : Nat) (zs ys : List Int) (k : Nat) : Nums (mulK m zs ys k) := by
  induction k with
  | zero => exact nums_zeros m
  | succ k ih => exact nums_addAtK ih _ _ _ _
/-- one place more makes no difference -/
theorem mulK_get (m m' : Nat) (zs ys : List Int) (k j : Nat) (h : k ≤ zs.length) (hm : zs.length + ys.length ≤ m + 1) (hm' : zs.length + ys.length ≤ m' + 1) (_h0 : 0 < ys.length) :
    (mulK m zs ys k).getD j 0 = (mulK m' zs ys k).getD j 0 := by
  induction k generalizing j with
  | zero =>
    have z : ∀ r, (List.replicate r (0 : Int)).getD j 0 = 0 := fun r => by
      have a := nums_zeros r j
      by_cases hj : j < r
      · simp [hj]
      · simp [List.getElem?_eq_none (show (List.replicate r (0 : Int)).length ≤ j by simp; omega)]
    rw [mulK, mulK, z, z]
  | succ k ih =>
    rw [mulK, mulK, addAtK_get _ _ _ _ _ _ (by rw [mulK_length]; omega), addAtK_get _ _ _ _ _ _ (by rw [mulK_length]; omega), ih j (by omega)]

def timesL (zs ys : List Int) : List Int := trimL (mulK (zs.length + ys.length) zs ys zs.length)

set_option maxHeartbeats 1000000 in
theorem i_polynomial_times (A A' : Option Addr) (n c n' c' : Nat) (zs ys : List Int) (w : World) (h : Rd w w.heap.size 1 A n (cI zs)) (h' : Rd w w.heap.size 1 A' n' (cI ys)) (hz : Nums zs) (hy : Nums ys)
    (hn : n ≤ 100000) (hn' : n' ≤ 100000) :
    Calls Try.prog 61 #[.slice A n c, .slice A' n' c'] w fun e w' => ∃ v, e = .returned v ∧ OwIntS w' w.heap.size w'.heap.size v (timesL zs ys) ∧ Below w.heap.size w w' := by
  have hl := Lib.hid h.len
  have hl' := Lib.hid h'.len
  have H := Lib.hid h
  have H' := Lib.hid h'
  have HZ := Lib.hid hz
  have HY := Lib.hid hy
  have hmk := fun W => run_make1 (P := Try.prog) Try.underlying75 info_int rfl (n + n') (by omega) (by omega) W
  simp only [Int.natCast_add] at hmk
  clear h h' hz hy
  go_enter Try.func61, Try.ntmps61
  go_wp2
  go_loopw [16] (fun i wr => ∃ k : Nat, k ≤ n ∧ i = .int .i64 k ∧ Hid (Ow wr w.heap.size (w.heap.size + 1) 3 1 (some ⟨w.heap.size, 0, none⟩) (n + n') (n + n') (cI (mulK (n + n') zs ys k))) ∧ Hid (Below w.heap.size w wr) ∧ Hid (wr.heap.size = w.heap.size + 1)) (fun i _ => n - (intOf i).toNat)
  case atStart => exact ⟨0, Nat.zero_le _, rfl, Lib.hid (by rw [mulK, ← cI_zeros]; exact Ow.zeros _ _ _ _), Lib.hid ((Below.refl _ _).alloc (Nat.le_refl _) _), Lib.hid (by simp)⟩
  case round =>
    obtain ⟨k, hk, rfl, HO, HB, HS⟩ := hrel
    by_cases hlt : k < n
    · obtain ⟨a, z, rfl, hab, hc0, HQ⟩ := H.out.intAt hlt
      have hck := (HB.out.cell (p := a.add k) (by rw [add_block]; exact hab)).trans hc0
      have z0 : 0 ≤ z := by rw [HQ.out]; exact (HZ.out k).1
      have z1 : z ≤ 112 := by rw [HQ.out]; exact (HZ.out k).2
      clear hc0
      go_wp2_with fail
      refine (i_addAt _ _ _ _ _ _ _ _ k _ _ _ _ HO.out (H'.out.below HB.out) (nums_mulK _ _ _ _) HY.out (by have := HS.out; omega) (by omega) (by omega) z0 z1).mono ?_
      rintro e w2 ⟨rfl, ho2, hk2, hs2⟩
      have HO2 : Hid (Ow w2 w.heap.size (w.heap.size + 1) 3 1 (some ⟨w.heap.size, 0, none⟩) (n + n') (n + n') (cI (mulK (n + n') zs ys (k + 1)))) := Lib.hid (by rw [mulK, ← HQ.out, hl'.out]; exact ho2)
      have HB2 : Hid (Below w.heap.size w w2) := Lib.hid (HB.out.trans (hk2.to_below (by have := HS.out; omega)))
      have HS2 : Hid (w2.heap.size = w.heap.size + 1) := Lib.hid (hs2.trans HS.out)
      clear ho2 hk2 hs2 HO HB HS
      go_wp2
      go_roundw
      case rel => exact ⟨k + 1, by omega, by go_num, HO2, HB2, HS2⟩
      case measure => simp [intOf] <;> omega
    · have hkn : k = n := by omega
      have HO2 : Hid (Ow wr w.heap.size (w.heap.size + 1) 3 1 (some ⟨w.heap.size, 0, none⟩) (n + n') (n + n') (cI (mulK (n + n') zs ys n))) := Lib.hid (by have := HO.out; rw [hkn] at this; exact this)
      clear HO hkn
      go_wp2_with fail
      refine (i_trimmed _ _ _ _ _ _ _ HO2.out (by omega)).mono ?_
      rintro e w3 ⟨v, rfl, ho3, rfl⟩
      have HO3 : Hid (OwIntS wr w.heap.size wr.heap.size v (timesL zs ys)) := Lib.hid (by
        unfold timesL; rw [hl.out, hl'.out]; exact ho3.widen (Nat.le_refl _) (by have := HS.out; omega))
      clear ho3
      go_wp2
      go_ret
      exact ⟨_, rfl, HO3.out, HB.out⟩
end Go.Proofs.Ytlagkinamnjnhaa
