/- Chapter 2: products in the model. -/
import Derived.Test.YtlagkinamnjnhaaWalk2g
namespace Go.Proofs.Ytlagkinamnjnhaa
open Go.RowKit
set_option maxRecDepth 100000

def mulL (zs ys : List Int) : List Int := if zs.length = 0 ∨ ys.length = 0 then [] else trimL (mulK (zs.length + ys.length - 1) zs ys zs.length)

set_option maxHeartbeats 2000000 in
theorem s_l2Mul (A A' : Option Addr) (n c n' c' : Nat) (zs ys : List Int) (w : World) (h : Rd w w.heap.size 1 A n (cI zs)) (h' : Rd w w.heap.size 1 A' n' (cI ys)) (hz : Nums zs) (hy : Nums ys)
    (hn : n ≤ 100000) (hn' : n' ≤ 100000) :
    Calls Try.prog 60 #[.slice A n c, .slice A' n' c'] w fun e w' => ∃ v, e = .returned v ∧ OwIntS w' w.heap.size w'.heap.size v (mulL zs ys) ∧ Below w.heap.size w w' := by
  have hl := Lib.hid h.len
  have hl' := Lib.hid h'.len
  have H := Lib.hid h
  have H' := Lib.hid h'
  have HZ := Lib.hid hz
  have HY := Lib.hid hy
  clear h h' hz hy
  by_cases h0 : n = 0
  · have HF : Hid (mulL zs ys = []) := Lib.hid (by unfold mulL; rw [if_pos (.inl (by have := hl.out; omega))])
    subst h0
    go_enter Try.func60, Try.ntmps60
    go_wp2
    go_ret
    refine ⟨_, rfl, ?_, (Below.refl _ _).alloc (Nat.le_refl _) _⟩
    rw [HF.out]
    exact ⟨by simp, _, _, _, rfl, by simp [cI], Nat.le_refl _, .inl rfl⟩
  · by_cases h1 : n' = 0
    · have HF : Hid (mulL zs ys = []) := Lib.hid (by unfold mulL; rw [if_pos (.inr (by have := hl'.out; omega))])
      have hz1 : ((n : Int) == 0) = false := by rw [beq_eq_false_iff_ne]; omega
      subst h1
      go_enter Try.func60, Try.ntmps60
      go_wp2
      go_ret
      refine ⟨_, rfl, ?_, (Below.refl _ _).alloc (Nat.le_refl _) _⟩
      rw [HF.out]
      exact ⟨by simp, _, _, _, rfl, by simp [cI], Nat.le_refl _, .inl rfl⟩
    · obtain ⟨m, hm⟩ : ∃ m, m = n + n' - 1 := ⟨_, rfl⟩
      have HF : Hid (mulL zs ys = trimL (mulK m zs ys n)) := Lib.hid (by
        unfold mulL; rw [if_neg (by have := hl.out; have := hl'.out; omega), hl.out, hl'.out, hm])
      have m1 : n + n' ≤ m + 1 := by omega
      have m2 : m + 1 ≤ n + n' := by omega
      have hz1 : ((n : Int) == 0) = false := by rw [beq_eq_false_iff_ne]; omega
      have hz2 : ((n' : Int) == 0) = false := by rw [beq_eq_false_iff_ne]; omega
      have hmk : ∀ W, (Instr.makeSlice 23 (.int .i64 ((n : Int) + (n' : Int) - 1)) (.int .i64 ((n : Int) + (n' : Int) - 1))).run Try.prog W = .ok (.slice (some ⟨W.heap.size, 0, none⟩) m m) (W.alloc (.cells (Array.replicate m (.int .i64 0)) 3)) := fun W => by
        rw [show (n : Int) + (n' : Int) - 1 = (m : Int) by omega]
        exact run_make1 (P := Try.prog) Try.underlying23 info_int rfl m (by omega) (by omega) W
      clear hm
      go_enter Try.func60, Try.ntmps60
      go_wp2
      go_loopw [6, 7] (fun i _ wr => ∃ k : Nat, k ≤ n ∧ i = .int .i64 k ∧ Hid (Ow wr w.heap.size (w.heap.size + 1) 3 1 (some ⟨w.heap.size, 0, none⟩) m m (cI (mulK m zs ys k))) ∧ Hid (Below w.heap.size w wr) ∧ Hid (wr.heap.size = w.heap.size + 1)) (fun i _ _ => n - (intOf i).toNat)
      case atStart => exact ⟨0, Nat.zero_le _, rfl, Lib.hid (by rw [mulK, ← cI_zeros]; exact Ow.zeros _ _ _ _), Lib.hid ((Below.refl _ _).alloc (Nat.le_refl _) _), Lib.hid (by simp)⟩
      case round =>
        obtain ⟨i, hi, rfl, HO, HB, HS⟩ := hrel
        by_cases hlt : i < n
        · obtain ⟨a, z, rfl, hab, hcz0, HQ⟩ := H.out.intAt hlt
          have Hcz0 := Lib.hid hcz0
          clear hcz0
          have z0 : 0 ≤ z := by rw [HQ.out]; exact (HZ.out i).1
          have z1 : z ≤ 112 := by rw [HQ.out]; exact (HZ.out i).2
          obtain ⟨wo, rfl⟩ : ∃ wo : World, wo = wr := ⟨_, rfl⟩
          have HO' : Hid (Ow wo w.heap.size (w.heap.size + 1) 3 1 (some ⟨w.heap.size, 0, none⟩) m m (cI (addAtK (mulK m zs ys i) i ys z 0))) := HO
          clear HO
          go_wp2
          go_loopw [7] (fun kk wr => ∃ k : Nat, k ≤ n' ∧ kk = .int .i64 k ∧ Hid (Ow wr w.heap.size (w.heap.size + 1) 3 1 (some ⟨w.heap.size, 0, none⟩) m m (cI (addAtK (mulK m zs ys i) i ys z k))) ∧ Hid (Below w.heap.size w wr) ∧ Hid (wr.heap.size = w.heap.size + 1)) (fun kk _ => n' - (intOf kk).toNat)
          case atStart => exact ⟨0, Nat.zero_le _, rfl, HO', HB, HS⟩
          case round =>
            obtain ⟨k, hk, rfl, HO, HB, HS⟩ := hrel
            by_cases hlt2 : k < n'
            · obtain ⟨a', y, rfl, hab', hcy0, HQ'⟩ := H'.out.intAt hlt2
              have hcy := (HB.out.cell (p := a'.add k) (by rw [add_block]; exact hab')).trans hcy0
              have hcz := (HB.out.cell (p := a.add i) (by rw [add_block]; exact hab)).trans Hcz0.out
              have y0 : 0 ≤ y := by rw [HQ'.out]; exact (HY.out k).1
              have y1 : y ≤ 112 := by rw [HQ'.out]; exact (HY.out k).2
              obtain ⟨x, hcx, HR⟩ := HO.out.intAt (show i + k < m by omega)
              have x0 : 0 ≤ x := by rw [HR.out]; exact (nums_addAtK (nums_mulK _ _ _ _) i ys z k (i + k)).1
              have x1 : x ≤ 112 := by rw [HR.out]; exact (nums_addAtK (nums_mulK _ _ _ _) i ys z k (i + k)).2
              have hf := HO.out.free (by omega) (i + k)
              obtain ⟨p0, p1⟩ := mul_bd z y z0 z1 y0 y1
              have HO2 : Hid (Ow (wr.setCell ⟨w.heap.size, i + k, none⟩ (.int .i64 ((x + z * y) % 113))).drew w.heap.size (w.heap.size + 1) 3 1 (some ⟨w.heap.size, 0, none⟩) m m (cI (addAtK (mulK m zs ys i) i ys z (k + 1)))) := Lib.hid (by
                have := HO.out.set (i + k) (.int .i64 ((x + z * y) % 113))
                rw [cI_set] at this
                rw [addAtK, ← HR.out, ← HQ'.out, Int.mul_comm y z]
                exact this)
              have HB2 : Hid (Below w.heap.size w (wr.setCell ⟨w.heap.size, i + k, none⟩ (.int .i64 ((x + z * y) % 113))).drew) := Lib.hid ((HB.out.setCell (p := ⟨w.heap.size, i + k, none⟩) (Nat.le_refl _) _).drew)
              have HS2 : Hid ((wr.setCell ⟨w.heap.size, i + k, none⟩ (.int .i64 ((x + z * y) % 113))).drew.heap.size = w.heap.size + 1) := Lib.hid (by rw [World.size_drew, World.size_setCell]; exact HS.out)
              clear HO HB HS hcy0
              have i0 : (0 : Int) ≤ (i : Int) + (k : Int) := by omega
              have i1 : (i : Int) + (k : Int) < (m : Int) := by omega
              have i2 : (i : Int) < (n : Int) := by omega
              have i3 : (k : Int) < (n' : Int) := by omega
              have iw : IntKind.i64.wrap ((i : Int) + (k : Int)) = (i : Int) + (k : Int) := IntWalk.i64_in _ (by omega)
              have it : ((i : Int) + (k : Int)).toNat = i + k := by omega
              go_wp2
              go_still_tail 22, (by kernel_rfl)
              change wpList _ _ _ _ _ wr.drew
              clear iw it
              go_wp2
              go_roundw
              case rel => exact ⟨k + 1, by omega, by go_num, HO2, HB2, HS2⟩
              case measure => simp [intOf] <;> omega
            · have hkn : k = n' := by omega
              have HO2 : Hid (Ow wr w.heap.size (w.heap.size + 1) 3 1 (some ⟨w.heap.size, 0, none⟩) m m (cI (mulK m zs ys (i + 1)))) := Lib.hid (by have := HO.out; rw [hkn] at this; rw [mulK, ← HQ.out, hl'.out]; exact this)
              clear HO hkn
              go_wp2
              go_roundw
              case rel => exact ⟨i + 1, by omega, by go_num, HO2, HB, HS⟩
              case measure => simp [intOf] <;> omega
        · have hkn : i = n := by omega
          have HO2 : Hid (Ow wr w.heap.size (w.heap.size + 1) 3 1 (some ⟨w.heap.size, 0, none⟩) m m (cI (mulK m zs ys n))) := Lib.hid (by have := HO.out; rw [hkn] at this; exact this)
          clear HO hkn
          go_wp2_with fail
          refine (s_l2Trim _ _ _ _ _ (HO2.out.rd.more (by have := HS.out; omega)) (Nat.le_refl _) (by omega)).mono ?_
          rintro e w3 ⟨v, rfl, ho3, hb3⟩
          have HO3 : Hid (OwIntS w3 w.heap.size w3.heap.size v (mulL zs ys)) := Lib.hid (by rw [HF.out]; exact ho3.widen (by have := HS.out; omega) (Nat.le_refl _))
          have HB3 : Hid (Below w.heap.size w w3) := Lib.hid (HB.out.trans (hb3.mono (by have := HS.out; omega)))
          clear ho3 hb3
          go_wp2
          go_ret
          exact ⟨_, rfl, HO3.out, HB3.out⟩
end Go.Proofs.Ytlagkinamnjnhaa
