/- Chapter 13: the program's HiddenSlots. -/
import Derived.Test.YtlajhgnlllelfaaWalk13a
namespace Go.Proofs.Ytlajhgnlllelfaa
open Go.RowKit
set_option maxRecDepth 100000

/-- the first k cells are their own numbers -/
def ownL (k : Nat) : List Int := (List.range 8).map fun i : Nat => if i < k then (i : Int) else 0
theorem ownL_length (k : Nat) : (ownL k).length = 8 := by simp [ownL]
theorem ownL_succ (k : Nat) (hk : k < 8) : ownL (k + 1) = (ownL k).set k (k : Int) := by
  apply List.ext_getElem?
  intro j
  rw [List.getElem?_set, ownL_length]
  by_cases hj : j < 8
  · simp only [ownL, List.getElem?_map, List.getElem?_range hj, Option.map_some]
    by_cases e : k = j
    · subst e; simp [hj]
    · rw [if_neg e]
      by_cases h : j < k
      · rw [if_pos (by omega), if_pos h]
      · rw [if_neg (by omega), if_neg h]
  · rw [List.getElem?_eq_none (by rw [ownL_length]; omega), List.getElem?_eq_none (by rw [ownL_length]; omega)]
    split
    · omega
    · rfl
theorem ownL_all (d : List AcD) : ownL 8 = latL d 0 := rfl

set_option maxHeartbeats 8000000 in
theorem X_i_HiddenSlots (v : Value) (d : List AcD) (w : World) (h : RdAccessS w w.heap.size v d) (hs : szAccessS d ≤ 1048576) :
    Calls Try.prog 34 #[v] w fun e w' => ∃ g, e = .returned g ∧ OwIntS w' w.heap.size w'.heap.size g (R_HiddenSlots_0 d) ∧ Below w.heap.size w w' := by
  obtain ⟨A, n, c, rfl, _, h⟩ := h
  have hn : n ≤ 1048576 := by have := h.Accesslen; unfold szAccessS at hs; omega
  have HL := Lib.hid h.Accesslen
  have HR := Lib.hid h
  clear h hs
  have no : slotB d = false → Hid (R_HiddenSlots_0 d = []) := fun h => Lib.hid (by unfold R_HiddenSlots_0; rw [h]; rfl)
  by_cases h40 : 40 < n
  · have HF := no (by unfold slotB; rw [HL.out, decide_eq_false (by omega)]; rfl)
    have q : (40 : Int) < (n : Int) := by omega
    clear no
    go_enter Try.func34, Try.ntmps34
    go_wp2
    go_ret
    exact ⟨_, rfl, by rw [HF.out]; exact OwIntS.nil_ _ _ _, Below.refl _ _⟩
  have q40 : ¬ (40 : Int) < (n : Int) := by omega
  have HNO := Lib.hid no
  clear no
  have HA0 : Hid (Ow (w.alloc (.cells #[.int .i64 0, .int .i64 0, .int .i64 0, .int .i64 0, .int .i64 0, .int .i64 0, .int .i64 0, .int .i64 0] 95)) w.heap.size (w.heap.size + 1) 95 1 (some ⟨w.heap.size, 0, none⟩) 8 8 (cI (ownL 0))) := Lib.hid (Ow.new w _ 95 1 8 rfl)
  have HB0 : Hid (Below w.heap.size w (w.alloc (.cells #[.int .i64 0, .int .i64 0, .int .i64 0, .int .i64 0, .int .i64 0, .int .i64 0, .int .i64 0, .int .i64 0] 95))) := Lib.hid ((Below.refl _ _).alloc (Nat.le_refl _) _)
  have HZ0 : Hid (w.heap.size + 1 ≤ (w.alloc (.cells #[.int .i64 0, .int .i64 0, .int .i64 0, .int .i64 0, .int .i64 0, .int .i64 0, .int .i64 0, .int .i64 0] 95)).heap.size) := Lib.hid (by simp)
  go_enter Try.func34, Try.ntmps34
  go_wp2
  go_loopw [4, 12] (fun _ i wr => ∃ k : Nat, k ≤ 8 ∧ i = .int .i64 k ∧ Hid (Ow wr w.heap.size (w.heap.size + 1) 95 1 (some ⟨w.heap.size, 0, none⟩) 8 8 (cI (ownL k))) ∧ Hid (Below w.heap.size w wr) ∧ Hid (w.heap.size + 1 ≤ wr.heap.size)) (fun _ i _ => 8 - (intOf i).toNat)
  case atStart => exact ⟨0, Nat.zero_le _, rfl, HA0, HB0, HZ0⟩
  case round =>
    clear HA0 HB0 HZ0
    obtain ⟨k, hk, rfl, HA, HB, HZ⟩ := hrel
    by_cases hlt : k < 8
    · obtain ⟨z, hd, _⟩ := HA.out.intAt hlt
      have hf := HA.out.free (by omega) k
      have HA2 : Hid (Ow (wr.setCell ⟨w.heap.size, k, none⟩ (.int .i64 k)) w.heap.size (w.heap.size + 1) 95 1 (some ⟨w.heap.size, 0, none⟩) 8 8 (cI (ownL (k + 1)))) := Lib.hid (by
        have := HA.out.set k (.int .i64 k)
        rw [cI_set, ← ownL_succ k hlt] at this; exact this)
      have HB2 := Lib.hid (HB.out.setCell (p := ⟨w.heap.size, k, none⟩) (Nat.le_refl _) (.int .i64 k))
      have HZ2 : Hid (w.heap.size + 1 ≤ (wr.setCell ⟨w.heap.size, k, none⟩ (.int .i64 k)).heap.size) := Lib.hid (by rw [World.size_setCell]; exact HZ.out)
      have i0 : (0 : Int) ≤ (k : Int) := by omega
      have i1 : (k : Int) < 8 := by omega
      clear HA HB HZ
      go_wp2
      go_roundw
      case rel => exact ⟨k + 1, by omega, by go_num, HA2, HB2, HZ2⟩
      case measure => simp [intOf] <;> omega
    · have e8 : k = 8 := by omega
      rw [e8] at HA
      clear e8
      obtain ⟨w1, hw1⟩ : ∃ w1, wr = w1 := ⟨_, rfl⟩
      rw [hw1] at HA HB HZ ⊢
      clear hw1
      have hmk := fun W => run_make1 (P := Try.prog) Try.underlying24 info_int rfl n (by omega) (by omega) W
      have hz1 : w.heap.size < w1.heap.size := HZ.out
      have HAa : Hid (Ow (w1.alloc (.cells (Array.replicate n (.int .i64 0)) 3)) w.heap.size (w.heap.size + 1) 95 1 (some ⟨w.heap.size, 0, none⟩) 8 8 (cI (latL d 0))) := Lib.hid (by
        rw [← ownL_all d]; exact HA.out.below ((Below.refl _ _).alloc (Nat.le_refl _) _) HZ.out)
      have HOa : Hid (Ow (w1.alloc (.cells (Array.replicate n (.int .i64 0)) 3)) w1.heap.size (w1.heap.size + 1) 3 1 (some ⟨w1.heap.size, 0, none⟩) n n (cI ((slotsL d n).take 0 ++ List.replicate (n - 0) 0))) := Lib.hid (by
        rw [List.take_zero, List.nil_append, Nat.sub_zero, ← cI_zeros]; exact Ow.zeros _ _ _ _)
      have HBa : Hid (Below w.heap.size w (w1.alloc (.cells (Array.replicate n (.int .i64 0)) 3))) := Lib.hid (HB.out.alloc HB.out.size _)
      have HZa : Hid (w1.heap.size + 1 ≤ (w1.alloc (.cells (Array.replicate n (.int .i64 0)) 3)).heap.size) := Lib.hid (by simp)
      clear HA HB HZ
      go_wp2
      clear hmk
      go_loopw [6, 7, 24] (fun _ _ i wr => ∃ k : Nat, k ≤ n ∧ i = .int .i64 k ∧ Hid (Ow wr w.heap.size (w.heap.size + 1) 95 1 (some ⟨w.heap.size, 0, none⟩) 8 8 (cI (latL d k))) ∧ Hid (Ow wr w1.heap.size (w1.heap.size + 1) 3 1 (some ⟨w1.heap.size, 0, none⟩) n n (cI ((slotsL d n).take k ++ List.replicate (n - k) 0))) ∧ Hid (cellsK d k = true) ∧ Hid (Below w.heap.size w wr) ∧ Hid (w1.heap.size + 1 ≤ wr.heap.size)) (fun _ _ i _ => n - (intOf i).toNat)
      case atStart => exact ⟨0, Nat.zero_le _, rfl, HAa, HOa, Lib.hid rfl, HBa, HZa⟩
      case round =>
        clear HAa HOa HBa HZa
        obtain ⟨k, hk, rfl, HA, HO, HC, HB, HZ⟩ := hrel
        by_cases hlt : k < n
        · obtain ⟨a, x, y, z, hAd, hab, hx0, hy0, hz0, HP⟩ := HR.out.AccessAt hlt
          subst hAd
          have HY : Hid (acC d k = y) := Lib.hid (by unfold acC; rw [HP.out])
          have hx := (HB.out.cell (p := a.add (k * 3)) (by rw [add_block]; exact hab)).trans hx0
          have hy := (HB.out.cell (p := ⟨(a.add (k * 3)).block, (a.add (k * 3)).off + 1, none⟩) (by rw [add_block]; exact hab)).trans hy0
          have hz := (HB.out.cell (p := ⟨(a.add (k * 3)).block, (a.add (k * 3)).off + 2, none⟩) (by rw [add_block]; exact hab)).trans hz0
          have i0 : (0 : Int) ≤ (k : Int) := by omega
          have i1 : (k : Int) < (n : Int) := by omega
          obtain ⟨W, hW⟩ : ∃ W, Hid (wr.alloc (.cells #[.bool x, .int .i64 y, .int .i64 z] 47) = W) := ⟨_, Lib.hid rfl⟩
          have ha : Below wr.heap.size wr W := by rw [← hW.out]; exact (Below.refl _ _).alloc (Nat.le_refl _) _
          have zW := ha.size
          have HX : Hid (Bx W wr.heap.size #[.bool x, .int .i64 y, .int .i64 z] 47) := Lib.hid (by rw [← hW.out]; exact Bx.new _ _ _)
          have zX := HX.out.lt
          have HAa := Lib.hid (HA.out.below ha (by have := HZ.out; omega))
          have HOa := Lib.hid (HO.out.below ha (by have := HZ.out; omega))
          have HBa := Lib.hid (HB.out.trans (ha.mono HB.out.size))
          have HZa : Hid (w1.heap.size + 1 ≤ W.heap.size) := Lib.hid (by have := HZ.out; omega)
          clear hx0 hy0 hz0 ha HA HO HB
          go_wp2_with fail
          rw [hW.out]
          clear hx hy hz
          refine (i_indexOk _ _ _).mono ?_
          rintro e w2 ⟨rfl, rfl⟩
          rw [show inB y 0 (8 - 1) = inB y 0 7 from rfl]
          cases e1 : inB y 0 7
          · have HF := HNO.out (by unfold slotB; rw [HL.out, cellsK_bad (k := k) (by rw [cellsK, HY.out, e1, Bool.and_false]) hlt, Bool.and_false])
            clear e1
            go_wp2
            go_ret
            exact ⟨_, rfl, by rw [HF.out]; exact OwIntS.nil_ _ _ _, HBa.out⟩
          · have HC2 : Hid (cellsK d (k + 1) = true) := Lib.hid (by rw [cellsK, HC.out, HY.out, e1]; rfl)
            obtain ⟨y0, y7⟩ := inB_iff.1 e1
            obtain ⟨cc, rfl⟩ := Int.eq_ofNat_of_zero_le y0
            have hcc : cc < 8 := by omega
            obtain ⟨S, hcS, HS⟩ := HAa.out.intAt hcc
            have HSv : Hid (S = (slotsL d n).getD k 0) := Lib.hid (by
              rw [HS.out, latL_get d k cc hcc]
              unfold slotsL
              simp [hlt, HY.out])
            obtain ⟨u, hd, _⟩ := HOa.out.intAt hlt
            have hf := HOa.out.free (by omega) k
            have fx : W.cell? ⟨wr.heap.size, 1, none⟩ = some (.int .i64 (cc : Int)) := HX.out.cell 1
            obtain ⟨W2, hW2⟩ : ∃ W2, Hid (W.setCell ⟨w1.heap.size, k, none⟩ (.int .i64 S) = W2) := ⟨_, Lib.hid rfl⟩
            have k2 : Kept w1.heap.size (w1.heap.size + 1) W W2 := by rw [← hW2.out]; exact (Kept.refl _ _ _).setCell (p := ⟨w1.heap.size, k, none⟩) (Nat.le_refl _) (Nat.lt_succ_self _) _
            have HO2 : Hid (Ow W2 w1.heap.size (w1.heap.size + 1) 3 1 (some ⟨w1.heap.size, 0, none⟩) n n (cI ((slotsL d n).take (k + 1) ++ List.replicate (n - (k + 1)) 0))) := Lib.hid (by
              have := HOa.out.set k (.int .i64 S)
              rw [cI_set, HSv.out, copy_step (slotsL_length _ _) hlt] at this
              rw [← hW2.out, HSv.out]; exact this)
            have HA2 := Lib.hid (HAa.out.kept k2 (by have := HZa.out; omega) (.inr (by omega)))
            have HX2 := Lib.hid (HX.out.kept k2 (.inr HZ.out))
            have fx2 : W2.cell? ⟨wr.heap.size, 1, none⟩ = some (.int .i64 (cc : Int)) := HX2.out.cell 1
            obtain ⟨u2, hd2, _⟩ := HA2.out.intAt hcc
            have hf2 := HA2.out.free (by omega) cc
            obtain ⟨W3, hW3⟩ : ∃ W3, Hid (W2.setCell ⟨w.heap.size, cc, none⟩ (.int .i64 (8 + (k : Int))) = W3) := ⟨_, Lib.hid rfl⟩
            have k3 : Kept w.heap.size (w.heap.size + 1) W2 W3 := by rw [← hW3.out]; exact (Kept.refl _ _ _).setCell (p := ⟨w.heap.size, cc, none⟩) (Nat.le_refl _) (Nat.lt_succ_self _) _
            have HA3 : Hid (Ow W3 w.heap.size (w.heap.size + 1) 95 1 (some ⟨w.heap.size, 0, none⟩) 8 8 (cI (latL d (k + 1)))) := Lib.hid (by
              have := HA2.out.set cc (.int .i64 (8 + (k : Int)))
              rw [cI_set, ← latL_succ d k cc HY.out hcc] at this
              rw [← hW3.out]; exact this)
            have z2 := k2.size
            have z3 := k3.size
            have HO3 := Lib.hid (HO2.out.kept k3 (by have := HZa.out; omega) (.inl (by omega)))
            have HB3 : Hid (Below w.heap.size w W3) := Lib.hid ((HBa.out.trans ((k2.to_below (by have := HZa.out; omega)).mono (by omega))).trans (k3.to_below (by have := HBa.out.size; omega)))
            have HZ3 : Hid (w1.heap.size + 1 ≤ W3.heap.size) := Lib.hid (by have := HZa.out; omega)
            have i2 : (cc : Int) < 8 := by omega
            have i3 : (0 : Int) ≤ (cc : Int) := by omega
            clear e1 HAa HOa HBa HA2 HO2 HX HX2 k2 k3 HS HSv
            rw [← hW2.out] at fx2 hd2 hf2
            go_wp2
            rw [hW2.out, hW3.out]
            go_roundw
            case rel => exact ⟨k + 1, by omega, by go_num, HA3, HO3, HC2, HB3, HZ3⟩
            case measure => simp [intOf] <;> omega
        · obtain rfl : k = n := by omega
          have HF : Hid (R_HiddenSlots_0 d = slotsL d k) := Lib.hid (by unfold R_HiddenSlots_0 slotB; rw [HL.out, HC.out, decide_eq_true (by omega)]; rfl)
          have HOr : Hid (OwIntS wr w.heap.size wr.heap.size (.slice (some ⟨w1.heap.size, 0, none⟩) k k) (slotsL d k)) := Lib.hid (by
            have h1 := HO.out
            rw [Nat.sub_self, List.replicate_zero, List.append_nil, List.take_of_length_le (by rw [slotsL_length]; exact Nat.le_refl _)] at h1
            exact OwIntS.widen ⟨by rw [slotsL_length]; omega, _, _, _, rfl, h1⟩ (by omega) HZ.out)
          go_wp2
          go_ret
          exact ⟨_, rfl, by rw [HF.out]; exact HOr.out, HB.out⟩
end Go.Proofs.Ytlajhgnlllelfaa
