/- Chapter 7: Publish of both. -/
import Derived.Test.YtjpjmlcmaombnaaWalk7c
import Derived.Test.YtjpjmlcmaombnaaWalk5o
namespace Go.Proofs.Ytjpjmlcmaombnaa
open Go.RowKit
set_option maxRecDepth 100000

/-- the powers of 4 of the first k coefficients -/
def pubA (cs : List Int) (k : Nat) : List Int := (List.range k).map fun j => powI 4 (cs.getD j 0) 227
def pubK (cs : List Int) (n k : Nat) : List Int := (List.range n).map fun j => if j < k then powI 4 (cs.getD j 0) 227 else 0
theorem pubA_succ (cs : List Int) (k : Nat) : pubA cs (k + 1) = pubA cs k ++ [powI 4 (cs.getD k 0) 227] := by simp [pubA, List.range_succ]
theorem pubA_length (cs : List Int) (k : Nat) : (pubA cs k).length = k := by simp [pubA]
theorem pubK_length (cs : List Int) (n k : Nat) : (pubK cs n k).length = n := by simp [pubK]
theorem pubK_get (cs : List Int) (n k j : Nat) (h : j < n) : (pubK cs n k).getD j 0 = if j < k then powI 4 (cs.getD j 0) 227 else 0 := by
  simp [pubK, h]
theorem pubK_all (cs : List Int) (n : Nat) : pubK cs n n = pubA cs n := by
  unfold pubK pubA
  exact List.map_congr_left fun j hj => by rw [if_pos (List.mem_range.1 hj)]
theorem pubK_zero (cs : List Int) (n : Nat) : pubK cs n 0 = List.replicate n 0 := by
  refine ext_getD (by simp [pubK]) fun j hj => ?_
  rw [pubK_length] at hj
  rw [pubK_get _ _ _ _ hj, zeros_get]; simp
theorem pubK_set (cs : List Int) (n k : Nat) (h : k < n) : (pubK cs n k).set k (powI 4 (cs.getD k 0) 227) = pubK cs n (k + 1) := by
  refine ext_getD (by simp [pubK]) fun j hj => ?_
  rw [List.length_set, pubK_length] at hj
  rw [getD_set, pubK_length, pubK_get _ _ _ _ hj, pubK_get _ _ _ _ hj]
  by_cases hk : k = j
  · subst hk; simp [h]
  · rw [if_neg (by omega)]
    by_cases hjk : j < k
    · rw [if_pos hjk, if_pos (by omega)]
    · rw [if_neg hjk, if_neg (by omega)]
def R_Publish_1 (s : Int) (t : List Int) : Bool := numB s && numsB t && decide (t.length ≤ 6)
def R_Publish_0 (s : Int) (t : List Int) : List Int := if R_Publish_1 s t = true then pubA (s :: t) (1 + t.length) else []
theorem pub_no {s : Int} {t : List Int} (h : R_Publish_1 s t = false) : Hid (R_Publish_1 s t = false ∧ R_Publish_0 s t = []) := Lib.hid ⟨h, by unfold R_Publish_0; rw [h]; rfl⟩
theorem nums_sz {s : Int} {t : List Int} (hs : numB s = true) (ht : numsB t = true) : Nums (s :: t) := nums_cons ((numB_iff s).1 hs) (nums_of_B ht)

set_option maxHeartbeats 2000000 in
theorem X_s_Publish (v : Value) (s : Int) (t : List Int) (w : World) (h : RdIntS w w.heap.size v t) (hs : szIntS t ≤ 1048576) :
    Calls Try.prog 44 #[.int .i64 s, v] w fun e w' => ∃ g, e = .returned (.tuple #[g, .bool (R_Publish_1 s t)]) ∧ OwIntS w' w.heap.size w'.heap.size g (R_Publish_0 s t) ∧ Below w.heap.size w w' := by
  obtain ⟨A, n, c, rfl, _, r⟩ := h
  have hn : n ≤ 1048576 := by have := r.len; unfold szIntS at hs; omega
  have HLN := Lib.hid r.len
  have H := Lib.hid r
  clear r hs
  cases ha : numB s
  · have HF := pub_no (s := s) (t := t) (by unfold R_Publish_1; rw [ha]; rfl)
    go_enter Try.func44, Try.ntmps44
    go_wp2_with fail
    refine (s_NumOk _ _).mono ?_
    rintro e w1 ⟨rfl, rfl⟩
    rw [ha]
    go_wp2
    go_ret2
    refine ⟨_, ret_vb HF.out.1.symm, ?_, Below.refl _ _⟩
    rw [HF.out.2]; exact OwIntS.nil_ _ _ _
  cases hb : numsB t
  · have HF := pub_no (s := s) (t := t) (by unfold R_Publish_1; rw [ha, hb]; rfl)
    go_enter Try.func44, Try.ntmps44
    go_wp2_with fail
    refine (s_NumOk _ _).mono ?_
    rintro e w1 ⟨rfl, rfl⟩
    rw [ha]
    go_wp2_with fail
    refine (s_l1In _ _ _ _ _ H.out hn).mono ?_
    rintro e w1 ⟨rfl, rfl⟩
    rw [hb]
    go_wp2
    go_ret2
    refine ⟨_, ret_vb HF.out.1.symm, ?_, Below.refl _ _⟩
    rw [HF.out.2]; exact OwIntS.nil_ _ _ _
  by_cases h6 : n ≤ 6
  · have HF1 : Hid (R_Publish_1 s t = true) := Lib.hid (by unfold R_Publish_1; rw [ha, hb, HLN.out]; simpa using h6)
    have HF2 : Hid (R_Publish_0 s t = pubA (s :: t) (n + 1)) := Lib.hid (by unfold R_Publish_0; rw [if_pos HF1.out, HLN.out, Nat.add_comm])
    have HN := Lib.hid (nums_sz ha hb)
    have rs := (numB_iff s).1 ha
    have hg : ¬ ((6 : Int) < (n : Int)) := by omega
    have HO0 : Hid ((w.alloc (.cells #[.int .i64 (powI 4 s 227)] 3)).ownsRow w.heap.size 3 1 (.slice (some ⟨w.heap.size, 0, none⟩) 1 1) 1 (cI (pubA (s :: t) 1))) := Lib.hid (lit_int w (powI 4 s 227))
    have HB0 : Hid (Below w.heap.size w (w.alloc (.cells #[.int .i64 (powI 4 s 227)] 3))) := Lib.hid ((Below.refl _ _).alloc (Nat.le_refl _) _)
    go_enter Try.func44, Try.ntmps44
    go_wp2_with fail
    refine (s_NumOk _ _).mono ?_
    rintro e w1 ⟨rfl, rfl⟩
    rw [ha]
    go_wp2_with fail
    refine (s_l1In _ _ _ _ _ H.out hn).mono ?_
    rintro e w1 ⟨rfl, rfl⟩
    rw [hb]
    go_wp2_with (go_at_call 88; refine (s_l1Pow _ _ _ (by omega) (by omega) (by omega) (by omega)).mono ?_; rintro e w' ⟨rfl, rfl⟩)
    clear ha hb
    go_loopw [6, 7] (fun out i wr => ∃ (k : Nat) (Ao : Option Addr) (co : Nat), k ≤ n ∧ i = .int .i64 k ∧ out = .slice Ao (k + 1) co ∧ Hid (wr.ownsRow w.heap.size 3 1 (.slice Ao (k + 1) co) (k + 1) (cI (pubA (s :: t) (k + 1)))) ∧ Hid (Below w.heap.size w wr)) (fun _ i _ => n - (intOf i).toNat)
    case atStart => exact ⟨0, _, 1, Nat.zero_le _, rfl, rfl, HO0, HB0⟩
    case round =>
      clear HO0 HB0
      obtain ⟨k, Ao, co, hk, rfl, rfl, HO, HB⟩ := hrel
      by_cases hlt : k < n
      · obtain ⟨a, z, rfl, hab, hz0, HZ⟩ := H.out.intAt hlt
        have hz := (HB.out.cell (p := a.add k) (by rw [add_block]; exact hab)).trans hz0
        clear hz0
        have z0 : 0 ≤ z := by rw [HZ.out]; exact (HN.out (k + 1)).1
        have z1 : z ≤ 112 := by rw [HZ.out]; exact (HN.out (k + 1)).2
        have hzw := HB.out.size
        have i0 : (0 : Int) ≤ (k : Int) := by omega
        have i1 : (k : Int) < (n : Int) := by omega
        have HOl := Lib.hid (HO.out.alloc (.cells #[.int .i64 (powI 4 z 227)] 3))
        have HL : Hid (Rd (wr.alloc (.cells #[.int .i64 (powI 4 z 227)] 3)) (wr.heap.size + 1) 1 (some ⟨wr.heap.size, 0, none⟩) 1 (cI [powI 4 z 227])) := Lib.hid (lit_at (heap_alloc_new _ _))
        go_wp2_with fail
        refine (s_l1Pow _ _ _ (by omega) (by omega) (by omega) (by omega)).mono ?_
        rintro e w2 ⟨rfl, rfl⟩
        go_wp2_with (at_builtin
                     refine wpList_append_rd rfl (.tmp 30) (.tmp 36) _ rfl w.heap.size 3 _ 1 8 Try.underlying26 info_int rfl (by decide) (.slice Ao (k + 1) co) (k + 1) _ rfl HOl.out _ _ 1 1 (cI [powI 4 z 227]) rfl HL.out (cI_one _) (by unfold maxLen; omega) (by omega) (by simp; omega) ?_
                     intro v6 w6 hown hgr hat
                     obtain ⟨A6, c6, hv6, ho6⟩ := Ow.of_own hown
                     subst hv6
                     have HO6 : Hid (w6.ownsRow w.heap.size 3 1 (.slice A6 (k + 1 + 1) c6) (k + 1 + 1) (cI (pubA (s :: t) (k + 1 + 1)))) := Lib.hid (by
                       rw [pubA_succ, cI_append, show (s :: t).getD (k + 1) 0 = z by rw [HZ.out]; rfl]; exact hown)
                     have HB6 : Hid (Below w.heap.size w w6) := Lib.hid (below_grown (HB.out.alloc hzw _) hgr (own_block HO.out) (by simp; omega))
                     clear hown hgr hat ho6)
        go_roundw
        case rel => exact ⟨k + 1, A6, c6, by omega, by go_num, rfl, HO6, HB6⟩
        case measure => simp [intOf] <;> omega
      · obtain rfl : n = k := by omega
        have HD : Hid (OwIntS wr w.heap.size wr.heap.size (.slice Ao (n + 1) co) (R_Publish_0 s t)) := Lib.hid (by rw [HF2.out]; exact own_done rfl HO.out (by omega))
        go_wp2
        go_ret2
        exact ⟨_, ret_vb HF1.out.symm, HD.out, HB.out⟩
  · have HF := pub_no (s := s) (t := t) (by unfold R_Publish_1; rw [ha, hb, HLN.out]; simpa using h6)
    have hg : (6 : Int) < (n : Int) := by omega
    go_enter Try.func44, Try.ntmps44
    go_wp2_with fail
    refine (s_NumOk _ _).mono ?_
    rintro e w1 ⟨rfl, rfl⟩
    rw [ha]
    go_wp2_with fail
    refine (s_l1In _ _ _ _ _ H.out hn).mono ?_
    rintro e w1 ⟨rfl, rfl⟩
    rw [hb]
    go_wp2
    go_ret2
    refine ⟨_, ret_vb HF.out.1.symm, ?_, Below.refl _ _⟩
    rw [HF.out.2]; exact OwIntS.nil_ _ _ _

set_option maxHeartbeats 2000000 in
theorem X_i_Publish (v : Value) (s : Int) (t : List Int) (w : World) (h : RdIntS w w.heap.size v t) (hs : szIntS t ≤ 1048576) :
    Calls Try.prog 45 #[.int .i64 s, v] w fun e w' => ∃ g, e = .returned (.tuple #[g, .bool (R_Publish_1 s t)]) ∧ OwIntS w' w.heap.size w'.heap.size g (R_Publish_0 s t) ∧ Below w.heap.size w w' := by
  obtain ⟨A, n, c, rfl, _, r⟩ := h
  have hn : n ≤ 1048576 := by have := r.len; unfold szIntS at hs; omega
  have HLN := Lib.hid r.len
  have H := Lib.hid r
  clear r hs
  cases ha : numB s
  · have HF := pub_no (s := s) (t := t) (by unfold R_Publish_1; rw [ha]; rfl)
    go_enter Try.func45, Try.ntmps45
    go_wp2_with fail
    refine (i_NumOk _ _).mono ?_
    rintro e w1 ⟨rfl, rfl⟩
    rw [ha]
    go_wp2
    go_ret2
    refine ⟨_, ret_vb HF.out.1.symm, ?_, Below.refl _ _⟩
    rw [HF.out.2]; exact OwIntS.nil_ _ _ _
  cases hb : numsB t
  · have HF := pub_no (s := s) (t := t) (by unfold R_Publish_1; rw [ha, hb]; rfl)
    go_enter Try.func45, Try.ntmps45
    go_wp2_with fail
    refine (i_NumOk _ _).mono ?_
    rintro e w1 ⟨rfl, rfl⟩
    rw [ha]
    go_wp2_with fail
    refine (i_numbersOk _ _ _ _ _ H.out hn).mono ?_
    rintro e w1 ⟨rfl, rfl⟩
    rw [hb]
    go_wp2
    go_ret2
    refine ⟨_, ret_vb HF.out.1.symm, ?_, Below.refl _ _⟩
    rw [HF.out.2]; exact OwIntS.nil_ _ _ _
  by_cases h6 : n ≤ 6
  · have HF1 : Hid (R_Publish_1 s t = true) := Lib.hid (by unfold R_Publish_1; rw [ha, hb, HLN.out]; simpa using h6)
    have HF2 : Hid (R_Publish_0 s t = pubK (s :: t) (1 + n) (1 + n)) := Lib.hid (by unfold R_Publish_0; rw [if_pos HF1.out, HLN.out, pubK_all])
    have HN := Lib.hid (nums_sz ha hb)
    have rs := (numB_iff s).1 ha
    have hg : ¬ ((6 : Int) < (n : Int)) := by omega
    have hgd : decide ((6 : Int) < (n : Int)) = false := by simpa using hg
    have hmm := @run_makeMap Try.prog
    have hmk : ∀ W, (Instr.makeSlice 26 (.int .i64 (1 + (n : Int))) (.int .i64 (1 + (n : Int)))).run Try.prog W = .ok (.slice (some ⟨W.heap.size, 0, none⟩) (1 + n) (1 + n)) (W.alloc (.cells (Array.replicate (1 + n) (.int .i64 0)) 3)) := fun W => by
      rw [show (1 + (n : Int)) = ((1 + n : Nat) : Int) by simp]
      exact run_make1 (P := Try.prog) Try.underlying26 info_int rfl (1 + n) (by omega) (by omega) W
    obtain ⟨W, hW⟩ : ∃ W, Hid ((w.alloc (.map #[] 0)).alloc (.cells (Array.replicate (1 + n) (.int .i64 0)) 3) = W) := ⟨_, Lib.hid rfl⟩
    have HP0 : Hid (PM W w.heap.size) := Lib.hid (by rw [← hW.out]; exact (PM.made w).alloc _)
    have HO0 : Hid (Ow W (w.heap.size + 1) (w.heap.size + 1 + 1) 3 1 (some ⟨w.heap.size + 1, 0, none⟩) (1 + n) (1 + n) (cI (pubK (s :: t) (1 + n) 0))) := Lib.hid (by
      have := Ow.zeros (w.alloc (.map #[] 0)) (.int .i64 0) 3 (1 + n)
      rw [cI_zeros, ← pubK_zero (s :: t), hW.out] at this
      simpa using this)
    have HB0 : Hid (Below w.heap.size w W) := Lib.hid (by rw [← hW.out]; exact ((Below.refl _ _).alloc (Nat.le_refl _) _).alloc (by simp) _)
    have hsz : W.heap.size = w.heap.size + 1 + 1 := by rw [← hW.out]; simp
    have hsz1 : w.heap.size + 1 + 1 ≤ W.heap.size := by omega
    clear hsz
    have HRW : Hid (Rd W W.heap.size 1 A n (cI t)) := Lib.hid ((H.out.below HB0.out).more HB0.out.size)
    go_enter Try.func45, Try.ntmps45
    go_wp2_with fail
    refine (i_NumOk _ _).mono ?_
    rintro e w1 ⟨rfl, rfl⟩
    rw [ha]
    go_wp2_with fail
    refine (i_numbersOk _ _ _ _ _ H.out hn).mono ?_
    rintro e w1 ⟨rfl, rfl⟩
    rw [hb]
    clear ha hb
    go_wp2_with fail
    rw [hW.out]
    refine (i_secretWith _ _ _ _ _ _ HRW.out (by omega)).mono ?_
    rintro e w2 ⟨A2, c2, rfl, ho2, hb2⟩
    have HR2 : Hid (Rd w2 w2.heap.size 1 A2 (1 + n) (cI (s :: t))) := Lib.hid ho2.rd
    have HO2 := Lib.hid ho2
    have HP2 := Lib.hid (HP0.out.keep (hb2.block _ HP0.out.lt))
    have HOw2 := Lib.hid (HO0.out.below hb2 hsz1)
    have HB2 := Lib.hid (HB0.out.trans (hb2.mono HB0.out.size))
    have hz2 : W.heap.size ≤ w2.heap.size := hb2.size
    clear ho2 hb2 hmk hmm
    go_wp2
    go_loopw [32] (fun i wr => ∃ k : Nat, k ≤ 1 + n ∧ i = .int .i64 k ∧ w2.heap.size ≤ wr.heap.size ∧ Hid (PM wr w.heap.size) ∧ Hid (Ow wr (w.heap.size + 1) (w.heap.size + 1 + 1) 3 1 (some ⟨w.heap.size + 1, 0, none⟩) (1 + n) (1 + n) (cI (pubK (s :: t) (1 + n) k))) ∧ Hid (Ow wr W.heap.size w2.heap.size 3 1 A2 (1 + n) c2 (cI (s :: t))) ∧ Hid (Below w.heap.size w wr)) (fun i _ => 1 + n - (intOf i).toNat)
    case atStart => exact ⟨0, Nat.zero_le _, rfl, Nat.le_refl _, HP2, HOw2, HO2, HB2⟩
    case round =>
      clear HP2 HOw2 HO2 HB2 HR2 HP0 HO0 HB0 HRW
      obtain ⟨k, hk, rfl, hzr, HP, HO, HS, HB⟩ := hrel
      by_cases hlt : k < 1 + n
      · obtain ⟨a, z, rfl, hab, hz0, HZ⟩ := HS.out.rd.intAt hlt
        have z0 : 0 ≤ z := by rw [HZ.out]; exact (HN.out k).1
        have z1 : z ≤ 112 := by rw [HZ.out]; exact (HN.out k).2
        have i0 : (0 : Int) ≤ (k : Int) := by omega
        have i1 : (k : Int) < ((1 + n : Nat) : Int) := by omega
        have i2 : (k : Int) < 1 + (n : Int) := by omega
        go_wp2_with fail
        refine (i_of w.heap.size 4 z _ HP.out (by omega) (by omega) z0 z1).mono ?_
        rintro e w3 ⟨rfl, hp3, hk3⟩
        have HP3 := Lib.hid hp3
        have HO3 := Lib.hid (HO.out.kept hk3 (by omega) (.inl (Nat.le_refl _)))
        have HS3 := Lib.hid (HS.out.kept hk3 (by omega) (.inl (by omega)))
        have HB3 := Lib.hid (HB.out.trans ((hk3.to_below (by omega))))
        have hz3 := hk3.size
        have hf := HO3.out.free (by omega) k
        obtain ⟨z', hc, _⟩ := HO3.out.intAt hlt
        have HO4 := Lib.hid (HO3.out.set k (.int .i64 (powI 4 z 227)))
        have HZ2 : Hid ((cI (pubK (s :: t) (1 + n) k)).set k (.int .i64 (powI 4 z 227)) = cI (pubK (s :: t) (1 + n) (k + 1))) := Lib.hid (by rw [cI_set, HZ.out, pubK_set _ _ _ hlt])
        rw [HZ2.out] at HO4
        have HP4 := Lib.hid (HP3.out.keep (w' := w3.setCell ⟨w.heap.size + 1, k, none⟩ (.int .i64 (powI 4 z 227))) (Below.heap_setCell _ _ _ _ (by simp)))
        have HS4 : Hid (Ow (w3.setCell ⟨w.heap.size + 1, k, none⟩ (.int .i64 (powI 4 z 227))) W.heap.size w2.heap.size 3 1 (some a) (1 + n) c2 (cI (s :: t))) := Lib.hid (HS3.out.kept (lo' := w.heap.size + 1) (mid := w.heap.size + 1 + 1) ((Kept.refl (w.heap.size + 1) (w.heap.size + 1 + 1) w3).setCell (p := ⟨w.heap.size + 1, k, none⟩) (Nat.le_refl _) (Nat.lt_succ_self _) _) (by omega) (.inl hsz1))
        have HB4 := Lib.hid (HB3.out.setCell (p := ⟨w.heap.size + 1, k, none⟩) (Nat.le_succ _) (.int .i64 (powI 4 z 227)))
        clear hp3 hk3 HZ2 HP HO HS HB HP3 HO3 HS3 HB3
        go_wp2
        go_roundw
        case rel => exact ⟨k + 1, by omega, by go_num, by simp; omega, HP4, HO4, HS4, HB4⟩
        case measure => simp [intOf] <;> omega
      · obtain rfl : k = 1 + n := by omega
        have HD : Hid (OwIntS wr w.heap.size wr.heap.size (.slice (some ⟨w.heap.size + 1, 0, none⟩) (1 + n) (1 + n)) (R_Publish_0 s t)) := Lib.hid (by
          rw [HF2.out]
          exact ⟨by rw [pubK_length]; omega, _, _, _, rfl, HO.out.widen (Nat.le_succ _) (by omega)⟩)
        have i1 : ((1 + n : Nat) : Int) = 1 + (n : Int) := by simp
        go_wp2
        go_ret2
        exact ⟨_, ret_vb HF1.out.symm, HD.out, HB.out⟩
  · have HF := pub_no (s := s) (t := t) (by unfold R_Publish_1; rw [ha, hb, HLN.out]; simpa using h6)
    have hg : (6 : Int) < (n : Int) := by omega
    go_enter Try.func45, Try.ntmps45
    go_wp2_with fail
    refine (i_NumOk _ _).mono ?_
    rintro e w1 ⟨rfl, rfl⟩
    rw [ha]
    go_wp2_with fail
    refine (i_numbersOk _ _ _ _ _ H.out hn).mono ?_
    rintro e w1 ⟨rfl, rfl⟩
    rw [hb]
    go_wp2
    go_ret2
    refine ⟨_, ret_vb HF.out.1.symm, ?_, Below.refl _ _⟩
    rw [HF.out.2]; exact OwIntS.nil_ _ _ _
end Go.Proofs.Ytjpjmlcmaombnaa
