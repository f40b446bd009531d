/- Chapter 2: PolyAdd, PolyMul as the laws meet them. Made by gen2face.py. -/
import Derived.Test.YtpdkkfbnfjfmhaaMath2b
namespace Go.Proofs.Ytpdkkfbnfjfmhaa
open Go.RowKit
set_option maxRecDepth 100000

theorem ret_vb {g : Value} {a b : Bool} (h : a = b) : Ending.returned (.tuple #[g, .bool a]) = .returned (.tuple #[g, .bool b]) := by rw [h]

set_option maxHeartbeats 1000000 in
theorem X_s_PolyAdd (v v' : Value) (a b : List Int) (w : World) (h : RdIntS w w.heap.size v a) (h' : RdIntS w w.heap.size v' b) (hs : szIntS a ≤ 1048576) (hs' : szIntS b ≤ 1048576) :
    Calls Try.prog 15 #[v, v'] w fun e w' => ∃ g, e = .returned (.tuple #[g, .bool (R_PolyAdd_1 a b)]) ∧ OwIntS w' w.heap.size w'.heap.size g (R_PolyAdd_0 a b) ∧ Below w.heap.size w w' := by
  obtain ⟨A, n, c, rfl, hm, r⟩ := h
  obtain ⟨A', n', c', rfl, hm', r'⟩ := h'
  have hn : n ≤ 1048576 := by have := r.len; unfold szIntS at hs; omega
  have hn' : n' ≤ 1048576 := by have := r'.len; unfold szIntS at hs'; omega
  have hl := Lib.hid r.len
  have hl' := Lib.hid r'.len
  have H := Lib.hid r
  have H' := Lib.hid r'
  clear r r' hs hs' hm hm'
  cases ha : polyB a
  · have HF : Hid (R_PolyAdd_1 a b = false) := Lib.hid (by simp [R_PolyAdd_1, ha])
    have HR : Hid (R_PolyAdd_0 a b = []) := Lib.hid (by simp [R_PolyAdd_0, R_PolyAdd_1, ha])
    go_enter Try.func15, Try.ntmps15
    go_wp2_with fail
    refine (s_PolyOk _ _ _ _ _ H.out (by omega)).mono ?_
    rintro e w' ⟨rfl, rfl⟩
    go_wp2
    go_ret2
    refine ⟨_, ret_vb HF.out.symm, ?_, Below.refl _ _⟩
    rw [HR.out]; exact OwIntS.nil_ _ _ _
  · have HA := Lib.hid ha
    cases hb : polyB b
    · have HF : Hid (R_PolyAdd_1 a b = false) := Lib.hid (by simp [R_PolyAdd_1, hb])
      have HR : Hid (R_PolyAdd_0 a b = []) := Lib.hid (by simp [R_PolyAdd_0, R_PolyAdd_1, hb])
      go_enter Try.func15, Try.ntmps15
      go_wp2_with fail
      refine (s_PolyOk _ _ _ _ _ H.out (by omega)).mono ?_
      rintro e w' ⟨rfl, rfl⟩
      go_wp2_with fail
      refine (s_PolyOk _ _ _ _ _ H'.out (by omega)).mono ?_
      rintro e w' ⟨rfl, rfl⟩
      go_wp2
      go_ret2
      refine ⟨_, ret_vb HF.out.symm, ?_, Below.refl _ _⟩
      rw [HR.out]; exact OwIntS.nil_ _ _ _
    · have HB := Lib.hid hb
      have HF : Hid (R_PolyAdd_1 a b = true) := Lib.hid (by simp [R_PolyAdd_1, ha, hb])
      have HR : Hid (R_PolyAdd_0 a b = addL a b) := Lib.hid (by simp [R_PolyAdd_0, R_PolyAdd_1, ha, hb])
      have HN := Lib.hid (polyB_nums ha)
      have HN' := Lib.hid (polyB_nums hb)
      have b1 : n ≤ 20 := by have := polyB_len ha; have := hl.out; omega
      have b2 : n' ≤ 20 := by have := polyB_len hb; have := hl'.out; omega
      go_enter Try.func15, Try.ntmps15
      go_wp2_with fail
      refine (s_PolyOk _ _ _ _ _ H.out (by omega)).mono ?_
      rintro e w' ⟨rfl, rfl⟩
      go_wp2_with fail
      refine (s_PolyOk _ _ _ _ _ H'.out (by omega)).mono ?_
      rintro e w' ⟨rfl, rfl⟩
      go_wp2_with fail
      refine (s_l2Add _ _ _ _ _ _ _ _ _ H.out H'.out HN.out HN'.out (by omega) (by omega)).mono ?_
      rintro e w1 ⟨g, rfl, ho, hbl⟩
      have HO := Lib.hid ho
      have HBL := Lib.hid hbl
      clear ho hbl
      go_wp2
      go_ret2
      refine ⟨_, ret_vb HF.out.symm, ?_, HBL.out⟩
      rw [HR.out]; exact HO.out

set_option maxHeartbeats 1000000 in
theorem X_s_PolyMul (v v' : Value) (a b : List Int) (w : World) (h : RdIntS w w.heap.size v a) (h' : RdIntS w w.heap.size v' b) (hs : szIntS a ≤ 1048576) (hs' : szIntS b ≤ 1048576) :
    Calls Try.prog 19 #[v, v'] w fun e w' => ∃ g, e = .returned (.tuple #[g, .bool (R_PolyMul_1 a b)]) ∧ OwIntS w' w.heap.size w'.heap.size g (R_PolyMul_0 a b) ∧ Below w.heap.size w w' := by
  obtain ⟨A, n, c, rfl, hm, r⟩ := h
  obtain ⟨A', n', c', rfl, hm', r'⟩ := h'
  have hn : n ≤ 1048576 := by have := r.len; unfold szIntS at hs; omega
  have hn' : n' ≤ 1048576 := by have := r'.len; unfold szIntS at hs'; omega
  have hl := Lib.hid r.len
  have hl' := Lib.hid r'.len
  have H := Lib.hid r
  have H' := Lib.hid r'
  clear r r' hs hs' hm hm'
  cases ha : polyB a
  · have HF : Hid (R_PolyMul_1 a b = false) := Lib.hid (by simp [R_PolyMul_1, ha])
    have HR : Hid (R_PolyMul_0 a b = []) := Lib.hid (by simp [R_PolyMul_0, R_PolyMul_1, ha])
    go_enter Try.func19, Try.ntmps19
    go_wp2_with fail
    refine (s_PolyOk _ _ _ _ _ H.out (by omega)).mono ?_
    rintro e w' ⟨rfl, rfl⟩
    go_wp2
    go_ret2
    refine ⟨_, ret_vb HF.out.symm, ?_, Below.refl _ _⟩
    rw [HR.out]; exact OwIntS.nil_ _ _ _
  · have HA := Lib.hid ha
    cases hb : polyB b
    · have HF : Hid (R_PolyMul_1 a b = false) := Lib.hid (by simp [R_PolyMul_1, hb])
      have HR : Hid (R_PolyMul_0 a b = []) := Lib.hid (by simp [R_PolyMul_0, R_PolyMul_1, hb])
      go_enter Try.func19, Try.ntmps19
      go_wp2_with fail
      refine (s_PolyOk _ _ _ _ _ H.out (by omega)).mono ?_
      rintro e w' ⟨rfl, rfl⟩
      go_wp2_with fail
      refine (s_PolyOk _ _ _ _ _ H'.out (by omega)).mono ?_
      rintro e w' ⟨rfl, rfl⟩
      go_wp2
      go_ret2
      refine ⟨_, ret_vb HF.out.symm, ?_, Below.refl _ _⟩
      rw [HR.out]; exact OwIntS.nil_ _ _ _
    · have HB := Lib.hid hb
      have HN := Lib.hid (polyB_nums ha)
      have HN' := Lib.hid (polyB_nums hb)
      have b1 : n ≤ 20 := by have := polyB_len ha; have := hl.out; omega
      have b2 : n' ≤ 20 := by have := polyB_len hb; have := hl'.out; omega
      go_enter Try.func19, Try.ntmps19
      go_wp2_with fail
      refine (s_PolyOk _ _ _ _ _ H.out (by omega)).mono ?_
      rintro e w' ⟨rfl, rfl⟩
      go_wp2_with fail
      refine (s_PolyOk _ _ _ _ _ H'.out (by omega)).mono ?_
      rintro e w' ⟨rfl, rfl⟩
      go_wp2_with fail
      refine (s_l2Mul _ _ _ _ _ _ _ _ _ H.out H'.out HN.out HN'.out (by omega) (by omega)).mono ?_
      rintro e w1 ⟨g, rfl, ho, hbl⟩
      have HO := Lib.hid ho
      have HBL := Lib.hid hbl
      clear ho hbl
      obtain ⟨hsz, Ag, ng, cg, rfl, og⟩ := HO.out
      have hlg := Lib.hid og.len
      have hng : ng ≤ 1048576 := by have := hlg.out; omega
      clear og hsz
      by_cases h20 : ng ≤ 20
      · have HF : Hid (R_PolyMul_1 a b = true) := Lib.hid (by simp [R_PolyMul_1, HA.out, HB.out]; have := hlg.out; omega)
        have HR : Hid (R_PolyMul_0 a b = mulL a b) := Lib.hid (by unfold R_PolyMul_0; rw [if_pos HF.out])
        go_wp2
        go_ret2
        refine ⟨_, ret_vb HF.out.symm, ?_, HBL.out⟩
        rw [HR.out]; exact HO.out
      · have HF : Hid (R_PolyMul_1 a b = false) := Lib.hid (by simp [R_PolyMul_1, HA.out, HB.out]; have := hlg.out; omega)
        have HR : Hid (R_PolyMul_0 a b = []) := Lib.hid (by unfold R_PolyMul_0; rw [if_neg (by rw [HF.out]; simp)])
        go_wp2
        go_ret2
        refine ⟨_, ret_vb HF.out.symm, ?_, HBL.out⟩
        rw [HR.out]; exact OwIntS.nil_ _ _ _

set_option maxHeartbeats 1000000 in
theorem X_i_PolyAdd (v v' : Value) (a b : List Int) (w : World) (h : RdIntS w w.heap.size v a) (h' : RdIntS w w.heap.size v' b) (hs : szIntS a ≤ 1048576) (hs' : szIntS b ≤ 1048576) :
    Calls Try.prog 16 #[v, v'] w fun e w' => ∃ g, e = .returned (.tuple #[g, .bool (R_PolyAdd_1 a b)]) ∧ OwIntS w' w.heap.size w'.heap.size g (R_PolyAdd_0 a b) ∧ Below w.heap.size w w' := by
  obtain ⟨A, n, c, rfl, hm, r⟩ := h
  obtain ⟨A', n', c', rfl, hm', r'⟩ := h'
  have hn : n ≤ 1048576 := by have := r.len; unfold szIntS at hs; omega
  have hn' : n' ≤ 1048576 := by have := r'.len; unfold szIntS at hs'; omega
  have hl := Lib.hid r.len
  have hl' := Lib.hid r'.len
  have H := Lib.hid r
  have H' := Lib.hid r'
  clear r r' hs hs' hm hm'
  cases ha : polyB a
  · have HF : Hid (R_PolyAdd_1 a b = false) := Lib.hid (by simp [R_PolyAdd_1, ha])
    have HR : Hid (R_PolyAdd_0 a b = []) := Lib.hid (by simp [R_PolyAdd_0, R_PolyAdd_1, ha])
    go_enter Try.func16, Try.ntmps16
    go_wp2_with fail
    refine (i_PolyOk _ _ _ _ _ H.out (by omega)).mono ?_
    rintro e w' ⟨rfl, rfl⟩
    go_wp2
    go_ret2
    refine ⟨_, ret_vb HF.out.symm, ?_, Below.refl _ _⟩
    rw [HR.out]; exact OwIntS.nil_ _ _ _
  · have HA := Lib.hid ha
    cases hb : polyB b
    · have HF : Hid (R_PolyAdd_1 a b = false) := Lib.hid (by simp [R_PolyAdd_1, hb])
      have HR : Hid (R_PolyAdd_0 a b = []) := Lib.hid (by simp [R_PolyAdd_0, R_PolyAdd_1, hb])
      go_enter Try.func16, Try.ntmps16
      go_wp2_with fail
      refine (i_PolyOk _ _ _ _ _ H.out (by omega)).mono ?_
      rintro e w' ⟨rfl, rfl⟩
      go_wp2_with fail
      refine (i_PolyOk _ _ _ _ _ H'.out (by omega)).mono ?_
      rintro e w' ⟨rfl, rfl⟩
      go_wp2
      go_ret2
      refine ⟨_, ret_vb HF.out.symm, ?_, Below.refl _ _⟩
      rw [HR.out]; exact OwIntS.nil_ _ _ _
    · have HB := Lib.hid hb
      have HF : Hid (R_PolyAdd_1 a b = true) := Lib.hid (by simp [R_PolyAdd_1, ha, hb])
      have HR : Hid (R_PolyAdd_0 a b = addL a b) := Lib.hid (by simp [R_PolyAdd_0, R_PolyAdd_1, ha, hb])
      have HN := Lib.hid (polyB_nums ha)
      have HN' := Lib.hid (polyB_nums hb)
      have b1 : n ≤ 20 := by have := polyB_len ha; have := hl.out; omega
      have b2 : n' ≤ 20 := by have := polyB_len hb; have := hl'.out; omega
      go_enter Try.func16, Try.ntmps16
      go_wp2_with fail
      refine (i_PolyOk _ _ _ _ _ H.out (by omega)).mono ?_
      rintro e w' ⟨rfl, rfl⟩
      go_wp2_with fail
      refine (i_PolyOk _ _ _ _ _ H'.out (by omega)).mono ?_
      rintro e w' ⟨rfl, rfl⟩
      go_wp2_with fail
      refine (i_plusTimes _ _ _ _ _ _ _ _ 1 _ H.out H'.out HN.out HN'.out (by omega) (by omega) (by omega) (by omega)).mono ?_
      rintro e w1 ⟨g, rfl, ho, hbl⟩
      rw [plus_is_add HN.out] at ho; have HO := Lib.hid ho
      have HBL := Lib.hid hbl
      clear ho hbl
      go_wp2
      go_ret2
      refine ⟨_, ret_vb HF.out.symm, ?_, HBL.out⟩
      rw [HR.out]; exact HO.out

set_option maxHeartbeats 1000000 in
theorem X_i_PolyMul (v v' : Value) (a b : List Int) (w : World) (h : RdIntS w w.heap.size v a) (h' : RdIntS w w.heap.size v' b) (hs : szIntS a ≤ 1048576) (hs' : szIntS b ≤ 1048576) :
    Calls Try.prog 20 #[v, v'] w fun e w' => ∃ g, e = .returned (.tuple #[g, .bool (R_PolyMul_1 a b)]) ∧ OwIntS w' w.heap.size w'.heap.size g (R_PolyMul_0 a b) ∧ Below w.heap.size w w' := by
  obtain ⟨A, n, c, rfl, hm, r⟩ := h
  obtain ⟨A', n', c', rfl, hm', r'⟩ := h'
  have hn : n ≤ 1048576 := by have := r.len; unfold szIntS at hs; omega
  have hn' : n' ≤ 1048576 := by have := r'.len; unfold szIntS at hs'; omega
  have hl := Lib.hid r.len
  have hl' := Lib.hid r'.len
  have H := Lib.hid r
  have H' := Lib.hid r'
  clear r r' hs hs' hm hm'
  cases ha : polyB a
  · have HF : Hid (R_PolyMul_1 a b = false) := Lib.hid (by simp [R_PolyMul_1, ha])
    have HR : Hid (R_PolyMul_0 a b = []) := Lib.hid (by simp [R_PolyMul_0, R_PolyMul_1, ha])
    go_enter Try.func20, Try.ntmps20
    go_wp2_with fail
    refine (i_PolyOk _ _ _ _ _ H.out (by omega)).mono ?_
    rintro e w' ⟨rfl, rfl⟩
    go_wp2
    go_ret2
    refine ⟨_, ret_vb HF.out.symm, ?_, Below.refl _ _⟩
    rw [HR.out]; exact OwIntS.nil_ _ _ _
  · have HA := Lib.hid ha
    cases hb : polyB b
    · have HF : Hid (R_PolyMul_1 a b = false) := Lib.hid (by simp [R_PolyMul_1, hb])
      have HR : Hid (R_PolyMul_0 a b = []) := Lib.hid (by simp [R_PolyMul_0, R_PolyMul_1, hb])
      go_enter Try.func20, Try.ntmps20
      go_wp2_with fail
      refine (i_PolyOk _ _ _ _ _ H.out (by omega)).mono ?_
      rintro e w' ⟨rfl, rfl⟩
      go_wp2_with fail
      refine (i_PolyOk _ _ _ _ _ H'.out (by omega)).mono ?_
      rintro e w' ⟨rfl, rfl⟩
      go_wp2
      go_ret2
      refine ⟨_, ret_vb HF.out.symm, ?_, Below.refl _ _⟩
      rw [HR.out]; exact OwIntS.nil_ _ _ _
    · have HB := Lib.hid hb
      have HN := Lib.hid (polyB_nums ha)
      have HN' := Lib.hid (polyB_nums hb)
      have b1 : n ≤ 20 := by have := polyB_len ha; have := hl.out; omega
      have b2 : n' ≤ 20 := by have := polyB_len hb; have := hl'.out; omega
      go_enter Try.func20, Try.ntmps20
      go_wp2_with fail
      refine (i_PolyOk _ _ _ _ _ H.out (by omega)).mono ?_
      rintro e w' ⟨rfl, rfl⟩
      go_wp2_with fail
      refine (i_PolyOk _ _ _ _ _ H'.out (by omega)).mono ?_
      rintro e w' ⟨rfl, rfl⟩
      go_wp2_with fail
      refine (i_polynomial_times _ _ _ _ _ _ _ _ _ H.out H'.out HN.out HN'.out (by omega) (by omega)).mono ?_
      rintro e w1 ⟨g, rfl, ho, hbl⟩
      rw [times_is_mul] at ho; have HO := Lib.hid ho
      have HBL := Lib.hid hbl
      clear ho hbl
      obtain ⟨hsz, Ag, ng, cg, rfl, og⟩ := HO.out
      have hlg := Lib.hid og.len
      have hng : ng ≤ 1048576 := by have := hlg.out; omega
      clear og hsz
      by_cases h20 : ng ≤ 20
      · have HF : Hid (R_PolyMul_1 a b = true) := Lib.hid (by simp [R_PolyMul_1, HA.out, HB.out]; have := hlg.out; omega)
        have HR : Hid (R_PolyMul_0 a b = mulL a b) := Lib.hid (by unfold R_PolyMul_0; rw [if_pos HF.out])
        go_wp2
        go_ret2
        refine ⟨_, ret_vb HF.out.symm, ?_, HBL.out⟩
        rw [HR.out]; exact HO.out
      · have HF : Hid (R_PolyMul_1 a b = false) := Lib.hid (by simp [R_PolyMul_1, HA.out, HB.out]; have := hlg.out; omega)
        have HR : Hid (R_PolyMul_0 a b = []) := Lib.hid (by unfold R_PolyMul_0; rw [if_neg (by rw [HF.out]; simp)])
        go_wp2
        go_ret2
        refine ⟨_, ret_vb HF.out.symm, ?_, HBL.out⟩
        rw [HR.out]; exact OwIntS.nil_ _ _ _
end Go.Proofs.Ytpdkkfbnfjfmhaa
