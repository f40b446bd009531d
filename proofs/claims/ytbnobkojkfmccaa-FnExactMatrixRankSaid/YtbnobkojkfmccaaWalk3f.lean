/- Chapter 3 in the model: MatrixSolve, MatrixRank as the laws meet them. -/
import Derived.Test.YtbnobkojkfmccaaWalk3e
namespace Go.Proofs.Ytbnobkojkfmccaa
open Go.RowKit
set_option maxRecDepth 100000

def argsB (a : List (List Int)) (b : List Int) : Bool := matB a && decide (b.length = a.length) && numsB b
def R_MatrixSolve_1 (a : List (List Int)) (b : List Int) : Bool := argsB a b && solvB a b (a.getD 0 []).length
def R_MatrixSolve_0 (a : List (List Int)) (b : List Int) : List Int := if argsB a b = true then solvL a b (a.getD 0 []).length else []

set_option maxHeartbeats 1000000 in
theorem X_s_MatrixSolve (v v' : Value) (a : List (List Int)) (b : List Int) (w : World) (h : RdIntSS w w.heap.size v a) (h' : RdIntS w w.heap.size v' b) (hs : szIntSS a ≤ 1048576) (hs' : szIntS b ≤ 1048576) :
    Calls Try.prog 24 #[v, v'] w fun e w' => ∃ g, e = .returned (.tuple #[g, .bool (R_MatrixSolve_1 a b)]) ∧ OwIntS w' w.heap.size w'.heap.size g (R_MatrixSolve_0 a b) ∧ Below w.heap.size w w' := by
  obtain ⟨A, n, c, vs, rfl, hm, r⟩ := h
  obtain ⟨A', n', c', rfl, hm', r'⟩ := h'
  have hn : n ≤ 1048576 := by have := r.2.1; unfold szIntSS at hs; omega
  have HLN : Hid (lensK a n ≤ 1048576) := Lib.hid (by have := r.2.1; unfold szIntSS at hs; rw [← this]; omega)
  have hn' : n' ≤ 1048576 := by have := r'.len; unfold szIntS at hs'; omega
  have hl := Lib.hid r.2.1
  have hl' := Lib.hid r'.len
  have H := Lib.hid r
  have H' := Lib.hid r'
  clear r r' hs hs' hm hm'
  cases ha : matB a
  · have HF : Hid (R_MatrixSolve_1 a b = false) := Lib.hid (by simp [R_MatrixSolve_1, argsB, ha])
    have HR : Hid (R_MatrixSolve_0 a b = []) := Lib.hid (by simp [R_MatrixSolve_0, argsB, ha])
    go_enter Try.func24, Try.ntmps24
    go_wp2_with fail
    refine (s_MatrixOk _ _ _ _ _ _ H.out hn HLN.out).mono ?_
    rintro e w1 ⟨rfl, hst⟩
    have HS := Lib.hid hst
    clear hst
    go_wp2
    go_ret2
    refine ⟨_, ret_vb HF.out.symm, ?_, HS.out.below _⟩
    rw [HR.out]; exact OwIntS.nil_ _ _ _
  · have HM := Lib.hid (Mat.of ha)
    by_cases hne : n' = n
    · subst hne
      have hbn : ((n' : Int) != (n' : Int)) = false := by simp
      have HLM : Hid (decide (b.length = a.length) = true) := Lib.hid (decide_eq_true (hl'.out.trans hl.out.symm))
      cases hb : numsB b
      · have HF : Hid (R_MatrixSolve_1 a b = false) := Lib.hid (by simp [R_MatrixSolve_1, argsB, hb])
        have HR : Hid (R_MatrixSolve_0 a b = []) := Lib.hid (by simp [R_MatrixSolve_0, argsB, hb])
        go_enter Try.func24, Try.ntmps24
        go_wp2_with fail
        refine (s_MatrixOk _ _ _ _ _ _ H.out hn HLN.out).mono ?_
        rintro e w1 ⟨rfl, hst⟩
        have HS := Lib.hid hst
        clear hst
        go_wp2_with fail
        refine (s_l1In _ _ _ _ _ (HS.out.rdAll H'.out) hn').mono ?_
        rintro e w2 ⟨rfl, rfl⟩
        go_wp2
        go_ret2
        refine ⟨_, ret_vb HF.out.symm, ?_, HS.out.below _⟩
        rw [HR.out]; exact OwIntS.nil_ _ _ _
      · have HG : Hid (argsB a b = true) := Lib.hid (by unfold argsB; rw [ha, HLM.out, hb]; rfl)
        have HF : Hid (R_MatrixSolve_1 a b = solvB a b (a.getD 0 []).length) := Lib.hid (by unfold R_MatrixSolve_1; rw [HG.out]; rfl)
        have HR : Hid (R_MatrixSolve_0 a b = solvL a b (a.getD 0 []).length) := Lib.hid (by unfold R_MatrixSolve_0; rw [if_pos HG.out])
        have HN := Lib.hid (nums_of_B hb)
        go_enter Try.func24, Try.ntmps24
        go_wp2_with fail
        refine (s_MatrixOk _ _ _ _ _ _ H.out hn HLN.out).mono ?_
        rintro e w1 ⟨rfl, hst⟩
        have HS := Lib.hid hst
        clear hst
        go_wp2_with fail
        refine (s_l1In _ _ _ _ _ (HS.out.rdAll H'.out) hn').mono ?_
        rintro e w2 ⟨rfl, rfl⟩
        go_wp2_with fail
        refine (s_l3Solve _ _ _ _ _ _ _ _ _ _ (HS.out.rdR H.out) (HS.out.rdAll H'.out) HM.out HN.out).mono ?_
        rintro e w2 ⟨g, rfl, ho, hbl⟩
        have HO := Lib.hid ho
        have HBL := Lib.hid hbl
        clear ho hbl
        go_wp2
        go_ret2
        refine ⟨_, ret_vb HF.out.symm, ?_, (HS.out.below _).trans (HBL.out.mono (by rw [HS.out.sz]; exact Nat.le_refl _))⟩
        rw [HR.out]; exact HO.out.widen (by rw [HS.out.sz]; exact Nat.le_refl _) (Nat.le_refl _)
    · have hbn : ((n' : Int) != (n : Int)) = true := by rw [bne_iff_ne]; omega
      have HG : Hid (argsB a b = false) := Lib.hid (by unfold argsB; rw [decide_eq_false (by rw [hl'.out, hl.out]; exact hne)]; simp)
      have HF : Hid (R_MatrixSolve_1 a b = false) := Lib.hid (by unfold R_MatrixSolve_1; rw [HG.out]; rfl)
      have HR : Hid (R_MatrixSolve_0 a b = []) := Lib.hid (by unfold R_MatrixSolve_0; rw [HG.out]; rfl)
      clear hne
      go_enter Try.func24, Try.ntmps24
      go_wp2_with fail
      refine (s_MatrixOk _ _ _ _ _ _ H.out hn HLN.out).mono ?_
      rintro e w1 ⟨rfl, hst⟩
      have HS := Lib.hid hst
      clear hst
      go_wp2
      go_ret2
      refine ⟨_, ret_vb HF.out.symm, ?_, HS.out.below _⟩
      rw [HR.out]; exact OwIntS.nil_ _ _ _

def rankI (a : List (List Int)) : Int := if matB a = true then ((redOf a (List.replicate a.length 0) (a.getD 0 []).length).2.length : Int) else -1
set_option maxHeartbeats 1000000 in
theorem X_s_MatrixRank (v : Value) (a : List (List Int)) (w : World) (h : RdIntSS w w.heap.size v a) (hs : szIntSS a ≤ 1048576) :
    Calls Try.prog 26 #[v] w fun e w' => e = .returned (.int .i64 (rankI a)) ∧ Below w.heap.size w w' := by
  obtain ⟨A, n, c, vs, rfl, hm, r⟩ := h
  have hn : n ≤ 1048576 := by have := r.2.1; unfold szIntSS at hs; omega
  have HLN : Hid (lensK a n ≤ 1048576) := Lib.hid (by have := r.2.1; unfold szIntSS at hs; rw [← this]; omega)
  have hl := Lib.hid r.2.1
  have H := Lib.hid r
  clear r hs hm
  cases ha : matB a
  · have HF : Hid (-1 = rankI a) := Lib.hid (by simp [rankI, ha])
    go_enter Try.func26, Try.ntmps26
    go_wp2_with fail
    refine (s_MatrixOk _ _ _ _ _ _ H.out hn HLN.out).mono ?_
    rintro e w1 ⟨rfl, hst⟩
    have HS := Lib.hid hst
    clear hst
    go_wp2
    go_ret
    exact ⟨ret_int HF.out, HS.out.below _⟩
  · have HM := Lib.hid (Mat.of ha)
    have HF : Hid (rankI a = ((redC (augR a (List.replicate n 0) n) n ((a.getD 0 []).length + 1) (a.getD 0 []).length).2.length : Int)) := Lib.hid (by
      unfold rankI redOf; rw [if_pos ha, hl.out])
    have hmk := fun W => run_make1 (P := Try.prog) Try.underlying27 info_int rfl n (by omega) (by omega) W
    go_enter Try.func26, Try.ntmps26
    go_wp2_with fail
    refine (s_MatrixOk _ _ _ _ _ _ H.out hn HLN.out).mono ?_
    rintro e w1 ⟨rfl, hst⟩
    have HS := Lib.hid hst
    have HB0 : Hid (Below w.heap.size w (w1.alloc (.cells (Array.replicate n (.int .i64 0)) 3))) := Lib.hid ((hst.below _).alloc (by rw [hst.sz]; exact Nat.le_refl _) _)
    have HR1 : Hid (RdR (w1.alloc (.cells (Array.replicate n (.int .i64 0)) 3)) (w1.alloc (.cells (Array.replicate n (.int .i64 0)) 3)).heap.size A n vs a) := Lib.hid ((H.out.keep HB0.out).more (by have := HB0.out.size; exact this))
    have HZ1 : Hid (Rd (w1.alloc (.cells (Array.replicate n (.int .i64 0)) 3)) (w1.alloc (.cells (Array.replicate n (.int .i64 0)) 3)).heap.size 1 (some ⟨w1.heap.size, 0, none⟩) n (cI (List.replicate n 0))) := Lib.hid (by
      rw [← cI_zeros]
      exact (Ow.zeros w1 (.int .i64 0) 3 n).rd.more (by simp))
    clear hst
    go_wp2_with fail
    refine (s_l3Reduced _ _ _ _ _ _ _ _ _ _ HR1.out HZ1.out HM.out (nums_zeros n)).mono ?_
    rintro e w2 ⟨Ar, cr, tv, mid, ws, rfl, hz1, hz2, hbl, hor, hot⟩
    obtain ⟨hsT, At, kt, ct, rfl, hot⟩ := hot
    have HTL := Lib.hid hot.len
    have HB2 : Hid (Below w.heap.size w w2) := Lib.hid (HB0.out.trans (hbl.mono HB0.out.size))
    clear hz1 hz2 hbl hor hot hsT
    go_wp2
    go_ret
    exact ⟨ret_int (by rw [HF.out, HTL.out]), HB2.out⟩
end Go.Proofs.Ytbnobkojkfmccaa
