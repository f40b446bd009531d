/- Chapter 3 in the program: what is a matrix; a matrix times a list. -/
import Derived.Test.YtbnobkojkfmccaaWalk3g
import Derived.Test.YtbnobkojkfmccaaMath3c
import Derived.Test.YtbnobkojkfmccaaMany
namespace Go.Proofs.Ytbnobkojkfmccaa
open Go.RowKit
set_option maxRecDepth 100000

set_option maxHeartbeats 1000000 in
theorem i_MatrixOk (A : Option Addr) (n c : Nat) (vs : List Value) (d : List (List Int)) (w : World) (h : RdR w w.heap.size A n vs d) (hn : n ≤ 1048576) (hl : lensK d n ≤ 1048576) :
    Calls Try.prog 15 #[.slice A n c] w fun e w' => e = .returned (.bool (matB d)) ∧ w = w' := by
  have hlen := Lib.hid h.2.1
  have HL := Lib.hid hl
  have H := Lib.hid h
  clear h hl
  by_cases hb : 1 ≤ n ∧ n ≤ 8
  · obtain ⟨b1, b2⟩ := hb
    have HI : Hid (inB (n : Int) 1 8 = true) := Lib.hid (inB_t ⟨by omega, by omega⟩)
    obtain ⟨a, A0, m, c0, rfl, hab, hc00, hr0, hm, hm0⟩ := H.out.row (show 0 < n by omega)
    have hc0 : w.cell? a = some (.slice A0 m c0) := hc00
    have HM0 := Lib.hid hm0
    have HC0 := Lib.hid hc0
    clear hc00 hr0 hm0
    have n0 : ((n : Int) == 0) = false := by rw [beq_eq_false_iff_ne]; omega
    have i2 : (0 : Int) < (n : Int) := by omega
    by_cases hb2 : 1 ≤ m ∧ m ≤ 8
    · have HI2 : Hid (inB (m : Int) 1 8 = true) := Lib.hid (inB_t ⟨by omega, by omega⟩)
      have HB : Hid (matB d = rowsK d n) := Lib.hid (by unfold matB; rw [hlen.out, HM0.out, HI.out, HI2.out]; rfl)
      obtain ⟨b3, b4⟩ := hb2
      have m0 : ((m : Int) == 0) = false := by rw [beq_eq_false_iff_ne]; omega
      go_enter Try.func15, Try.ntmps15
      go_wp2
      go_loop [29] (fun i => ∃ k : Nat, k ≤ n ∧ i = .int .i64 k ∧ Hid (rowsK d k = true)) (fun i => n - (intOf i).toNat)
      case atStart => exact ⟨0, Nat.zero_le _, rfl, Lib.hid rfl⟩
      case round =>
        obtain ⟨k, hk, rfl, HK⟩ := hrel
        by_cases hlt : k < n
        · obtain ⟨a2, Ai, ni, ci, ha2, _, hci, hri, hni, hmi⟩ := H.out.row hlt
          obtain rfl : a = a2 := by injection ha2
          have HMI := Lib.hid hmi
          have HRI := Lib.hid hri
          clear hri hmi ha2
          have i0 : (0 : Int) ≤ (k : Int) := by omega
          have i1 : (k : Int) < (n : Int) := by omega
          have hsm : ni ≤ 1048576 := by have h1 := lensK_row d hlt; have h2 := HL.out; have h3 := HMI.out; omega
          have HRD : Hid (Rd w w.heap.size 1 Ai ni (cI (d.getD k []))) := Lib.hid (by
            obtain ⟨A2, n2, c2, e, _, r⟩ := HRI.out
            injection e with e1 e2 e3; subst e1; subst e2; subst e3
            exact r)
          by_cases he : ni = m
          · cases hnb : numsB (d.getD k [])
            · have HF : Hid (false = matB d) := Lib.hid (by rw [HB.out, rowsK_bad (k := k) (by rw [rowsK, hnb]; simp) hlt])
              have HV : Hid ((decide ((ni : Int) = (m : Int)) && numsB (d.getD k [])) = false) := Lib.hid (by rw [hnb]; simp)
              clear he hnb
              go_wp2_with fail
              refine (i_manyNumbers _ _ _ _ _ _ HRD.out hsm).mono ?_
              rintro e w' ⟨rfl, rfl⟩
              rw [HV.out]
              go_wp2
              go_ret
              exact ⟨ret_bool HF.out, rfl⟩
            · have HK2 : Hid (rowsK d (k + 1) = true) := Lib.hid (by rw [rowsK, HK.out, hnb, HMI.out, HM0.out, he]; simp)
              have HV : Hid ((decide ((ni : Int) = (m : Int)) && numsB (d.getD k [])) = true) := Lib.hid (by rw [hnb, he]; simp)
              clear he hnb
              go_wp2_with fail
              refine (i_manyNumbers _ _ _ _ _ _ HRD.out hsm).mono ?_
              rintro e w' ⟨rfl, rfl⟩
              rw [HV.out]
              go_wp2
              go_round
              case rel => exact ⟨k + 1, by omega, by go_num, HK2⟩
              case measure => simp [intOf] <;> omega
          · have HF : Hid (false = matB d) := Lib.hid (by
              rw [HB.out, rowsK_bad (k := k) (by rw [rowsK, HMI.out, HM0.out]; simp [he]) hlt])
            have HV : Hid ((decide ((ni : Int) = (m : Int)) && numsB (d.getD k [])) = false) := Lib.hid (by rw [decide_eq_false (by omega)]; rfl)
            clear he
            go_wp2_with fail
            refine (i_manyNumbers _ _ _ _ _ _ HRD.out hsm).mono ?_
            rintro e w' ⟨rfl, rfl⟩
            rw [HV.out]
            go_wp2
            go_ret
            exact ⟨ret_bool HF.out, rfl⟩
        · have HF : Hid (true = matB d) := Lib.hid (by rw [HB.out, ← HK.out, show k = n by omega])
          go_wp2
          go_ret
          exact ⟨ret_bool HF.out, rfl⟩
    · have HI2 : Hid (inB (m : Int) 1 8 = false) := Lib.hid (inB_f (by omega))
      have HF : Hid (false = matB d) := Lib.hid (by unfold matB; rw [HM0.out, HI2.out]; simp)
      by_cases hm1 : m = 0
      · subst hm1
        go_enter Try.func15, Try.ntmps15
        go_wp2
        go_ret
        exact ⟨ret_bool HF.out, rfl⟩
      · have m0 : ((m : Int) == 0) = false := by rw [beq_eq_false_iff_ne]; omega
        have m8 : decide ((8 : Int) < (m : Int)) = true := by simp; omega
        go_enter Try.func15, Try.ntmps15
        go_wp2
        go_ret
        exact ⟨ret_bool HF.out, rfl⟩
  · have HI : Hid (inB (n : Int) 1 8 = false) := Lib.hid (inB_f (by omega))
    have HF : Hid (false = matB d) := Lib.hid (by unfold matB; rw [hlen.out, HI.out]; rfl)
    by_cases hm1 : n = 0
    · subst hm1
      go_enter Try.func15, Try.ntmps15
      go_wp2
      go_ret
      exact ⟨ret_bool HF.out, rfl⟩
    · have m0 : ((n : Int) == 0) = false := by rw [beq_eq_false_iff_ne]; omega
      have m8 : decide ((8 : Int) < (n : Int)) = true := by simp; omega
      go_enter Try.func15, Try.ntmps15
      go_wp2
      go_ret
      exact ⟨ret_bool HF.out, rfl⟩
theorem X_i_MatrixOk (v : Value) (a : List (List Int)) (w : World) (h : RdIntSS w w.heap.size v a) (hs : szIntSS a ≤ 1048576) :
    Calls Try.prog 15 #[v] w fun e w' => e = .returned (.bool (matB a)) ∧ Below w.heap.size w w' := by
  obtain ⟨A, n, c, vs, rfl, _, r⟩ := h
  have hl := r.2.1
  unfold szIntSS at hs
  exact (i_MatrixOk A n c vs a w r (by omega) (by rw [← hl]; omega)).mono fun e w' ⟨he, hw⟩ => ⟨he, by subst hw; exact Below.refl _ _⟩

set_option maxHeartbeats 1000000 in
theorem i_sumOfProducts (A A' : Option Addr) (n c n' c' : Nat) (x y : List Int) (w : World) (h : Rd w w.heap.size 1 A n (cI x)) (h' : Rd w w.heap.size 1 A' n' (cI y)) (hnn : n = n') (hx : Nums x) (hy : Nums y) (hn : n ≤ 1048576) :
    Calls Try.prog 53 #[.slice A n c, .slice A' n' c'] w fun e w' => e = .returned (.int .i64 (dotK x y n)) ∧ Still w w' := by
  subst hnn
  have H := Lib.hid h
  have H' := Lib.hid h'
  have HX := Lib.hid hx
  have HY := Lib.hid hy
  clear h h' hx hy
  go_enter Try.func53, Try.ntmps53
  go_wp2
  go_loopw [5, 9] (fun s i wr => ∃ (k : Nat) (Z : Int), k ≤ n ∧ i = .int .i64 k ∧ s = .int .i64 Z ∧ 0 ≤ Z ∧ Z ≤ 112 ∧ Hid (Z = dotK x y k) ∧ Hid (Still w wr)) (fun _ i _ => n - (intOf i).toNat)
  case atStart => exact ⟨0, 0, Nat.zero_le _, rfl, rfl, by omega, by omega, Lib.hid rfl, Lib.hid (Still.refl _)⟩
  case round =>
    obtain ⟨k, Z, hk, rfl, rfl, s0, s1, HI, HS⟩ := hrel
    by_cases hlt : k < n
    · obtain ⟨a, u, rfl, hab, hcu0, HU⟩ := H.out.intAt hlt
      obtain ⟨a', v, rfl, hab', hcv0, HV⟩ := H'.out.intAt hlt
      have hcu := (HS.out.cell (a.add k)).trans hcu0
      have hcv := (HS.out.cell (a'.add k)).trans hcv0
      clear hcu0 hcv0
      have u0 : 0 ≤ u := by rw [HU.out]; exact (HX.out k).1
      have u1 : u ≤ 112 := by rw [HU.out]; exact (HX.out k).2
      have v0 : 0 ≤ v := by rw [HV.out]; exact (HY.out k).1
      have v1 : v ≤ 112 := by rw [HV.out]; exact (HY.out k).2
      have p0 : 0 ≤ u * v % 113 := by omega
      have p1 : u * v % 113 ≤ 112 := by omega
      have HI2 : Hid ((Z + u * v % 113) % 113 = dotK x y (k + 1)) := Lib.hid (by
        rw [dotK, ← HI.out, ← HU.out, ← HV.out, Int.add_emod_emod])
      clear HI
      have i0 : (0 : Int) ≤ (k : Int) := by omega
      have i1 : (k : Int) < (n : Int) := by omega
      go_wp2
      go_quiet ((first | (go_at_call 89; exact quiet_drewN (i_times _ _ _ u0 u1 v0 v1)) | (go_at_call 88; exact quiet_drewN (i_plus _ _ _ s0 s1 p0 p1))))
      go_wp2
      go_roundw
      case rel => exact ⟨k + 1, (Z + u * v % 113) % 113, by omega, by go_num, rfl, by omega, by omega, HI2, Lib.hid (HS.out.drewN _)⟩
      case measure => simp [intOf] <;> omega
    · have HF : Hid (Z = dotK x y n) := Lib.hid (by rw [HI.out, show k = n by omega])
      clear HI
      go_wp2
      go_ret
      exact ⟨ret_i HF.out, HS.out⟩

/-- the first k sums, then zeros -/
def timK (d : List (List Int)) (x : List Int) (n k : Nat) : List Int := matTimes d x k ++ List.replicate (n - k) 0
theorem timK_set (d : List (List Int)) (x : List Int) (n k : Nat) (h : k < n) : (timK d x n k).set k (dotK (d.getD k []) x x.length) = timK d x n (k + 1) := by
  unfold timK
  rw [List.set_append_right _ _ (by rw [matTimes_length]; exact Nat.le_refl _), matTimes_length, Nat.sub_self, show n - k = (n - (k + 1)) + 1 by omega, List.replicate_succ, List.set_cons_zero, matTimes_succ, List.append_assoc]; rfl

set_option maxHeartbeats 2000000 in
theorem X_i_MatrixTimes (v v' : Value) (a : List (List Int)) (b : List Int) (w : World) (h : RdIntSS w w.heap.size v a) (h' : RdIntS w w.heap.size v' b) (hs : szIntSS a ≤ 1048576) (hs' : szIntS b ≤ 1048576) :
    Calls Try.prog 19 #[v, v'] w fun e w' => ∃ g, e = .returned (.tuple #[g, .bool (R_MatrixTimes_1 a b)]) ∧ OwIntS w' w.heap.size w'.heap.size g (R_MatrixTimes_0 a b) ∧ Below w.heap.size w w' := by
  obtain ⟨A, n, c, vs, rfl, hm, r⟩ := h
  obtain ⟨A', n', c', rfl, hm', r'⟩ := h'
  have hn : n ≤ 1048576 := by have := r.2.1; unfold szIntSS at hs; omega
  have HLN : Hid (lensK a n ≤ 1048576) := Lib.hid (by have := r.2.1; unfold szIntSS at hs; rw [← this]; omega)
  have hn' : n' ≤ 1048576 := by have := r'.len; unfold szIntS at hs'; omega
  have hl := Lib.hid r.2.1
  have hl' := Lib.hid r'.len
  have H := Lib.hid r
  have H' := Lib.hid r'
  clear r r' hs hs' hm hm'
  cases ha : matB a
  · have HF : Hid (R_MatrixTimes_1 a b = false) := Lib.hid (by simp [R_MatrixTimes_1, ha])
    have HR : Hid (R_MatrixTimes_0 a b = []) := Lib.hid (by simp [R_MatrixTimes_0, R_MatrixTimes_1, ha])
    go_enter Try.func19, Try.ntmps19
    go_wp2_with fail
    refine (i_MatrixOk _ _ _ _ _ _ H.out hn HLN.out).mono ?_
    rintro e w1 ⟨rfl, rfl⟩
    rw [ha]
    go_wp2
    go_ret2
    refine ⟨_, ret_vb HF.out.symm, ?_, Below.refl _ _⟩
    rw [HR.out]; exact OwIntS.nil_ _ _ _
  · have HM := Lib.hid (Mat.of ha)
    have n1 : 0 < n := by have := HM.out.rows.1; have := hl.out; omega
    have n8 : n ≤ 8 := by have := HM.out.rows.2; have := hl.out; omega
    obtain ⟨a0, A0, m, c0, rfl, hab, hc00, hr0, _, hm0⟩ := H.out.row n1
    have hc0 : w.cell? a0 = some (.slice A0 m c0) := hc00
    have HC0 := Lib.hid hc0
    have HM0 := Lib.hid hm0
    clear hc00 hr0 hm0
    have i2 : (0 : Int) < (n : Int) := by omega
    by_cases hne : n' = m
    · subst hne
      have hlm : decide (b.length = (a.getD 0 []).length) = true := decide_eq_true (hl'.out.trans HM0.out.symm)
      cases hb : numsB b
      · clear hlm
        have HF : Hid (R_MatrixTimes_1 a b = false) := Lib.hid (by simp [R_MatrixTimes_1, hb])
        have HR : Hid (R_MatrixTimes_0 a b = []) := Lib.hid (by simp [R_MatrixTimes_0, R_MatrixTimes_1, hb])
        go_enter Try.func19, Try.ntmps19
        go_wp2_with fail
        refine (i_MatrixOk _ _ _ _ _ _ H.out hn HLN.out).mono ?_
        rintro e w1 ⟨rfl, rfl⟩
        rw [ha]
        go_wp2_with fail
        refine (i_manyNumbers _ _ _ _ _ _ H'.out hn').mono ?_
        rintro e w2 ⟨rfl, rfl⟩
        rw [show (decide ((n' : Int) = (n' : Int)) && numsB b) = false from by rw [hb]; simp]
        go_wp2
        go_ret2
        refine ⟨_, ret_vb HF.out.symm, ?_, Below.refl _ _⟩
        rw [HR.out]; exact OwIntS.nil_ _ _ _
      · have HF : Hid (R_MatrixTimes_1 a b = true) := Lib.hid (by unfold R_MatrixTimes_1; rw [ha, hlm, hb]; rfl)
        have HR : Hid (R_MatrixTimes_0 a b = timK a b n n) := Lib.hid (by unfold R_MatrixTimes_0; rw [if_pos HF.out, hl.out, timK, Nat.sub_self]; simp)
        clear hlm
        have HN := Lib.hid (nums_of_B hb)
        have hmk := fun W => run_make1 (P := Try.prog) Try.underlying27 info_int rfl n (by omega) (by omega) W
        have HO0 : Hid (Ow (w.alloc (.cells (Array.replicate n (.int .i64 0)) 3)) w.heap.size (w.heap.size + 1) 3 1 (some ⟨w.heap.size, 0, none⟩) n n (cI (timK a b n 0))) := Lib.hid (by
          have := Ow.zeros w (.int .i64 0) 3 n
          rw [cI_zeros] at this; exact this)
        have HB0 : Hid (Below w.heap.size w (w.alloc (.cells (Array.replicate n (.int .i64 0)) 3))) := Lib.hid ((Below.refl _ _).alloc (Nat.le_refl _) _)
        go_enter Try.func19, Try.ntmps19
        go_wp2_with fail
        refine (i_MatrixOk _ _ _ _ _ _ H.out hn HLN.out).mono ?_
        rintro e w1 ⟨rfl, rfl⟩
        rw [ha]
        go_wp2_with fail
        refine (i_manyNumbers _ _ _ _ _ _ H'.out hn').mono ?_
        rintro e w2 ⟨rfl, rfl⟩
        rw [show (decide ((n' : Int) = (n' : Int)) && numsB b) = true from by rw [hb]; simp]
        go_wp2
        clear hmk
        go_loopw [26] (fun i wr => ∃ k : Nat, k ≤ n ∧ i = .int .i64 k ∧ Hid (Ow wr w.heap.size (w.heap.size + 1) 3 1 (some ⟨w.heap.size, 0, none⟩) n n (cI (timK a b n k))) ∧ Hid (Below w.heap.size w wr) ∧ Hid (w.heap.size + 1 ≤ wr.heap.size)) (fun i _ => n - (intOf i).toNat)
        case atStart => exact ⟨0, Nat.zero_le _, rfl, HO0, HB0, Lib.hid (by simp)⟩
        case round =>
          clear HO0 HB0
          obtain ⟨k, hk, rfl, HO, HB, HZ⟩ := hrel
          by_cases hlt : k < n
          · obtain ⟨a2, Ai, ni, ci, ha2, hab2, hci0, hri, hni, hmi⟩ := H.out.row hlt
            obtain rfl : a0 = a2 := by injection ha2
            have hci := (HB.out.cell (p := a0.add k) (by rw [add_block]; exact hab2)).trans hci0
            obtain rfl : ni = n' := by have := HM.out.len k (by have := hl.out; omega); have := HM0.out; omega
            have HRI : Hid (Rd wr wr.heap.size 1 Ai ni (cI (a.getD k []))) := Lib.hid (by
              obtain ⟨A2, n2, c2, e, _, r⟩ := hri
              injection e with e1 e2 e3; subst e1; subst e2; subst e3
              exact (r.below HB.out).more HB.out.size)
            have HRB : Hid (Rd wr wr.heap.size 1 A' ni (cI b)) := Lib.hid ((H'.out.below HB.out).more HB.out.size)
            have HNK := Lib.hid (HM.out.nums k (by have := hl.out; omega))
            have hdl : Hid (dotK (a.getD k []) b ni = dotK (a.getD k []) b b.length) := Lib.hid (by rw [hl'.out])
            clear hci0 hri hmi ha2
            have i0 : (0 : Int) ≤ (k : Int) := by omega
            have i1 : (k : Int) < (n : Int) := by omega
            go_wp2_with fail
            refine (i_sumOfProducts _ _ _ _ _ _ _ _ _ HRI.out HRB.out rfl HNK.out HN.out (by omega)).mono ?_
            rintro e w3 ⟨rfl, hst⟩
            have HO2 := Lib.hid (hst.ow HO.out)
            have HB2 : Hid (Below w.heap.size w w3) := Lib.hid (HB.out.trans (hst.below _))
            have HZ2 : Hid (w.heap.size + 1 ≤ w3.heap.size) := Lib.hid (by rw [hst.sz]; exact HZ.out)
            clear HO HB HZ hst hci
            obtain ⟨z, hcz, _⟩ := HO2.out.intAt hlt
            have hf := HO2.out.free (by omega) k
            have HO3 : Hid (Ow (w3.setCell ⟨w.heap.size, k, none⟩ (.int .i64 (dotK (a.getD k []) b ni))) w.heap.size (w.heap.size + 1) 3 1 (some ⟨w.heap.size, 0, none⟩) n n (cI (timK a b n (k + 1)))) := Lib.hid (by
              have := HO2.out.set k (.int .i64 (dotK (a.getD k []) b ni))
              rw [cI_set, hdl.out, timK_set _ _ _ _ hlt] at this
              rw [hdl.out]; exact this)
            have HB3 := Lib.hid (HB2.out.setCell (p := ⟨w.heap.size, k, none⟩) (Nat.le_refl _) (.int .i64 (dotK (a.getD k []) b ni)))
            have HZ3 : Hid (w.heap.size + 1 ≤ (w3.setCell ⟨w.heap.size, k, none⟩ (.int .i64 (dotK (a.getD k []) b ni))).heap.size) := Lib.hid (by rw [World.size_setCell]; exact HZ2.out)
            clear HO2 HB2 HZ2
            go_wp2
            go_roundw
            case rel => exact ⟨k + 1, by omega, by go_num, HO3, HB3, HZ3⟩
            case measure => simp [intOf] <;> omega
          · obtain rfl : n = k := by omega
            go_wp2
            go_ret2
            refine ⟨_, ret_vb HF.out.symm, ?_, HB.out⟩
            rw [HR.out]
            have := HO.out.len
            exact ⟨by omega, _, _, _, rfl, HO.out.widen (Nat.le_refl _) HZ.out⟩
    · have HV : Hid ((decide ((n' : Int) = (m : Int)) && numsB b) = false) := Lib.hid (by rw [decide_eq_false (by omega)]; rfl)
      have HF : Hid (R_MatrixTimes_1 a b = false) := Lib.hid (by unfold R_MatrixTimes_1; rw [decide_eq_false (by rw [hl'.out, HM0.out]; exact hne)]; simp)
      have HR : Hid (R_MatrixTimes_0 a b = []) := Lib.hid (by simp [R_MatrixTimes_0, HF.out])
      clear hne
      go_enter Try.func19, Try.ntmps19
      go_wp2_with fail
      refine (i_MatrixOk _ _ _ _ _ _ H.out hn HLN.out).mono ?_
      rintro e w1 ⟨rfl, rfl⟩
      rw [ha]
      go_wp2_with fail
      refine (i_manyNumbers _ _ _ _ _ _ H'.out hn').mono ?_
      rintro e w2 ⟨rfl, rfl⟩
      rw [HV.out]
      go_wp2
      go_ret2
      refine ⟨_, ret_vb HF.out.symm, ?_, Below.refl _ _⟩
      rw [HR.out]; exact OwIntS.nil_ _ _ _
end Go.Proofs.Ytbnobkojkfmccaa
