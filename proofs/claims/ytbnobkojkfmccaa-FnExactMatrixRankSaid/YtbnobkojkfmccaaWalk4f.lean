/- Chapter 3 in the program: solvable; MatrixSolve, MatrixRank. -/
import Derived.Test.YtbnobkojkfmccaaWalk4e
import Derived.ChangeKeysEq
namespace Go.Proofs.Ytbnobkojkfmccaa
open Go.RowKit
set_option maxRecDepth 100000

/-- eight zeros and a number, loaded -/
theorem wlz {ops : Array Oper} {rest : List Oper} {op : Oper} {a : Act} {w : World} {Q : Exit → Act → World → Prop} {g o : Nat} {z : Int} (hgd : op.guard = none) (x : Operand) (ho : op.op = .load 110 x)
    (hx : a.eval x = .pointer (some ⟨g, o, none⟩)) (hr : R9 w g o [0, 0, 0, 0, 0, 0, 0, 0, z])
    (h : wpList Try.prog ops Q rest (a.put op.dst (.agg #[.int .i64 0, .int .i64 0, .int .i64 0, .int .i64 0, .int .i64 0, .int .i64 0, .int .i64 0, .int .i64 0, .int .i64 z])) w) : wpList Try.prog ops Q (op :: rest) a w :=
  wl9 hgd x ho hx hr h

theorem infoN : ∃ i, Try.prog.info? 67 = some i := by
  cases h : Try.prog.info? 67 with
  | none =>
    have : (Try.prog.info? 67).isSome = true := by kernel_rfl
    rw [h] at this; cases this
  | some i => exact ⟨i, rfl⟩
theorem cellsN : Try.prog.cellsOf 67 = 1 := by kernel_rfl
theorem eqItems_ints (xs ys : Array Value) (fa fb : Nat → Int) (W : World) (is : List Nat) (h : ∀ k ∈ is, xs[k]? = some (.int .i64 (fa k)) ∧ ys[k]? = some (.int .i64 (fb k))) :
    (Op.eqItems 9999 67 1 xs ys is).run Try.prog W = .ok (is.all fun k => fa k == fb k) W := by
  have hq : ∀ (a b : Int), (Op.equalIn 9999 67 (.int .i64 a) (.int .i64 b)).run Try.prog W = .ok (a == b) W := fun a b => run_equalIn_int (P := Try.prog) W 9998 _ .i64 .i64 a b Try.underlying67
  have hp : ∀ (xs : Array Value) (k : Nat) (a : Int), xs[k]? = some (.int .i64 a) → (part 67 xs k).run Try.prog W = .ok (.int .i64 a) W := fun xs k a h => by
    simp [part, isAgg, run_underlying Try.underlying67, h, Result.andThen]
  induction is with
  | nil => simp [Op.eqItems]
  | cons k is ih =>
    have hk := h k (by simp)
    simp only [Op.eqItems, Sem.run_bind, Nat.mul_one, hp _ _ _ hk.1, hp _ _ _ hk.2, hq, Result.andThen_ok, List.all_cons]
    cases hc : (fa k == fb k)
    · simp
    · simp only [Bool.not_true, Bool.false_eq_true, if_false, Bool.true_and]
      exact ih (fun q hq => h q (by simp [hq]))
/-- eight zeros and a number against nine zeros -/
theorem eq9 (z : Int) (W : World) : (Op.equalIn 10000 110 (.agg #[.int .i64 0, .int .i64 0, .int .i64 0, .int .i64 0, .int .i64 0, .int .i64 0, .int .i64 0, .int .i64 0, .int .i64 z])
    (.agg #[.int .i64 0, .int .i64 0, .int .i64 0, .int .i64 0, .int .i64 0, .int .i64 0, .int .i64 0, .int .i64 0, .int .i64 0])).run Try.prog W = .ok (z == 0) W := by
  obtain ⟨i, hi⟩ := infoN
  have h1 := run_equalIn_array (P := Try.prog) W 9999 #[.int .i64 0, .int .i64 0, .int .i64 0, .int .i64 0, .int .i64 0, .int .i64 0, .int .i64 0, .int .i64 0, .int .i64 z] #[.int .i64 0, .int .i64 0, .int .i64 0, .int .i64 0, .int .i64 0, .int .i64 0, .int .i64 0, .int .i64 0, .int .i64 0] Try.underlying110 hi
  refine h1.trans ?_
  rw [cellsN, show List.range 9 = [0, 1, 2, 3, 4, 5, 6, 7, 8] from rfl]
  rw [eqItems_ints _ _ (fun k => if k = 8 then z else 0) (fun _ => 0) W _ (by simp)]
  simp

set_option maxHeartbeats 1000000 in
theorem i_solvable (g0 n kt ct kd cd : Nat) (At Ad : Option Addr) (P : List (List Int)) (w : World) (hO : Ow w g0 (g0 + 1) 110 9 (some ⟨g0, 0, none⟩) n n (cR P)) (hW : W9 P)
    (hz : ∀ i, kt ≤ i → i < n → ∃ z, P.getD i [] = [0, 0, 0, 0, 0, 0, 0, 0, z]) (hk : kt ≤ n) (hg : g0 < w.heap.size) (n8 : n ≤ 8) :
    Calls Try.prog 56 #[.agg #[.slice (some ⟨g0, 0, none⟩) n n, .slice At kt ct, .slice Ad kd cd]] w fun e w' => ∃ b, e = .returned (.bool b) ∧ (b = true ↔ ∀ i, i < n → kt ≤ i → (P.getD i []).getD 8 0 = 0) ∧ Below w.heap.size w w' := by
  have HW := Lib.hid hW
  have HPN : Hid (P.length = n) := Lib.hid (hO.rowN hW)
  have HO := Lib.hid hO
  have HZR := Lib.hid hz
  have HB0 : Hid (Below w.heap.size w (w.alloc (.cells #[.slice (some ⟨g0, 0, none⟩) n n, .slice At kt ct, .slice Ad kd cd] 71))) := Lib.hid ((Below.refl _ _).alloc (Nat.le_refl _) _)
  clear hW hO hz
  have j0 : (0 : Int) ≤ (kt : Int) := by omega
  have j1 : (kt : Int) ≤ (n : Int) := by omega
  by_cases hkn : kt = n
  · subst hkn
    have HF : Hid (∀ i, i < kt → kt ≤ i → (P.getD i []).getD 8 0 = 0) := Lib.hid (fun i h1 h2 => by omega)
    go_enter Try.func56, Try.ntmps56
    go_wp2
    go_loopw [12] (fun i wr => i = .int .i64 0 ∧ Hid (Below w.heap.size w wr)) (fun _ _ => 0)
    case atStart => exact ⟨rfl, HB0⟩
    case round =>
      obtain ⟨rfl, HB⟩ := hrel
      go_wp2
      go_ret
      exact ⟨true, rfl, ⟨fun _ => HF.out, fun _ => rfl⟩, HB.out⟩
  · obtain ⟨l, rfl⟩ : ∃ l, n = kt + l := ⟨n - kt, by omega⟩
    have l0 : 0 < l := by omega
    go_enter Try.func56, Try.ntmps56
    go_wp2
    go_loopw [12] (fun i wr => ∃ j : Nat, j ≤ l ∧ i = .int .i64 j ∧ Hid (∀ q, q < kt + j → kt ≤ q → (P.getD q []).getD 8 0 = 0) ∧ Hid (Below w.heap.size w wr)) (fun i _ => l - (intOf i).toNat)
    case atStart => exact ⟨0, Nat.zero_le _, rfl, Lib.hid (fun q h1 h2 => by omega), HB0⟩
    case round =>
      obtain ⟨j, hj, rfl, HI, HB⟩ := hrel
      by_cases hlt : j < l
      · obtain ⟨z, hz⟩ := HZR.out (kt + j) (by omega) (by omega)
        have HZQ := Lib.hid hz
        have HR : Hid (R9 wr g0 (kt * 9 + j * 9) [0, 0, 0, 0, 0, 0, 0, 0, z]) := Lib.hid (by
          have h1 := (HO.out.below HB.out (by omega)).r9R HW.out (k := kt + j) (by rw [HPN.out]; omega)
          rw [hz, show (kt + j) * 9 = kt * 9 + j * 9 by omega] at h1; exact h1)
        clear hz
        have i0 : (0 : Int) ≤ (j : Int) := by omega
        have i1 : (j : Int) < (l : Int) := by omega
        have HBa := Lib.hid (HB.out.alloc HB.out.size (.cells #[.int .i64 0, .int .i64 0, .int .i64 0, .int .i64 0, .int .i64 0, .int .i64 0, .int .i64 0, .int .i64 0, .int .i64 z] 110))
        have heq := eq9 z
        by_cases hz0 : z = 0
        · subst hz0
          have heq0 := eq9 0
          clear heq
          have HI2 : Hid (∀ q, q < kt + (j + 1) → kt ≤ q → (P.getD q []).getD 8 0 = 0) := Lib.hid (fun q h1 h2 => by
            by_cases e : q = kt + j
            · rw [e, HZQ.out]; rfl
            · exact HI.out q (by omega) h2)
          go_wp2_with ((with_reducible refine wlz (x := .tmp 14) ?_ ?_ ?_ HR.out ?_); exact rfl; exact rfl; exact rfl)
          go_roundw
          case rel => exact ⟨j + 1, by omega, by go_num, HI2, HBa⟩
          case measure => simp [intOf] <;> omega
        · have hzb : (z == 0) = false := by simp [hz0]
          have HF : Hid (¬ ∀ q, q < kt + l → kt ≤ q → (P.getD q []).getD 8 0 = 0) := Lib.hid (fun h => hz0 (by
            have := h (kt + j) (by omega) (by omega)
            rw [HZQ.out] at this; exact this))
          go_wp2_with ((with_reducible refine wlz (x := .tmp 14) ?_ ?_ ?_ HR.out ?_); exact rfl; exact rfl; exact rfl)
          go_ret
          exact ⟨false, rfl, ⟨fun h => (by cases h), fun h => absurd h HF.out⟩, HBa.out⟩
      · obtain rfl : j = l := by omega
        go_wp2
        go_ret
        exact ⟨true, rfl, ⟨fun _ => HI.out, fun _ => rfl⟩, HB.out⟩

theorem E9_zero {m : Nat} {x : List Int} (hm : m ≤ 8) (h : ∀ j, j < m → x.getD j 0 = 0) : E9 m x = [0, 0, 0, 0, 0, 0, 0, 0, x.getD m 0] := by
  refine ext_getD (by rw [E9_length]; rfl) fun j hj => ?_
  rw [E9_length] at hj
  rw [E9_get _ _ _ hj]
  have hj2 : j = 0 ∨ j = 1 ∨ j = 2 ∨ j = 3 ∨ j = 4 ∨ j = 5 ∨ j = 6 ∨ j = 7 ∨ j = 8 := by omega
  by_cases h1 : j < m
  · rw [if_pos h1, h j h1]
    rcases hj2 with rfl | rfl | rfl | rfl | rfl | rfl | rfl | rfl | rfl <;> first | rfl | omega
  · rw [if_neg h1]
    rcases hj2 with rfl | rfl | rfl | rfl | rfl | rfl | rfl | rfl | rfl <;> rfl
/-- what stands in a row behind the taken ones -/
theorem red_rows {D : List (List Int)} {r : List Int} {n m : Nat} (hM : Mat D m) (hn : D.length = n) (hx : Nums r) (hm : m ≤ 8) (i : Nat) (h1 : (redOf D r m).2.length ≤ i) (h2 : i < n) :
    ∃ z, ((redOf D r m).1.map (E9 m)).getD i [] = [0, 0, 0, 0, 0, 0, 0, 0, z] := by
  have hS := Shp.aug hM hn hx
  have hI := redOf_inv hM hx
  rw [map_getD _ _ i [] [] (by rw [hI.1.1]; omega)]
  refine ⟨_, E9_zero hm fun j hj => ?_⟩
  have hz := redC_zero hS m (by omega)
  have e : redOf D r m = redC (augR D r n) n (m + 1) m := by unfold redOf; rw [hn]
  rw [e] at h1 ⊢
  exact hz i h1 h2 j hj

set_option maxHeartbeats 4000000 in
theorem X_i_MatrixSolve (v v' : Value) (a : List (List Int)) (b : List Int) (w : World) (h : RdIntSS w w.heap.size v a) (h' : RdIntS w w.heap.size v' b) (hs : szIntSS a ≤ 1048576) (hs' : szIntS b ≤ 1048576) :
    Calls Try.prog 25 #[v, v'] w fun e w' => ∃ g, e = .returned (.tuple #[g, .bool (R_MatrixSolve_1 a b)]) ∧ OwIntS w' w.heap.size w'.heap.size g (R_MatrixSolve_0 a b) ∧ Below w.heap.size w w' := by
  obtain ⟨A, n, c, vs, rfl, hm, r⟩ := h
  obtain ⟨A', n', c', rfl, hm', r'⟩ := h'
  have hn : n ≤ 1048576 := by have := r.2.1; unfold szIntSS at hs; omega
  have HLN : Hid (lensK a n ≤ 1048576) := Lib.hid (by have := r.2.1; unfold szIntSS at hs; rw [← this]; omega)
  have hn' : n' ≤ 1048576 := by have := r'.len; unfold szIntS at hs'; omega
  have hl := Lib.hid r.2.1
  have hl' := Lib.hid r'.len
  have H := Lib.hid r
  have H' := Lib.hid r'
  clear r r' hs hs' hm hm'
  cases ha : matB a
  · have HF : Hid (R_MatrixSolve_1 a b = false) := Lib.hid (by simp [R_MatrixSolve_1, argsB, ha])
    have HR : Hid (R_MatrixSolve_0 a b = []) := Lib.hid (by simp [R_MatrixSolve_0, argsB, ha])
    go_enter Try.func25, Try.ntmps25
    go_wp2_with fail
    refine (i_MatrixOk _ _ _ _ _ _ H.out hn HLN.out).mono ?_
    rintro e w1 ⟨rfl, rfl⟩
    rw [ha]
    go_wp2
    go_ret2
    refine ⟨_, ret_vb HF.out.symm, ?_, Below.refl _ _⟩
    rw [HR.out]; exact OwIntS.nil_ _ _ _
  · have HM := Lib.hid (Mat.of ha)
    by_cases hne : n' = n
    · subst hne
      have HLM : Hid (decide (b.length = a.length) = true) := Lib.hid (decide_eq_true (hl'.out.trans hl.out.symm))
      cases hb : numsB b
      · have HF : Hid (R_MatrixSolve_1 a b = false) := Lib.hid (by simp [R_MatrixSolve_1, argsB, hb])
        have HR : Hid (R_MatrixSolve_0 a b = []) := Lib.hid (by simp [R_MatrixSolve_0, argsB, hb])
        go_enter Try.func25, Try.ntmps25
        go_wp2_with fail
        refine (i_MatrixOk _ _ _ _ _ _ H.out hn HLN.out).mono ?_
        rintro e w1 ⟨rfl, rfl⟩
        rw [ha]
        go_wp2_with fail
        refine (i_manyNumbers _ _ _ _ _ _ H'.out hn').mono ?_
        rintro e w2 ⟨rfl, rfl⟩
        rw [show (decide ((n' : Int) = (n' : Int)) && numsB b) = false from by rw [hb]; simp]
        go_wp2
        go_ret2
        refine ⟨_, ret_vb HF.out.symm, ?_, Below.refl _ _⟩
        rw [HR.out]; exact OwIntS.nil_ _ _ _
      · have HG : Hid (argsB a b = true) := Lib.hid (by unfold argsB; rw [ha, HLM.out, hb]; rfl)
        have HF : Hid (R_MatrixSolve_1 a b = solvB a b (a.getD 0 []).length) := Lib.hid (by unfold R_MatrixSolve_1; rw [HG.out]; rfl)
        have HR : Hid (R_MatrixSolve_0 a b = solvL a b (a.getD 0 []).length) := Lib.hid (by unfold R_MatrixSolve_0; rw [if_pos HG.out])
        have HN := Lib.hid (nums_of_B hb)
        obtain ⟨m, hmm⟩ : ∃ m, m = (a.getD 0 []).length := ⟨_, rfl⟩
        have HMM := Lib.hid hmm
        have HM2 : Hid (Mat a m) := Lib.hid (by rw [hmm]; exact HM.out)
        have m8 : m ≤ 8 := HM2.out.cols.2
        have n8 : n' ≤ 8 := by have := HM2.out.rows.2; have := hl.out; omega
        have HI := Lib.hid (redOf_inv HM2.out HN.out)
        clear hmm HM
        go_enter Try.func25, Try.ntmps25
        go_wp2_with fail
        refine (i_MatrixOk _ _ _ _ _ _ H.out hn HLN.out).mono ?_
        rintro e w1 ⟨rfl, rfl⟩
        rw [ha]
        go_wp2_with fail
        refine (i_manyNumbers _ _ _ _ _ _ H'.out hn').mono ?_
        rintro e w2 ⟨rfl, rfl⟩
        rw [show (decide ((n' : Int) = (n' : Int)) && numsB b) = true from by rw [hb]; simp]
        go_wp2_with fail
        refine (i_reduced _ _ _ _ _ m _ _ _ _ H.out H'.out HM2.out HN.out).mono ?_
        rintro e w5 ⟨g0, At, Ad, kt, ct, kd, cd, rfl, hg0, ho, ht, hd, hbl⟩
        have HTL : Hid ((redOf a b m).2.length = kt) := Lib.hid (by have := ht.1; rw [cI_length] at this; omega)
        have HKD : Hid (kt + kd = m) := Lib.hid (by
          have h1 := depC_len (augR a b n') n' (m + 1) m
          have h2 := hd.1
          rw [cI_length] at h2
          have h3 := HTL.out
          unfold redOf at h3
          rw [hl.out] at h3
          omega)
        have hkt : kt ≤ n' := by have := HI.out.2.1; have := HTL.out; have := hl.out; omega
        have hgl : g0 < w5.heap.size := by
          obtain ⟨cs, hb0⟩ := ho.blockOf (by have := HM2.out.rows.1; have := hl.out; omega)
          exact block_lt hb0
        have hsy : ∀ o, Below w5.heap.size w5 (w5.alloc o) := fun o => (Below.refl _ _).alloc (Nat.le_refl _) _
        have HO := Lib.hid ho
        obtain ⟨Aq, cq, hvq, hot⟩ := Ow.of_own ht
        have HOT : Hid (Rd w5 w5.heap.size 1 At kt (cI (redOf a b m).2)) := Lib.hid (by
          injection hvq with e1 e2 e3; subst e1; subst e3
          exact hot.rd)
        have HB5 : Hid (Below w.heap.size w w5) := Lib.hid hbl
        have HSZ := Lib.hid hbl.size
        clear ho ht hd hbl hvq hot
        unfold sysC
        go_wp2_with fail
        refine (i_solvable g0 n' kt ct kd cd At Ad _ _ (HO.out.below (hsy _) (by omega)) W9.map (fun i h1 h2 => red_rows HM2.out hl.out HN.out m8 i (by rw [HTL.out]; exact h1) h2) hkt (by simp; omega) n8).mono ?_
        rintro e w6 ⟨bb, rfl, hbb, hbl6⟩
        have HBB : Hid (bb = solvB a b (a.getD 0 []).length) := Lib.hid (by
          rw [← HMM.out, Bool.eq_iff_iff, hbb]
          unfold solvB
          rw [solB_iff, HTL.out, hl.out]
          constructor
          · intro hq i h1 h2
            have := hq i h1 h2
            rwa [map_getD _ _ i [] [] (by rw [HI.out.1.1, hl.out]; exact h1), E9_8 m8] at this
          · intro hq i h1 h2
            rw [map_getD _ _ i [] [] (by rw [HI.out.1.1, hl.out]; exact h1), E9_8 m8]
            exact hq i h1 h2)
        have HB6 : Hid (Below w5.heap.size w5 w6) := Lib.hid ((hsy _).trans (hbl6.mono (by simp)))
        have hc60 : w6.cell? ⟨w5.heap.size, 0, none⟩ = some (.slice (some ⟨g0, 0, none⟩) n' n') := (hbl6.cell (p := ⟨w5.heap.size, 0, none⟩) (by simp)).trans (block_cell (heap_alloc_new _ _) rfl)
        have hc61 : w6.cell? ⟨w5.heap.size, 1, none⟩ = some (.slice At kt ct) := (hbl6.cell (p := ⟨w5.heap.size, 1, none⟩) (by simp)).trans (block_cell (heap_alloc_new _ _) rfl)
        have hc62 : w6.cell? ⟨w5.heap.size, 2, none⟩ = some (.slice Ad kd cd) := (hbl6.cell (p := ⟨w5.heap.size, 2, none⟩) (by simp)).trans (block_cell (heap_alloc_new _ _) rfl)
        clear hbb hbl6
        cases bb
        · have HF2 : Hid (R_MatrixSolve_1 a b = false) := Lib.hid (by rw [HF.out, ← HBB.out])
          have HR2 : Hid (R_MatrixSolve_0 a b = []) := Lib.hid (by rw [HR.out]; unfold solvL; rw [← HBB.out]; rfl)
          go_wp2
          go_ret2
          refine ⟨_, ret_vb HF2.out.symm, ?_, HB5.out.trans (HB6.out.mono HSZ.out)⟩
          rw [HR2.out]; exact OwIntS.nil_ _ _ _
        · have HF2 : Hid (R_MatrixSolve_1 a b = true) := Lib.hid (by rw [HF.out, ← HBB.out])
          have HR2 : Hid (R_MatrixSolve_0 a b = solP ((redOf a b m).1.map (E9 m)) (redOf a b m).2 m kt) := Lib.hid (by
            rw [HR.out]; unfold solvL; rw [← HBB.out, if_pos rfl, ← HMM.out, ← HTL.out, solP_is m8 HI.out.1.1 HI.out.2.1])
          have hz6 := HB6.out.size
          go_wp2_with fail
          refine (i_solution g0 n' kt ct kd cd m At Ad _ _ _ (HO.out.below HB6.out (by omega)) W9.map ((HOT.out.below HB6.out).more hz6) (fun i hi => HI.out.2.2 i (by rw [HTL.out]; exact hi)) HKD.out m8 hkt (by omega) n8).mono ?_
          rintro e w7 ⟨v7, rfl, ho7, hbl7⟩
          have HO7 := Lib.hid ho7
          have HB7 := Lib.hid hbl7
          have hz67 := HSZ.out
          clear ho7 hbl7
          go_wp2
          go_ret2
          refine ⟨_, ret_vb HF2.out.symm, ?_, (HB5.out.trans (HB6.out.mono HSZ.out)).trans (HB7.out.mono (by omega))⟩
          rw [HR2.out]; exact HO7.out.widen (by omega) (Nat.le_refl _)
    · have HV : Hid ((decide ((n' : Int) = (n : Int)) && numsB b) = false) := Lib.hid (by rw [decide_eq_false (by omega)]; rfl)
      have HG : Hid (argsB a b = false) := Lib.hid (by unfold argsB; rw [decide_eq_false (by rw [hl'.out, hl.out]; exact hne)]; simp)
      have HF : Hid (R_MatrixSolve_1 a b = false) := Lib.hid (by unfold R_MatrixSolve_1; rw [HG.out]; rfl)
      have HR : Hid (R_MatrixSolve_0 a b = []) := Lib.hid (by unfold R_MatrixSolve_0; rw [HG.out]; rfl)
      clear hne
      go_enter Try.func25, Try.ntmps25
      go_wp2_with fail
      refine (i_MatrixOk _ _ _ _ _ _ H.out hn HLN.out).mono ?_
      rintro e w1 ⟨rfl, rfl⟩
      rw [ha]
      go_wp2_with fail
      refine (i_manyNumbers _ _ _ _ _ _ H'.out hn').mono ?_
      rintro e w2 ⟨rfl, rfl⟩
      rw [HV.out]
      go_wp2
      go_ret2
      refine ⟨_, ret_vb HF.out.symm, ?_, Below.refl _ _⟩
      rw [HR.out]; exact OwIntS.nil_ _ _ _

theorem fld1 (x y z : Value) (W : World) : (Instr.field 71 (.agg #[x, y, z]) 1).run Try.prog W = .ok y W := by kernel_rfl
set_option maxHeartbeats 1000000 in
theorem X_i_MatrixRank (v : Value) (a : List (List Int)) (w : World) (h : RdIntSS w w.heap.size v a) (hs : szIntSS a ≤ 1048576) :
    Calls Try.prog 27 #[v] w fun e w' => e = .returned (.int .i64 (rankI a)) ∧ Below w.heap.size w w' := by
  obtain ⟨A, n, c, vs, rfl, hm, r⟩ := h
  have hn : n ≤ 1048576 := by have := r.2.1; unfold szIntSS at hs; omega
  have HLN : Hid (lensK a n ≤ 1048576) := Lib.hid (by have := r.2.1; unfold szIntSS at hs; rw [← this]; omega)
  have hl := Lib.hid r.2.1
  have H := Lib.hid r
  clear r hs hm
  cases ha : matB a
  · have HF : Hid (-1 = rankI a) := Lib.hid (by simp [rankI, ha])
    go_enter Try.func27, Try.ntmps27
    go_wp2_with fail
    refine (i_MatrixOk _ _ _ _ _ _ H.out hn HLN.out).mono ?_
    rintro e w1 ⟨rfl, rfl⟩
    rw [ha]
    go_wp2
    go_ret
    exact ⟨ret_int HF.out, Below.refl _ _⟩
  · have HM := Lib.hid (Mat.of ha)
    have HF : Hid (rankI a = ((redOf a (List.replicate n 0) (a.getD 0 []).length).2.length : Int)) := Lib.hid (by
      unfold rankI; rw [if_pos ha, hl.out])
    have hmk := fun W => run_make1 (P := Try.prog) Try.underlying27 info_int rfl n (by omega) (by omega) W
    have HB0 : Hid (Below w.heap.size w (w.alloc (.cells (Array.replicate n (.int .i64 0)) 3))) := Lib.hid ((Below.refl _ _).alloc (Nat.le_refl _) _)
    have HR1 : Hid (RdR (w.alloc (.cells (Array.replicate n (.int .i64 0)) 3)) (w.alloc (.cells (Array.replicate n (.int .i64 0)) 3)).heap.size A n vs a) := Lib.hid ((H.out.keep HB0.out).more (by have := HB0.out.size; exact this))
    have HZ1 : Hid (Rd (w.alloc (.cells (Array.replicate n (.int .i64 0)) 3)) (w.alloc (.cells (Array.replicate n (.int .i64 0)) 3)).heap.size 1 (some ⟨w.heap.size, 0, none⟩) n (cI (List.replicate n 0))) := Lib.hid (by
      rw [← cI_zeros]
      exact (Ow.zeros w (.int .i64 0) 3 n).rd.more (by simp))
    go_enter Try.func27, Try.ntmps27
    go_wp2_with fail
    refine (i_MatrixOk _ _ _ _ _ _ H.out hn HLN.out).mono ?_
    rintro e w1 ⟨rfl, rfl⟩
    rw [ha]
    go_wp2_with fail
    refine (i_reduced _ _ _ _ _ _ _ _ _ _ HR1.out HZ1.out HM.out (nums_zeros n)).mono ?_
    rintro e w5 ⟨g0, At, Ad, kt, ct, kd, cd, rfl, hg0, ho, ht, hd, hbl⟩
    have HTL : Hid ((redOf a (List.replicate n 0) (a.getD 0 []).length).2.length = kt) := Lib.hid (by have := ht.1; rw [cI_length] at this; omega)
    have HB2 : Hid (Below w.heap.size w w5) := Lib.hid (HB0.out.trans (hbl.mono HB0.out.size))
    clear ho ht hd hbl
    have hfd := fld1 (.slice (some ⟨g0, 0, none⟩) n n) (.slice At kt ct) (.slice Ad kd cd) w5
    unfold sysC
    go_wp2
    go_ret
    exact ⟨ret_int (by rw [HF.out, HTL.out]), HB2.out⟩
end Go.Proofs.Ytbnobkojkfmccaa
