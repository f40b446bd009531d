/- Chapter 8 in the model: depths and degrees. -/
import Derived.Test.YtbmjepmlalfpgaaWalk8i
import Derived.Test.YtbmjepmlalfpgaaMath11
namespace Go.Proofs.Ytbmjepmlalfpgaa
open Go.RowKit
set_option maxRecDepth 100000

/-- what both sides tell -/
def depV (d : Int × List (Int × Int × Int) × List Int) : Int := if circB d then mostK d.2.2 (tellK depG d.2.1 d.2.1.length) d.2.2.length else -1
def degV (d : Int × List (Int × Int × Int) × List Int) : Int := if circB d then min 1000 (mostK d.2.2 (tellK dcutG d.2.1 d.2.1.length) d.2.2.length) else -1

set_option maxHeartbeats 16000000 in
theorem X_s_CircuitDepth (v : Value) (d : Int × List (Int × Int × Int) × List Int) (w : World) (h : RdCircuit w w.heap.size v d) (hs : szCircuit d ≤ 1048576) :
    Calls Try.prog 17 #[v] w fun e w' => e = .returned (.int .i64 (depV d)) ∧ Below w.heap.size w w' := by
  obtain ⟨A1, n1, c1, A2, n2, c2, rfl, h1, h2⟩ := h
  have m1 : n1 ≤ 1048576 := by have := szC1 hs; have := h1.n.2; omega
  have m2 : n2 ≤ 1048576 := by have := szC2 hs; have := h2.n.2; omega
  have l1 := Lib.hid h1.n.2
  have l2 := Lib.hid h2.n.2
  have H1 := Lib.hid h1.n.1
  have H2 := Lib.hid h2.n.1
  clear h1 h2 hs
  obtain ⟨z, d1, d2⟩ := d
  have HX0 : Hid (Bx (w.alloc (.cells #[.int .i64 z, .slice A1 n1 c1, .slice A2 n2 c2] 26)) w.heap.size #[.int .i64 z, .slice A1 n1 c1, .slice A2 n2 c2] 26) := Lib.hid (Bx.new _ _ _)
  have HB0 : Hid (Below w.heap.size w (w.alloc (.cells #[.int .i64 z, .slice A1 n1 c1, .slice A2 n2 c2] 26))) := Lib.hid ((Below.refl _ _).alloc (Nat.le_refl _) _)
  go_enter Try.func17, Try.ntmps17
  go_wp2_with fail
  refine (s_CircuitOk A1 n1 c1 A2 n2 c2 z d1 d2 _ ((H1.out.below HB0.out).more (by simp)) ((H2.out.below HB0.out).more (by simp)) m1 m2).mono ?_
  rintro e w2 ⟨rfl, hb⟩
  have HX1 := Lib.hid (HX0.out.below hb HX0.out.lt)
  have HB1 : Hid (Below w.heap.size w w2) := Lib.hid (HB0.out.trans (hb.mono HB0.out.size))
  have hz0 := HX1.out.lt
  clear hb HB0 HX0
  cases ef : circB (z, d1, d2)
  · have HR : Hid (depV (z, d1, d2) = -1) := Lib.hid (by simp [depV, ef])
    go_wp2
    go_ret
    exact ⟨ret_i HR.out.symm, HB1.out⟩
  obtain ⟨c0, c1', c2', c3', c4'⟩ := circB_iff ef
  simp only at c0 c1' c2' c3' c4'
  have q1 : n1 ≤ 16 := by have := l1.out; omega
  have q2 : n2 ≤ 16 := by have := l2.out; omega
  have HG : Hid (gatesK d1 z n1 = true) := Lib.hid (by have := l1.out; rw [this]; exact c3')
  have G4 : Hid (outsK d2 n1 n2 = true) := Lib.hid (by have e1 := l1.out; have e2 := l2.out; rw [e1, e2]; exact c4')
  have HR : Hid (depV (z, d1, d2) = mostK d2 (tellK depG d1 n1) n2) := Lib.hid (by simp [depV, ef, l1.out, l2.out])
  have hmk := fun W => run_make1 (P := Try.prog) Try.underlying24 info_int rfl n1 (by omega) (by omega) W
  have b1 : w2.cell? ⟨w.heap.size, 1, none⟩ = some (.slice A1 n1 c1) := HX1.out.cell 1
  have HX2 := Lib.hid (HX1.out.alloc (.cells (Array.replicate n1 (.int .i64 0)) 3))
  have HO0 : Hid (Ow (w2.alloc (.cells (Array.replicate n1 (.int .i64 0)) 3)) w2.heap.size (w2.heap.size + 1) 3 1 (some ⟨w2.heap.size, 0, none⟩) n1 n1 (cI (tellK depG d1 0 ++ List.replicate (n1 - 0) 0))) := Lib.hid (by
    have := Ow.zeros w2 (.int .i64 0) 3 n1
    rw [cI_zeros] at this; exact this)
  have HB2 := Lib.hid (HB1.out.alloc (Nat.le_of_lt hz0) (.cells (Array.replicate n1 (.int .i64 0)) 3))
  have HS2 : Hid (w2.heap.size < (w2.alloc (.cells (Array.replicate n1 (.int .i64 0)) 3)).heap.size) := Lib.hid (by simp)
  clear c0 c1' c2' c3' c4' ef HX1 HB1
  go_wp2
  go_loopw [4] (fun i wr => ∃ k : Nat, k ≤ n1 ∧ i = .int .i64 k ∧ Hid (Ow wr w2.heap.size (w2.heap.size + 1) 3 1 (some ⟨w2.heap.size, 0, none⟩) n1 n1 (cI (tellK depG d1 k ++ List.replicate (n1 - k) 0))) ∧ Hid (Bx wr w.heap.size #[.int .i64 z, .slice A1 n1 c1, .slice A2 n2 c2] 26) ∧ Hid (Below w.heap.size w wr) ∧ Hid (w2.heap.size < wr.heap.size)) (fun i _ => n1 - (intOf i).toNat)
  case atStart => exact ⟨0, Nat.zero_le _, rfl, HO0, HX2, HB2, HS2⟩
  case round =>
    clear HX2 HO0 HB2 HS2 b1
    obtain ⟨k, hk, rfl, HO, HX, HB, HS⟩ := hrel
    have b0 : wr.cell? ⟨w.heap.size, 0, none⟩ = some (.int .i64 z) := HX.out.cell 0
    have b1 : wr.cell? ⟨w.heap.size, 1, none⟩ = some (.slice A1 n1 c1) := HX.out.cell 1
    have b2 : wr.cell? ⟨w.heap.size, 2, none⟩ = some (.slice A2 n2 c2) := HX.out.cell 2
    by_cases hlt : k < n1
    · obtain ⟨a, x, y, u, hA, hab, hx0, hy0, hu0, HP⟩ := H1.out.GateAt hlt
      have hx := (HB.out.cell (p := a.add (k * 3)) (by rw [add_block]; exact hab)).trans hx0
      have hy := (HB.out.cell (p := ⟨(a.add (k * 3)).block, (a.add (k * 3)).off + 1, none⟩) (by rw [add_block]; exact hab)).trans hy0
      have hu := (HB.out.cell (p := ⟨(a.add (k * 3)).block, (a.add (k * 3)).off + 2, none⟩) (by rw [add_block]; exact hab)).trans hu0
      have i0 : (0 : Int) ≤ (k : Int) := by omega
      have i1 : (k : Int) < (n1 : Int) := by omega
      have HQ : Hid (gt d1 k = (x, y, u)) := Lib.hid HP.out
      have hkd := gateB_kind (gatesK_at HG.out hlt)
      rw [HQ.out] at hkd
      simp only at hkd
      have HV := Lib.hid (fun j => dep_bd HG.out k (by omega) j)
      subst hA
      clear hx0 hy0 hu0 HP b0 b2
      have hal : Below wr.heap.size wr (wr.alloc (.cells #[.int .i64 x, .int .i64 y, .int .i64 u] 30)) := (Below.refl _ _).alloc (Nat.le_refl _) _
      have HO1 := Lib.hid (HO.out.below hal HS.out)
      have HX1 := Lib.hid (HX.out.alloc (.cells #[.int .i64 x, .int .i64 y, .int .i64 u] 30))
      have HB1 := Lib.hid (HB.out.alloc HB.out.size (.cells #[.int .i64 x, .int .i64 y, .int .i64 u] 30))
      have HS1 : Hid (w2.heap.size < (wr.alloc (.cells #[.int .i64 x, .int .i64 y, .int .i64 u] 30)).heap.size) := Lib.hid (by have := HS.out; simp; omega)
      have HY : Hid (Bx (wr.alloc (.cells #[.int .i64 x, .int .i64 y, .int .i64 u] 30)) wr.heap.size #[.int .i64 x, .int .i64 y, .int .i64 u] 30) := Lib.hid (Bx.new _ _ _)
      have hf := HO1.out.free (by omega) k
      have HST : Hid (depG (x, y, u) (tellK depG d1 k) = depG (gt d1 k) (tellK depG d1 k)) := Lib.hid (by rw [HQ.out])
      have HZ0 : Hid (depG (x, y, u) (tellK depG d1 k) = 0 → tellK depG d1 (k + 1) ++ List.replicate (n1 - (k + 1)) 0 = tellK depG d1 k ++ List.replicate (n1 - k) 0) := Lib.hid (fun h0 => by
        rw [tellK, ← HST.out, h0, List.append_assoc, show n1 - k = (n1 - (k + 1)) + 1 by omega, List.replicate_succ, List.singleton_append])
      obtain ⟨v0, hv0, HV0⟩ := HO1.out.intAt (k := k) hlt
      have HSET : ∀ v : Int, v = depG (x, y, u) (tellK depG d1 k) → Hid (Ow ((wr.alloc (.cells #[.int .i64 x, .int .i64 y, .int .i64 u] 30)).setCell ⟨w2.heap.size, k, none⟩ (.int .i64 v)) w2.heap.size (w2.heap.size + 1) 3 1 (some ⟨w2.heap.size, 0, none⟩) n1 n1 (cI (tellK depG d1 (k + 1) ++ List.replicate (n1 - (k + 1)) 0))) ∧ Hid (Bx ((wr.alloc (.cells #[.int .i64 x, .int .i64 y, .int .i64 u] 30)).setCell ⟨w2.heap.size, k, none⟩ (.int .i64 v)) w.heap.size #[.int .i64 z, .slice (some a) n1 c1, .slice A2 n2 c2] 26) ∧ Hid (Below w.heap.size w ((wr.alloc (.cells #[.int .i64 x, .int .i64 y, .int .i64 u] 30)).setCell ⟨w2.heap.size, k, none⟩ (.int .i64 v))) ∧ Hid (w2.heap.size < ((wr.alloc (.cells #[.int .i64 x, .int .i64 y, .int .i64 u] 30)).setCell ⟨w2.heap.size, k, none⟩ (.int .i64 v)).heap.size) := fun v hv => by
        refine ⟨Lib.hid ?_, Lib.hid (HX1.out.other ⟨w2.heap.size, k, none⟩ _ (by simp; omega)), Lib.hid (HB1.out.setCell (p := ⟨w2.heap.size, k, none⟩) (by simp; omega) _), Lib.hid (by rw [World.size_setCell]; exact HS1.out)⟩
        have := HO1.out.set k (.int .i64 v)
        rw [cI_set] at this
        rw [← tell_step depG d1 hlt, HQ.out, ← hv]
        exact this
      clear hal
      rcases hkd with ⟨rfl, y0, y1, rfl⟩ | ⟨rfl, y0, y1, rfl⟩ | ⟨hk3, y0, y1, u0, u1⟩
      · have HE := HZ0.out (by simp [depG])
        have HO2 := Lib.hid HO1.out
        rw [← HE] at HO2
        have HX2 := Lib.hid HX1.out
        have HB2 := Lib.hid HB1.out
        have HS2 := Lib.hid HS1.out
        clear HO HX HB HS HO1 HX1 HB1 HS1 HSET HZ0 HST HE
        go_wp2
        go_roundw
        case rel => exact ⟨k + 1, by omega, by go_num, HO2, HX2, HB2, HS2⟩
        case measure => simp [intOf] <;> omega
      · have HE := HZ0.out (by simp [depG])
        have HO2 := Lib.hid HO1.out
        rw [← HE] at HO2
        have HX2 := Lib.hid HX1.out
        have HB2 := Lib.hid HB1.out
        have HS2 := Lib.hid HS1.out
        clear HO HX HB HS HO1 HX1 HB1 HS1 HSET HZ0 HST HE
        go_wp2
        go_roundw
        case rel => exact ⟨k + 1, by omega, by go_num, HO2, HX2, HB2, HS2⟩
        case measure => simp [intOf] <;> omega
      · obtain ⟨m1, rfl⟩ : ∃ m : Nat, y = m := ⟨y.toNat, by omega⟩
        obtain ⟨m2, rfl⟩ : ∃ m : Nat, u = m := ⟨u.toNat, by omega⟩
        obtain ⟨p, hp, HP0⟩ := HO1.out.intAt (k := m1) (by omega)
        obtain ⟨q, hq, HQ0⟩ := HO1.out.intAt (k := m2) (by omega)
        have HPP : Hid (p = (tellK depG d1 k).getD m1 0) := Lib.hid (by rw [HP0.out, tell_get _ _ (by omega)])
        have HQQ : Hid (q = (tellK depG d1 k).getD m2 0) := Lib.hid (by rw [HQ0.out, tell_get _ _ (by omega)])
        have p0 := (HV.out m1).1
        have p1 := (HV.out m1).2
        have q0 := (HV.out m2).1
        have q1' := (HV.out m2).2
        rw [← HPP.out] at p0 p1
        rw [← HQQ.out] at q0 q1'
        have j0 : (m1 : Int) < (n1 : Int) := by omega
        have j1 : (m2 : Int) < (n1 : Int) := by omega
        clear HP0 HQ0
        rcases hk3 with rfl | rfl | rfl
        · obtain ⟨HO2, HX2, HB2, HS2⟩ := HSET (if p < q then q else p) (by rw [if_max, HPP.out, HQQ.out]; simp [depG])
          clear HO HX HB HS HO1 HX1 HB1 HS1 HSET HPP HQQ HZ0 HST
          go_wp2
          obtain ⟨wo, hwo⟩ : ∃ wo, Hid (wr.alloc (.cells #[.int .i64 2, .int .i64 m1, .int .i64 m2] 30) = wo) := ⟨_, Lib.hid rfl⟩
          rw [hwo.out] at hf hv0 hp hq HY HO2 HX2 HB2 HS2 ⊢
          have g0 : wo.cell? ⟨wr.heap.size, 0, none⟩ = some (.int .i64 2) := HY.out.cell 0
          have g1 : wo.cell? ⟨wr.heap.size, 1, none⟩ = some (.int .i64 m1) := HY.out.cell 1
          have g2 : wo.cell? ⟨wr.heap.size, 2, none⟩ = some (.int .i64 m2) := HY.out.cell 2
          replace HO2 := Lib.hid (HO2.out.drewN 1)
          replace HX2 : Hid (Bx ((wo.setCell ⟨w2.heap.size, k, none⟩ (.int .i64 (if p < q then q else p))).drewN 1) w.heap.size _ _) := Lib.hid HX2.out
          replace HB2 := Lib.hid (below_drewN HB2.out 1)
          replace HS2 : Hid (w2.heap.size < ((wo.setCell ⟨w2.heap.size, k, none⟩ (.int .i64 (if p < q then q else p))).drewN 1).heap.size) := Lib.hid HS2.out
          clear hwo
          go_still_tail 13, (by kernel_rfl)
          change wpList _ _ _ _ _ wo.drew
          go_wp2
          go_roundw
          case rel => exact ⟨k + 1, by omega, by go_num, HO2, HX2, HB2, HS2⟩
          case measure => simp [intOf] <;> omega
        · obtain ⟨HO2, HX2, HB2, HS2⟩ := HSET (if p < q then q else p) (by rw [if_max, HPP.out, HQQ.out]; simp [depG])
          clear HO HX HB HS HO1 HX1 HB1 HS1 HSET HPP HQQ HZ0 HST
          go_wp2
          obtain ⟨wo, hwo⟩ : ∃ wo, Hid (wr.alloc (.cells #[.int .i64 3, .int .i64 m1, .int .i64 m2] 30) = wo) := ⟨_, Lib.hid rfl⟩
          rw [hwo.out] at hf hv0 hp hq HY HO2 HX2 HB2 HS2 ⊢
          have g0 : wo.cell? ⟨wr.heap.size, 0, none⟩ = some (.int .i64 3) := HY.out.cell 0
          have g1 : wo.cell? ⟨wr.heap.size, 1, none⟩ = some (.int .i64 m1) := HY.out.cell 1
          have g2 : wo.cell? ⟨wr.heap.size, 2, none⟩ = some (.int .i64 m2) := HY.out.cell 2
          replace HO2 := Lib.hid (HO2.out.drewN 1)
          replace HX2 : Hid (Bx ((wo.setCell ⟨w2.heap.size, k, none⟩ (.int .i64 (if p < q then q else p))).drewN 1) w.heap.size _ _) := Lib.hid HX2.out
          replace HB2 := Lib.hid (below_drewN HB2.out 1)
          replace HS2 : Hid (w2.heap.size < ((wo.setCell ⟨w2.heap.size, k, none⟩ (.int .i64 (if p < q then q else p))).drewN 1).heap.size) := Lib.hid HS2.out
          clear hwo
          go_still_tail 13, (by kernel_rfl)
          change wpList _ _ _ _ _ wo.drew
          go_wp2
          go_roundw
          case rel => exact ⟨k + 1, by omega, by go_num, HO2, HX2, HB2, HS2⟩
          case measure => simp [intOf] <;> omega
        · have HMX : Hid ((if p < q then q else p) + 1 = depG (gt d1 k) (tellK depG d1 k)) := Lib.hid (by rw [if_max, HPP.out, HQQ.out, HQ.out]; simp [depG])
          have mx0 : 0 ≤ (if p < q then q else p) ∧ (if p < q then q else p) ≤ 16 := by split <;> omega
          obtain ⟨wo, hwo⟩ : ∃ wo, Hid (wr.alloc (.cells #[.int .i64 4, .int .i64 m1, .int .i64 m2] 30) = wo) := ⟨_, Lib.hid rfl⟩
          rw [hwo.out] at hf hv0 hp hq HY HO1 HX1 HB1 HS1
          have g0 : wo.cell? ⟨wr.heap.size, 0, none⟩ = some (.int .i64 4) := HY.out.cell 0
          have g1 : wo.cell? ⟨wr.heap.size, 1, none⟩ = some (.int .i64 m1) := HY.out.cell 1
          have g2 : wo.cell? ⟨wr.heap.size, 2, none⟩ = some (.int .i64 m2) := HY.out.cell 2
          clear HO HX HB HSET HPP HQQ HZ0 HST
          go_wp2
          rw [hwo.out]
          clear hwo
          go_still_tail 13, (by kernel_rfl)
          change wpList _ _ _ _ _ wo.drew
          generalize hmx : (if p < q then q else p) = mx at HMX mx0
          have HO2 : Hid (Ow ((wo.drew.setCell ⟨w2.heap.size, k, none⟩ (.int .i64 mx)).setCell ⟨w2.heap.size, k, none⟩ (.int .i64 (mx + 1))) w2.heap.size (w2.heap.size + 1) 3 1 (some ⟨w2.heap.size, 0, none⟩) n1 n1 (cI (tellK depG d1 (k + 1) ++ List.replicate (n1 - (k + 1)) 0))) := Lib.hid (by
            have h1 : Ow wo.drew w2.heap.size (w2.heap.size + 1) 3 1 (some ⟨w2.heap.size, 0, none⟩) n1 n1 (cI (tellK depG d1 k ++ List.replicate (n1 - k) 0)) := HO1.out
            have := (h1.set k (.int .i64 mx)).set k (.int .i64 (mx + 1))
            rw [cI_set, cI_set, List.set_set, HMX.out, tell_step depG d1 hlt] at this; rw [HMX.out]; exact this)
          have HX2 : Hid (Bx ((wo.drew.setCell ⟨w2.heap.size, k, none⟩ (.int .i64 mx)).setCell ⟨w2.heap.size, k, none⟩ (.int .i64 (mx + 1))) w.heap.size #[.int .i64 z, .slice (some a) n1 c1, .slice A2 n2 c2] 26) := Lib.hid (Bx.other (Bx.other (w := wo.drew) HX1.out ⟨w2.heap.size, k, none⟩ (.int .i64 mx) (by simp; omega)) ⟨w2.heap.size, k, none⟩ (.int .i64 (mx + 1)) (by simp; omega))
          have HB2 : Hid (Below w.heap.size w ((wo.drew.setCell ⟨w2.heap.size, k, none⟩ (.int .i64 mx)).setCell ⟨w2.heap.size, k, none⟩ (.int .i64 (mx + 1)))) := Lib.hid ((HB1.out.drew.setCell (p := ⟨w2.heap.size, k, none⟩) (by simp; omega) _).setCell (p := ⟨w2.heap.size, k, none⟩) (by simp; omega) _)
          have HS2 : Hid (w2.heap.size < ((wo.drew.setCell ⟨w2.heap.size, k, none⟩ (.int .i64 mx)).setCell ⟨w2.heap.size, k, none⟩ (.int .i64 (mx + 1))).heap.size) := Lib.hid (by rw [World.size_setCell, World.size_setCell]; exact HS1.out)
          have hne : wr.heap.size ≠ w2.heap.size := by have := HS.out; omega
          clear HO1 HX1 HB1 HS1
          go_wp2
          go_roundw
          case rel => exact ⟨k + 1, by omega, by go_num, HO2, HX2, HB2, HS2⟩
          case measure => simp [intOf] <;> omega
    · have hkn : k = n1 := by omega
      have HRD : Hid (Rd wr wr.heap.size 1 (some ⟨w2.heap.size, 0, none⟩) n1 (cI (tellK depG d1 n1))) := Lib.hid (by
        have := HO.out
        rw [hkn, Nat.sub_self, List.replicate_zero, List.append_nil] at this
        exact this.rd.more HS.out)
      have HM := Lib.hid (most_bd (os := d2) (v := tellK depG d1 n1) (t := 16) (by omega) (fun j => by have := dep_bd HG.out n1 (Nat.le_refl _) j; omega) n2)
      clear HO hkn
      go_wp2_with fail
      refine (s_l8Most A1 n1 c1 A2 n2 c2 (some ⟨w2.heap.size, 0, none⟩) n1 n1 z d2 (tellK depG d1 n1) _ ((H2.out.below HB.out).more HB.out.size) HRD.out q2 G4.out q1).mono ?_
      rintro e w3 ⟨rfl, hb⟩
      have HB3 : Hid (Below w.heap.size w w3) := Lib.hid (HB.out.trans (hb.mono HB.out.size))
      clear hb HRD HX HB b0 b1 b2
      go_wp2
      go_ret
      exact ⟨ret_i HR.out.symm, HB3.out⟩

set_option maxHeartbeats 16000000 in
theorem X_s_CircuitDegree (v : Value) (d : Int × List (Int × Int × Int) × List Int) (w : World) (h : RdCircuit w w.heap.size v d) (hs : szCircuit d ≤ 1048576) :
    Calls Try.prog 43 #[v] w fun e w' => e = .returned (.int .i64 (degV d)) ∧ Below w.heap.size w w' := by
  obtain ⟨A1, n1, c1, A2, n2, c2, rfl, h1, h2⟩ := h
  have m1 : n1 ≤ 1048576 := by have := szC1 hs; have := h1.n.2; omega
  have m2 : n2 ≤ 1048576 := by have := szC2 hs; have := h2.n.2; omega
  have l1 := Lib.hid h1.n.2
  have l2 := Lib.hid h2.n.2
  have H1 := Lib.hid h1.n.1
  have H2 := Lib.hid h2.n.1
  clear h1 h2 hs
  obtain ⟨z, d1, d2⟩ := d
  have HX0 : Hid (Bx (w.alloc (.cells #[.int .i64 z, .slice A1 n1 c1, .slice A2 n2 c2] 26)) w.heap.size #[.int .i64 z, .slice A1 n1 c1, .slice A2 n2 c2] 26) := Lib.hid (Bx.new _ _ _)
  have HB0 : Hid (Below w.heap.size w (w.alloc (.cells #[.int .i64 z, .slice A1 n1 c1, .slice A2 n2 c2] 26))) := Lib.hid ((Below.refl _ _).alloc (Nat.le_refl _) _)
  go_enter Try.func43, Try.ntmps43
  go_wp2_with fail
  refine (s_CircuitOk A1 n1 c1 A2 n2 c2 z d1 d2 _ ((H1.out.below HB0.out).more (by simp)) ((H2.out.below HB0.out).more (by simp)) m1 m2).mono ?_
  rintro e w2 ⟨rfl, hb⟩
  have HX1 := Lib.hid (HX0.out.below hb HX0.out.lt)
  have HB1 : Hid (Below w.heap.size w w2) := Lib.hid (HB0.out.trans (hb.mono HB0.out.size))
  have hz0 := HX1.out.lt
  clear hb HB0 HX0
  cases ef : circB (z, d1, d2)
  · have HR : Hid (degV (z, d1, d2) = -1) := Lib.hid (by simp [degV, ef])
    go_wp2
    go_ret
    exact ⟨ret_i HR.out.symm, HB1.out⟩
  obtain ⟨c0, c1', c2', c3', c4'⟩ := circB_iff ef
  simp only at c0 c1' c2' c3' c4'
  have q1 : n1 ≤ 16 := by have := l1.out; omega
  have q2 : n2 ≤ 16 := by have := l2.out; omega
  have HG : Hid (gatesK d1 z n1 = true) := Lib.hid (by have := l1.out; rw [this]; exact c3')
  have G4 : Hid (outsK d2 n1 n2 = true) := Lib.hid (by have e1 := l1.out; have e2 := l2.out; rw [e1, e2]; exact c4')
  have HR : Hid (degV (z, d1, d2) = min 1000 (mostK d2 (tellK dcutG d1 n1) n2)) := Lib.hid (by simp [degV, ef, l1.out, l2.out])
  have hmk := fun W => run_make1 (P := Try.prog) Try.underlying24 info_int rfl n1 (by omega) (by omega) W
  have b1 : w2.cell? ⟨w.heap.size, 1, none⟩ = some (.slice A1 n1 c1) := HX1.out.cell 1
  have HX2 := Lib.hid (HX1.out.alloc (.cells (Array.replicate n1 (.int .i64 0)) 3))
  have HO0 : Hid (Ow (w2.alloc (.cells (Array.replicate n1 (.int .i64 0)) 3)) w2.heap.size (w2.heap.size + 1) 3 1 (some ⟨w2.heap.size, 0, none⟩) n1 n1 (cI (tellK dcutG d1 0 ++ List.replicate (n1 - 0) 0))) := Lib.hid (by
    have := Ow.zeros w2 (.int .i64 0) 3 n1
    rw [cI_zeros] at this; exact this)
  have HB2 := Lib.hid (HB1.out.alloc (Nat.le_of_lt hz0) (.cells (Array.replicate n1 (.int .i64 0)) 3))
  have HS2 : Hid (w2.heap.size < (w2.alloc (.cells (Array.replicate n1 (.int .i64 0)) 3)).heap.size) := Lib.hid (by simp)
  clear c0 c1' c2' c3' c4' ef HX1 HB1
  go_wp2
  go_loopw [4] (fun i wr => ∃ k : Nat, k ≤ n1 ∧ i = .int .i64 k ∧ Hid (Ow wr w2.heap.size (w2.heap.size + 1) 3 1 (some ⟨w2.heap.size, 0, none⟩) n1 n1 (cI (tellK dcutG d1 k ++ List.replicate (n1 - k) 0))) ∧ Hid (Bx wr w.heap.size #[.int .i64 z, .slice A1 n1 c1, .slice A2 n2 c2] 26) ∧ Hid (Below w.heap.size w wr) ∧ Hid (w2.heap.size < wr.heap.size)) (fun i _ => n1 - (intOf i).toNat)
  case atStart => exact ⟨0, Nat.zero_le _, rfl, HO0, HX2, HB2, HS2⟩
  case round =>
    clear HX2 HO0 HB2 HS2 b1
    obtain ⟨k, hk, rfl, HO, HX, HB, HS⟩ := hrel
    have b0 : wr.cell? ⟨w.heap.size, 0, none⟩ = some (.int .i64 z) := HX.out.cell 0
    have b1 : wr.cell? ⟨w.heap.size, 1, none⟩ = some (.slice A1 n1 c1) := HX.out.cell 1
    have b2 : wr.cell? ⟨w.heap.size, 2, none⟩ = some (.slice A2 n2 c2) := HX.out.cell 2
    by_cases hlt : k < n1
    · obtain ⟨a, x, y, u, hA, hab, hx0, hy0, hu0, HP⟩ := H1.out.GateAt hlt
      have hx := (HB.out.cell (p := a.add (k * 3)) (by rw [add_block]; exact hab)).trans hx0
      have hy := (HB.out.cell (p := ⟨(a.add (k * 3)).block, (a.add (k * 3)).off + 1, none⟩) (by rw [add_block]; exact hab)).trans hy0
      have hu := (HB.out.cell (p := ⟨(a.add (k * 3)).block, (a.add (k * 3)).off + 2, none⟩) (by rw [add_block]; exact hab)).trans hu0
      have i0 : (0 : Int) ≤ (k : Int) := by omega
      have i1 : (k : Int) < (n1 : Int) := by omega
      have HQ : Hid (gt d1 k = (x, y, u)) := Lib.hid HP.out
      have hkd := gateB_kind (gatesK_at HG.out hlt)
      rw [HQ.out] at hkd
      simp only at hkd
      have HV := Lib.hid (fun j => dcut_bd HG.out k (by omega) j)
      subst hA
      clear hx0 hy0 hu0 HP b0 b2
      have hal : Below wr.heap.size wr (wr.alloc (.cells #[.int .i64 x, .int .i64 y, .int .i64 u] 30)) := (Below.refl _ _).alloc (Nat.le_refl _) _
      have HO1 := Lib.hid (HO.out.below hal HS.out)
      have HX1 := Lib.hid (HX.out.alloc (.cells #[.int .i64 x, .int .i64 y, .int .i64 u] 30))
      have HB1 := Lib.hid (HB.out.alloc HB.out.size (.cells #[.int .i64 x, .int .i64 y, .int .i64 u] 30))
      have HS1 : Hid (w2.heap.size < (wr.alloc (.cells #[.int .i64 x, .int .i64 y, .int .i64 u] 30)).heap.size) := Lib.hid (by have := HS.out; simp; omega)
      have HY : Hid (Bx (wr.alloc (.cells #[.int .i64 x, .int .i64 y, .int .i64 u] 30)) wr.heap.size #[.int .i64 x, .int .i64 y, .int .i64 u] 30) := Lib.hid (Bx.new _ _ _)
      have hf := HO1.out.free (by omega) k
      have HST : Hid (dcutG (x, y, u) (tellK dcutG d1 k) = dcutG (gt d1 k) (tellK dcutG d1 k)) := Lib.hid (by rw [HQ.out])
      have HZ0 : Hid (dcutG (x, y, u) (tellK dcutG d1 k) = 0 → tellK dcutG d1 (k + 1) ++ List.replicate (n1 - (k + 1)) 0 = tellK dcutG d1 k ++ List.replicate (n1 - k) 0) := Lib.hid (fun h0 => by
        rw [tellK, ← HST.out, h0, List.append_assoc, show n1 - k = (n1 - (k + 1)) + 1 by omega, List.replicate_succ, List.singleton_append])
      obtain ⟨v0, hv0, HV0⟩ := HO1.out.intAt (k := k) hlt
      have HSET : ∀ v : Int, v = dcutG (x, y, u) (tellK dcutG d1 k) → Hid (Ow ((wr.alloc (.cells #[.int .i64 x, .int .i64 y, .int .i64 u] 30)).setCell ⟨w2.heap.size, k, none⟩ (.int .i64 v)) w2.heap.size (w2.heap.size + 1) 3 1 (some ⟨w2.heap.size, 0, none⟩) n1 n1 (cI (tellK dcutG d1 (k + 1) ++ List.replicate (n1 - (k + 1)) 0))) ∧ Hid (Bx ((wr.alloc (.cells #[.int .i64 x, .int .i64 y, .int .i64 u] 30)).setCell ⟨w2.heap.size, k, none⟩ (.int .i64 v)) w.heap.size #[.int .i64 z, .slice (some a) n1 c1, .slice A2 n2 c2] 26) ∧ Hid (Below w.heap.size w ((wr.alloc (.cells #[.int .i64 x, .int .i64 y, .int .i64 u] 30)).setCell ⟨w2.heap.size, k, none⟩ (.int .i64 v))) ∧ Hid (w2.heap.size < ((wr.alloc (.cells #[.int .i64 x, .int .i64 y, .int .i64 u] 30)).setCell ⟨w2.heap.size, k, none⟩ (.int .i64 v)).heap.size) := fun v hv => by
        refine ⟨Lib.hid ?_, Lib.hid (HX1.out.other ⟨w2.heap.size, k, none⟩ _ (by simp; omega)), Lib.hid (HB1.out.setCell (p := ⟨w2.heap.size, k, none⟩) (by simp; omega) _), Lib.hid (by rw [World.size_setCell]; exact HS1.out)⟩
        have := HO1.out.set k (.int .i64 v)
        rw [cI_set] at this
        rw [← tell_step dcutG d1 hlt, HQ.out, ← hv]
        exact this
      clear hal
      rcases hkd with ⟨rfl, y0, y1, rfl⟩ | ⟨rfl, y0, y1, rfl⟩ | ⟨hk3, y0, y1, u0, u1⟩
      · obtain ⟨HO2, HX2, HB2, HS2⟩ := HSET 1 (by simp [dcutG])
        clear HO HX HB HS HO1 HX1 HB1 HS1 HSET HZ0 HST
        go_wp2
        go_roundw
        case rel => exact ⟨k + 1, by omega, by go_num, HO2, HX2, HB2, HS2⟩
        case measure => simp [intOf] <;> omega
      · have HE := HZ0.out (by simp [dcutG])
        have HO2 := Lib.hid HO1.out
        rw [← HE] at HO2
        have HX2 := Lib.hid HX1.out
        have HB2 := Lib.hid HB1.out
        have HS2 := Lib.hid HS1.out
        clear HO HX HB HS HO1 HX1 HB1 HS1 HSET HZ0 HST HE
        go_wp2
        go_roundw
        case rel => exact ⟨k + 1, by omega, by go_num, HO2, HX2, HB2, HS2⟩
        case measure => simp [intOf] <;> omega
      · obtain ⟨m1, rfl⟩ : ∃ m : Nat, y = m := ⟨y.toNat, by omega⟩
        obtain ⟨m2, rfl⟩ : ∃ m : Nat, u = m := ⟨u.toNat, by omega⟩
        obtain ⟨p, hp, HP0⟩ := HO1.out.intAt (k := m1) (by omega)
        obtain ⟨q, hq, HQ0⟩ := HO1.out.intAt (k := m2) (by omega)
        have HPP : Hid (p = (tellK dcutG d1 k).getD m1 0) := Lib.hid (by rw [HP0.out, tell_get _ _ (by omega)])
        have HQQ : Hid (q = (tellK dcutG d1 k).getD m2 0) := Lib.hid (by rw [HQ0.out, tell_get _ _ (by omega)])
        have p0 := (HV.out m1).1
        have p1 := (HV.out m1).2
        have q0 := (HV.out m2).1
        have q1' := (HV.out m2).2
        rw [← HPP.out] at p0 p1
        rw [← HQQ.out] at q0 q1'
        have j0 : (m1 : Int) < (n1 : Int) := by omega
        have j1 : (m2 : Int) < (n1 : Int) := by omega
        clear HP0 HQ0
        rcases hk3 with rfl | rfl | rfl
        · obtain ⟨HO2, HX2, HB2, HS2⟩ := HSET (if p < q then q else p) (by rw [if_max, HPP.out, HQQ.out]; simp [dcutG])
          clear HO HX HB HS HO1 HX1 HB1 HS1 HSET HPP HQQ HZ0 HST
          go_wp2
          obtain ⟨wo, hwo⟩ : ∃ wo, Hid (wr.alloc (.cells #[.int .i64 2, .int .i64 m1, .int .i64 m2] 30) = wo) := ⟨_, Lib.hid rfl⟩
          rw [hwo.out] at hf hv0 hp hq HY HO2 HX2 HB2 HS2 ⊢
          have g0 : wo.cell? ⟨wr.heap.size, 0, none⟩ = some (.int .i64 2) := HY.out.cell 0
          have g1 : wo.cell? ⟨wr.heap.size, 1, none⟩ = some (.int .i64 m1) := HY.out.cell 1
          have g2 : wo.cell? ⟨wr.heap.size, 2, none⟩ = some (.int .i64 m2) := HY.out.cell 2
          replace HO2 := Lib.hid (HO2.out.drewN 1)
          replace HX2 : Hid (Bx ((wo.setCell ⟨w2.heap.size, k, none⟩ (.int .i64 (if p < q then q else p))).drewN 1) w.heap.size _ _) := Lib.hid HX2.out
          replace HB2 := Lib.hid (below_drewN HB2.out 1)
          replace HS2 : Hid (w2.heap.size < ((wo.setCell ⟨w2.heap.size, k, none⟩ (.int .i64 (if p < q then q else p))).drewN 1).heap.size) := Lib.hid HS2.out
          clear hwo
          go_still_tail 13, (by kernel_rfl)
          change wpList _ _ _ _ _ wo.drew
          go_wp2
          go_roundw
          case rel => exact ⟨k + 1, by omega, by go_num, HO2, HX2, HB2, HS2⟩
          case measure => simp [intOf] <;> omega
        · obtain ⟨HO2, HX2, HB2, HS2⟩ := HSET (if p < q then q else p) (by rw [if_max, HPP.out, HQQ.out]; simp [dcutG])
          clear HO HX HB HS HO1 HX1 HB1 HS1 HSET HPP HQQ HZ0 HST
          go_wp2
          obtain ⟨wo, hwo⟩ : ∃ wo, Hid (wr.alloc (.cells #[.int .i64 3, .int .i64 m1, .int .i64 m2] 30) = wo) := ⟨_, Lib.hid rfl⟩
          rw [hwo.out] at hf hv0 hp hq HY HO2 HX2 HB2 HS2 ⊢
          have g0 : wo.cell? ⟨wr.heap.size, 0, none⟩ = some (.int .i64 3) := HY.out.cell 0
          have g1 : wo.cell? ⟨wr.heap.size, 1, none⟩ = some (.int .i64 m1) := HY.out.cell 1
          have g2 : wo.cell? ⟨wr.heap.size, 2, none⟩ = some (.int .i64 m2) := HY.out.cell 2
          replace HO2 := Lib.hid (HO2.out.drewN 1)
          replace HX2 : Hid (Bx ((wo.setCell ⟨w2.heap.size, k, none⟩ (.int .i64 (if p < q then q else p))).drewN 1) w.heap.size _ _) := Lib.hid HX2.out
          replace HB2 := Lib.hid (below_drewN HB2.out 1)
          replace HS2 : Hid (w2.heap.size < ((wo.setCell ⟨w2.heap.size, k, none⟩ (.int .i64 (if p < q then q else p))).drewN 1).heap.size) := Lib.hid HS2.out
          clear hwo
          go_still_tail 13, (by kernel_rfl)
          change wpList _ _ _ _ _ wo.drew
          go_wp2
          go_roundw
          case rel => exact ⟨k + 1, by omega, by go_num, HO2, HX2, HB2, HS2⟩
          case measure => simp [intOf] <;> omega
        · obtain ⟨HO2, HX2, HB2, HS2⟩ := HSET (if p + q < 1000 then p + q else 1000) (by rw [if_min, HPP.out, HQQ.out]; simp [dcutG])
          have im : IntKind.i64.wrap (p + q) = p + q := IntWalk.i64_in _ (by omega)
          clear HO HX HB HS HO1 HX1 HB1 HS1 HSET HPP HQQ HZ0 HST
          go_wp2
          obtain ⟨wo, hwo⟩ : ∃ wo, Hid (wr.alloc (.cells #[.int .i64 4, .int .i64 m1, .int .i64 m2] 30) = wo) := ⟨_, Lib.hid rfl⟩
          rw [hwo.out] at hf hv0 hp hq HY HO2 HX2 HB2 HS2 ⊢
          have g0 : wo.cell? ⟨wr.heap.size, 0, none⟩ = some (.int .i64 4) := HY.out.cell 0
          have g1 : wo.cell? ⟨wr.heap.size, 1, none⟩ = some (.int .i64 m1) := HY.out.cell 1
          have g2 : wo.cell? ⟨wr.heap.size, 2, none⟩ = some (.int .i64 m2) := HY.out.cell 2
          replace HO2 := Lib.hid (HO2.out.drewN 1)
          replace HX2 : Hid (Bx ((wo.setCell ⟨w2.heap.size, k, none⟩ (.int .i64 (if p + q < 1000 then p + q else 1000))).drewN 1) w.heap.size _ _) := Lib.hid HX2.out
          replace HB2 := Lib.hid (below_drewN HB2.out 1)
          replace HS2 : Hid (w2.heap.size < ((wo.setCell ⟨w2.heap.size, k, none⟩ (.int .i64 (if p + q < 1000 then p + q else 1000))).drewN 1).heap.size) := Lib.hid HS2.out
          clear hwo
          go_still_tail 14, (by kernel_rfl)
          change wpList _ _ _ _ _ wo.drew
          go_wp2
          go_roundw
          case rel => exact ⟨k + 1, by omega, by go_num, HO2, HX2, HB2, HS2⟩
          case measure => simp [intOf] <;> omega
    · have hkn : k = n1 := by omega
      have HRD : Hid (Rd wr wr.heap.size 1 (some ⟨w2.heap.size, 0, none⟩) n1 (cI (tellK dcutG d1 n1))) := Lib.hid (by
        have := HO.out
        rw [hkn, Nat.sub_self, List.replicate_zero, List.append_nil] at this
        exact this.rd.more HS.out)
      have HM := Lib.hid (most_bd (os := d2) (v := tellK dcutG d1 n1) (t := 1000) (by omega) (fun j => by have := dcut_bd HG.out n1 (Nat.le_refl _) j; omega) n2)
      clear HO hkn
      go_wp2_with fail
      refine (s_l8Most A1 n1 c1 A2 n2 c2 (some ⟨w2.heap.size, 0, none⟩) n1 n1 z d2 (tellK dcutG d1 n1) _ ((H2.out.below HB.out).more HB.out.size) HRD.out q2 G4.out q1).mono ?_
      rintro e w3 ⟨rfl, hb⟩
      have HB3 : Hid (Below w.heap.size w w3) := Lib.hid (HB.out.trans (hb.mono HB.out.size))
      clear hb HRD HX HB b0 b1 b2
      by_cases hM : mostK d2 (tellK dcutG d1 n1) n2 < 1000
      · have HR2 : Hid (mostK d2 (tellK dcutG d1 n1) n2 = degV (z, d1, d2)) := Lib.hid (by rw [HR.out]; omega)
        go_wp2
        go_ret
        exact ⟨ret_i HR2.out, HB3.out⟩
      · have HR2 : Hid (1000 = degV (z, d1, d2)) := Lib.hid (by rw [HR.out]; omega)
        go_wp2
        go_ret
        exact ⟨ret_i HR2.out, HB3.out⟩
end Go.Proofs.Ytbmjepmlalfpgaa
