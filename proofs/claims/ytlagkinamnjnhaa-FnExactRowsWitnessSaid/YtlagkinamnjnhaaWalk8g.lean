/- Chapter 8 in the model: the values of gates. -/
import Derived.Test.YtlagkinamnjnhaaWalk8f
namespace Go.Proofs.Ytlagkinamnjnhaa
open Go.RowKit
set_option maxRecDepth 100000

set_option maxHeartbeats 16000000 in
theorem s_l8Values (A1 : Option Addr) (n1 c1 : Nat) (A2 : Option Addr) (n2 c2 : Nat) (A3 : Option Addr) (n3 c3 : Nat) (z : Int) (d1 : List (Int × Int × Int)) (ins : List Int) (w : World) (h1 : Rd w w.heap.size 3 A1 n1 (cGate d1)) (h3 : Rd w w.heap.size 1 A3 n3 (cI ins)) (hn1 : n1 ≤ 16) (hg : gatesK d1 z n1 = true) (hi : Nums ins) (hz : z = n3) :
    Calls Try.prog 39 #[.agg #[.int .i64 z, .slice A1 n1 c1, .slice A2 n2 c2], .slice A3 n3 c3] w fun e w' => ∃ A c, e = .returned (.slice A n1 c) ∧ OwIntS w' w.heap.size w'.heap.size (.slice A n1 c) (tellK (valG ins) d1 n1) ∧ Below w.heap.size w w' := by
  have H1 := Lib.hid h1
  have H3 := Lib.hid h3
  have HG := Lib.hid hg
  have HI := Lib.hid hi
  have HZ := Lib.hid hz
  clear h1 h3 hg hi hz
  have hmk := fun W => run_make1 (P := Try.prog) Try.underlying23 info_int rfl n1 (by omega) (by omega) W
  have HX0 : Hid (Bx ((w.alloc (.cells #[.int .i64 z, .slice A1 n1 c1, .slice A2 n2 c2] 32)).alloc (.cells (Array.replicate n1 (.int .i64 0)) 3)) w.heap.size #[.int .i64 z, .slice A1 n1 c1, .slice A2 n2 c2] 32) := Lib.hid ((Bx.new _ _ _).alloc _)
  have HO0 : Hid (Ow ((w.alloc (.cells #[.int .i64 z, .slice A1 n1 c1, .slice A2 n2 c2] 32)).alloc (.cells (Array.replicate n1 (.int .i64 0)) 3)) (w.heap.size + 1) (w.heap.size + 1 + 1) 3 1 (some ⟨w.heap.size + 1, 0, none⟩) n1 n1 (cI (tellK (valG ins) d1 0 ++ List.replicate (n1 - 0) 0))) := Lib.hid (by
    have := Ow.zeros (w.alloc (.cells #[.int .i64 z, .slice A1 n1 c1, .slice A2 n2 c2] 32)) (.int .i64 0) 3 n1
    rw [World.size_alloc, cI_zeros] at this; exact this)
  have HB0 : Hid (Below w.heap.size w ((w.alloc (.cells #[.int .i64 z, .slice A1 n1 c1, .slice A2 n2 c2] 32)).alloc (.cells (Array.replicate n1 (.int .i64 0)) 3))) := Lib.hid (((Below.refl _ _).alloc (Nat.le_refl _) _).alloc (by simp) _)
  have HS0 : Hid (w.heap.size + 1 < ((w.alloc (.cells #[.int .i64 z, .slice A1 n1 c1, .slice A2 n2 c2] 32)).alloc (.cells (Array.replicate n1 (.int .i64 0)) 3)).heap.size) := Lib.hid (by simp)
  go_enter Try.func39, Try.ntmps39
  go_wp2
  go_loopw [6] (fun i wr => ∃ k : Nat, k ≤ n1 ∧ i = .int .i64 k ∧ Hid (Ow wr (w.heap.size + 1) (w.heap.size + 1 + 1) 3 1 (some ⟨w.heap.size + 1, 0, none⟩) n1 n1 (cI (tellK (valG ins) d1 k ++ List.replicate (n1 - k) 0))) ∧ Hid (Bx wr w.heap.size #[.int .i64 z, .slice A1 n1 c1, .slice A2 n2 c2] 32) ∧ Hid (Below w.heap.size w wr) ∧ Hid (w.heap.size + 1 < wr.heap.size)) (fun i _ => n1 - (intOf i).toNat)
  case atStart => exact ⟨0, Nat.zero_le _, rfl, HO0, HX0, HB0, HS0⟩
  case round =>
    clear HX0 HO0 HB0 HS0
    obtain ⟨k, hk, rfl, HO, HX, HB, HS⟩ := hrel
    have b1 : wr.cell? ⟨w.heap.size, 1, none⟩ = some (.slice A1 n1 c1) := HX.out.cell 1
    by_cases hlt : k < n1
    · obtain ⟨a, x, y, u, hA, hab, hx0, hy0, hu0, HP⟩ := H1.out.GateAt hlt
      have hx := (HB.out.cell (p := a.add (k * 3)) (by rw [add_block]; exact hab)).trans hx0
      have hy := (HB.out.cell (p := ⟨(a.add (k * 3)).block, (a.add (k * 3)).off + 1, none⟩) (by rw [add_block]; exact hab)).trans hy0
      have hu := (HB.out.cell (p := ⟨(a.add (k * 3)).block, (a.add (k * 3)).off + 2, none⟩) (by rw [add_block]; exact hab)).trans hu0
      have i0 : (0 : Int) ≤ (k : Int) := by omega
      have i1 : (k : Int) < (n1 : Int) := by omega
      have HQ : Hid (gt d1 k = (x, y, u)) := Lib.hid HP.out
      have hkd := gateB_kind (gatesK_at HG.out hlt)
      rw [HQ.out] at hkd
      simp only at hkd
      have HV := Lib.hid (val_bd HG.out HI.out k (by omega))
      subst hA
      clear hx0 hy0 hu0 HP
      have hal : Below wr.heap.size wr (wr.alloc (.cells #[.int .i64 x, .int .i64 y, .int .i64 u] 55)) := (Below.refl _ _).alloc (Nat.le_refl _) _
      have HO1 := Lib.hid (HO.out.below hal HS.out)
      have HX1 := Lib.hid (HX.out.alloc (.cells #[.int .i64 x, .int .i64 y, .int .i64 u] 55))
      have HB1 := Lib.hid (HB.out.alloc HB.out.size (.cells #[.int .i64 x, .int .i64 y, .int .i64 u] 55))
      have HS1 : Hid (w.heap.size + 1 < (wr.alloc (.cells #[.int .i64 x, .int .i64 y, .int .i64 u] 55)).heap.size) := Lib.hid (by have := HS.out; simp; omega)
      have HY : Hid (Bx (wr.alloc (.cells #[.int .i64 x, .int .i64 y, .int .i64 u] 55)) wr.heap.size #[.int .i64 x, .int .i64 y, .int .i64 u] 55) := Lib.hid (Bx.new _ _ _)
      have hf := HO1.out.free (by omega) k
      obtain ⟨v0, hv0⟩ : ∃ v, (wr.alloc (.cells #[.int .i64 x, .int .i64 y, .int .i64 u] 55)).cell? ⟨w.heap.size + 1, k, none⟩ = some v := ⟨_, HO1.out.cellAt (List.getElem?_eq_getElem (by have := HO1.out.1; omega))⟩
      have HSET : ∀ v : Int, v = valG ins (x, y, u) (tellK (valG ins) d1 k) → Hid (Ow ((wr.alloc (.cells #[.int .i64 x, .int .i64 y, .int .i64 u] 55)).setCell ⟨w.heap.size + 1, k, none⟩ (.int .i64 v)) (w.heap.size + 1) (w.heap.size + 1 + 1) 3 1 (some ⟨w.heap.size + 1, 0, none⟩) n1 n1 (cI (tellK (valG ins) d1 (k + 1) ++ List.replicate (n1 - (k + 1)) 0))) ∧ Hid (Bx ((wr.alloc (.cells #[.int .i64 x, .int .i64 y, .int .i64 u] 55)).setCell ⟨w.heap.size + 1, k, none⟩ (.int .i64 v)) w.heap.size #[.int .i64 z, .slice (some a) n1 c1, .slice A2 n2 c2] 32) ∧ Hid (Below w.heap.size w ((wr.alloc (.cells #[.int .i64 x, .int .i64 y, .int .i64 u] 55)).setCell ⟨w.heap.size + 1, k, none⟩ (.int .i64 v))) ∧ Hid (w.heap.size + 1 < ((wr.alloc (.cells #[.int .i64 x, .int .i64 y, .int .i64 u] 55)).setCell ⟨w.heap.size + 1, k, none⟩ (.int .i64 v)).heap.size) := fun v hv => by
        refine ⟨Lib.hid ?_, Lib.hid (HX1.out.other ⟨w.heap.size + 1, k, none⟩ _ (by simp)), Lib.hid (HB1.out.setCell (p := ⟨w.heap.size + 1, k, none⟩) (by simp) _), Lib.hid (by rw [World.size_setCell]; exact HS1.out)⟩
        have := HO1.out.set k (.int .i64 v)
        rw [cI_set] at this
        rw [← tell_step (valG ins) d1 hlt, HQ.out, ← hv]
        exact this
      clear hal
      rcases hkd with ⟨rfl, y0, y1, rfl⟩ | ⟨rfl, y0, y1, rfl⟩ | ⟨hk3, y0, y1, u0, u1⟩
      · obtain ⟨m, rfl⟩ : ∃ m : Nat, y = m := ⟨y.toNat, by omega⟩
        have hm : m < n3 := by have := HZ.out; omega
        obtain ⟨a3, v, hA3, hab3, hv3, HV3⟩ := H3.out.intAt hm
        have hv := (HB1.out.cell (p := a3.add m) (by rw [add_block]; exact hab3)).trans hv3
        obtain ⟨HO2, HX2, HB2, HS2⟩ := HSET v (by rw [HV3.out]; simp [valG])
        have j0 : (m : Int) < (n3 : Int) := by omega
        subst hA3
        clear hv3 HO HX HB HS HO1 HX1 HB1 HS1 HSET
        go_wp2
        go_roundw
        case rel => exact ⟨k + 1, by omega, by go_num, HO2, HX2, HB2, HS2⟩
        case measure => simp [intOf] <;> omega
      · obtain ⟨HO2, HX2, HB2, HS2⟩ := HSET y (by simp [valG])
        clear HO HX HB HS HO1 HX1 HB1 HS1 HSET
        go_wp2
        go_roundw
        case rel => exact ⟨k + 1, by omega, by go_num, HO2, HX2, HB2, HS2⟩
        case measure => simp [intOf] <;> omega
      · obtain ⟨m1, rfl⟩ : ∃ m : Nat, y = m := ⟨y.toNat, by omega⟩
        obtain ⟨m2, rfl⟩ : ∃ m : Nat, u = m := ⟨u.toNat, by omega⟩
        obtain ⟨p, hp, HP0⟩ := HO1.out.intAt (k := m1) (by omega)
        obtain ⟨q, hq, HQ0⟩ := HO1.out.intAt (k := m2) (by omega)
        have HPP : Hid (p = (tellK (valG ins) d1 k).getD m1 0) := Lib.hid (by rw [HP0.out, tell_get _ _ (by omega)])
        have HQQ : Hid (q = (tellK (valG ins) d1 k).getD m2 0) := Lib.hid (by rw [HQ0.out, tell_get _ _ (by omega)])
        have p0 : 0 ≤ p := by rw [HPP.out]; exact (HV.out m1).1
        have p1 : p ≤ 112 := by rw [HPP.out]; exact (HV.out m1).2
        have q0 : 0 ≤ q := by rw [HQQ.out]; exact (HV.out m2).1
        have q1 : q ≤ 112 := by rw [HQQ.out]; exact (HV.out m2).2
        have j0 : (m1 : Int) < (n1 : Int) := by omega
        have j1 : (m2 : Int) < (n1 : Int) := by omega
        clear HP0 HQ0
        rcases hk3 with rfl | rfl | rfl
        · obtain ⟨HO2, HX2, HB2, HS2⟩ := HSET ((p + q) % 113) (by rw [HPP.out, HQQ.out]; simp [valG])
          have im : IntKind.i64.wrap (p + q) = p + q := IntWalk.i64_in _ (by omega)
          have ir : (p + q).tmod 113 = (p + q) % 113 := Int.tmod_eq_emod_of_nonneg (by omega)
          clear HO HX HB HS HO1 HX1 HB1 HS1 HSET HPP HQQ
          go_wp2
          obtain ⟨wo, hwo⟩ : ∃ wo, Hid (wr.alloc (.cells #[.int .i64 2, .int .i64 m1, .int .i64 m2] 55) = wo) := ⟨_, Lib.hid rfl⟩
          rw [hwo.out] at hf hv0 hp hq HY HO2 HX2 HB2 HS2 ⊢
          have g1 : wo.cell? ⟨wr.heap.size, 1, none⟩ = some (.int .i64 m1) := HY.out.cell 1
          have g2 : wo.cell? ⟨wr.heap.size, 2, none⟩ = some (.int .i64 m2) := HY.out.cell 2
          replace HO2 := Lib.hid (HO2.out.drewN 1)
          replace HX2 : Hid (Bx ((wo.setCell ⟨w.heap.size + 1, k, none⟩ (.int .i64 ((p + q) % 113))).drewN 1) w.heap.size _ _) := Lib.hid HX2.out
          replace HB2 := Lib.hid (below_drewN HB2.out 1)
          replace HS2 : Hid (w.heap.size + 1 < ((wo.setCell ⟨w.heap.size + 1, k, none⟩ (.int .i64 ((p + q) % 113))).drewN 1).heap.size) := Lib.hid HS2.out
          clear hwo
          go_still_tail 14, (by kernel_rfl)
          change wpList _ _ _ _ _ wo.drew
          go_wp2
          go_roundw
          case rel => exact ⟨k + 1, by omega, by go_num, HO2, HX2, HB2, HS2⟩
          case measure => simp [intOf] <;> omega
        · obtain ⟨HO2, HX2, HB2, HS2⟩ := HSET ((p - q) % 113) (by rw [HPP.out, HQQ.out]; simp [valG])
          clear HO HX HB HS HO1 HX1 HB1 HS1 HSET HPP HQQ
          go_wp2
          obtain ⟨wo, hwo⟩ : ∃ wo, Hid (wr.alloc (.cells #[.int .i64 3, .int .i64 m1, .int .i64 m2] 55) = wo) := ⟨_, Lib.hid rfl⟩
          rw [hwo.out] at hf hv0 hp hq HY HO2 HX2 HB2 HS2 ⊢
          have g1 : wo.cell? ⟨wr.heap.size, 1, none⟩ = some (.int .i64 m1) := HY.out.cell 1
          have g2 : wo.cell? ⟨wr.heap.size, 2, none⟩ = some (.int .i64 m2) := HY.out.cell 2
          replace HO2 := Lib.hid (HO2.out.drewN 1)
          replace HX2 : Hid (Bx ((wo.setCell ⟨w.heap.size + 1, k, none⟩ (.int .i64 ((p - q) % 113))).drewN 1) w.heap.size _ _) := Lib.hid HX2.out
          replace HB2 := Lib.hid (below_drewN HB2.out 1)
          replace HS2 : Hid (w.heap.size + 1 < ((wo.setCell ⟨w.heap.size + 1, k, none⟩ (.int .i64 ((p - q) % 113))).drewN 1).heap.size) := Lib.hid HS2.out
          clear hwo
          go_still_tail 13, (by kernel_rfl)
          still_call (same_ (s_l1Sub _ _ _ p0 p1 q0 q1))
          repeat still_step
          refine wpStill_nil ?_
          change wpList _ _ _ _ _ wo.drew
          go_wp2
          go_roundw
          case rel => exact ⟨k + 1, by omega, by go_num, HO2, HX2, HB2, HS2⟩
          case measure => simp [intOf] <;> omega
        · obtain ⟨HO2, HX2, HB2, HS2⟩ := HSET (p * q % 113) (by rw [HPP.out, HQQ.out]; simp [valG])
          obtain ⟨t0, t1⟩ := mul_bd p q p0 p1 q0 q1
          have im : IntKind.i64.wrap (p * q) = p * q := IntWalk.i64_in _ (by omega)
          have ir : (p * q).tmod 113 = p * q % 113 := Int.tmod_eq_emod_of_nonneg t0
          clear HO HX HB HS HO1 HX1 HB1 HS1 HSET HPP HQQ
          go_wp2
          obtain ⟨wo, hwo⟩ : ∃ wo, Hid (wr.alloc (.cells #[.int .i64 4, .int .i64 m1, .int .i64 m2] 55) = wo) := ⟨_, Lib.hid rfl⟩
          rw [hwo.out] at hf hv0 hp hq HY HO2 HX2 HB2 HS2 ⊢
          have g1 : wo.cell? ⟨wr.heap.size, 1, none⟩ = some (.int .i64 m1) := HY.out.cell 1
          have g2 : wo.cell? ⟨wr.heap.size, 2, none⟩ = some (.int .i64 m2) := HY.out.cell 2
          replace HO2 := Lib.hid (HO2.out.drewN 1)
          replace HX2 : Hid (Bx ((wo.setCell ⟨w.heap.size + 1, k, none⟩ (.int .i64 (p * q % 113))).drewN 1) w.heap.size _ _) := Lib.hid HX2.out
          replace HB2 := Lib.hid (below_drewN HB2.out 1)
          replace HS2 : Hid (w.heap.size + 1 < ((wo.setCell ⟨w.heap.size + 1, k, none⟩ (.int .i64 (p * q % 113))).drewN 1).heap.size) := Lib.hid HS2.out
          clear hwo
          go_still_tail 14, (by kernel_rfl)
          change wpList _ _ _ _ _ wo.drew
          go_wp2
          go_roundw
          case rel => exact ⟨k + 1, by omega, by go_num, HO2, HX2, HB2, HS2⟩
          case measure => simp [intOf] <;> omega
    · have hkn : k = n1 := by omega
      have HOF : Hid (OwIntS wr w.heap.size wr.heap.size (.slice (some ⟨w.heap.size + 1, 0, none⟩) n1 n1) (tellK (valG ins) d1 n1)) := Lib.hid (by
        have := HO.out
        rw [hkn, Nat.sub_self, List.replicate_zero, List.append_nil] at this
        exact ⟨by rw [tellK_length]; omega, _, _, _, rfl, this.widen (by omega) HS.out⟩)
      clear HO hkn
      go_wp2
      go_ret
      exact ⟨_, _, rfl, HOF.out, HB.out⟩
end Go.Proofs.Ytlagkinamnjnhaa
