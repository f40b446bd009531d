import Derived.Test.YtbmjepmlalfpgaaWalk8e
import Derived.Test.YtbmjepmlalfpgaaWalk3b
import Derived.Test.YtbmjepmlalfpgaaDraw3
import Derived.Test.YtbmjepmlalfpgaaBx
import Derived.Deep.RegionHeld3
import Derived.Test.YtbmjepmlalfpgaaCircuit
import Derived.Test.YtbmjepmlalfpgaaMath10
import Derived.Test.YtbmjepmlalfpgaaFace2b
import Derived.Test.YtbmjepmlalfpgaaWalk5e
import Derived.RangeFuncNested
import Derived.RangeFuncCalls
import Derived.RangeFuncLeaves
import Derived.Shelf.Abstract
import Derived.OwnWalkIn
import Derived.TacticsInMore
import Derived.LoopNIn
import Derived.LoopIn
import Derived.Deep.RegionWith
import Derived.Test.YtbmjepmlalfpgaaDraw2b
import Derived.Test.YtbmjepmlalfpgaaLaw
/- Chapter 8: CircuitOk of both sides as the laws meet it; inputs that fit. -/
namespace Go.Proofs.Ytbmjepmlalfpgaa
open Go.RowKit
set_option maxRecDepth 100000

theorem RdGateS.n {w : World} {hi : Nat} {A : Option Addr} {n c : Nat} {d : List (Int × Int × Int)} (h : RdGateS w hi (.slice A n c) d) : Rd w hi 3 A n (cGate d) ∧ n = d.length := by
  obtain ⟨A', n', c', e, _, r⟩ := h
  injection e with e1 e2 e3; subst e1; subst e2; subst e3
  exact ⟨r, r.Gatelen.symm⟩
theorem RdIntS.n {w : World} {hi : Nat} {A : Option Addr} {n c : Nat} {d : List Int} (h : RdIntS w hi (.slice A n c) d) : Rd w hi 1 A n (cI d) ∧ n = d.length := by
  obtain ⟨A', n', c', e, _, r⟩ := h
  injection e with e1 e2 e3; subst e1; subst e2; subst e3
  exact ⟨r, r.len.symm⟩
theorem szC1 {d : Int × List (Int × Int × Int) × List Int} (h : szCircuit d ≤ 1048576) : d.2.1.length ≤ 1048576 := by unfold szCircuit szGateS at h; omega
theorem szC2 {d : Int × List (Int × Int × Int) × List Int} (h : szCircuit d ≤ 1048576) : d.2.2.length ≤ 1048576 := by unfold szCircuit szIntS at h; omega

theorem X_s_CircuitOk (v : Value) (d : Int × List (Int × Int × Int) × List Int) (w : World) (h : RdCircuit w w.heap.size v d) (hs : szCircuit d ≤ 1048576) :
    Calls Try.prog 30 #[v] w fun e w' => e = .returned (.bool (circB d)) ∧ Below w.heap.size w w' := by
  obtain ⟨A1, n1, c1, A2, n2, c2, rfl, h1, h2⟩ := h
  exact s_CircuitOk A1 n1 c1 A2 n2 c2 d.1 d.2.1 d.2.2 w h1.n.1 h2.n.1 (by have := szC1 hs; have := h1.n.2; omega) (by have := szC2 hs; have := h2.n.2; omega)

set_option maxHeartbeats 2000000 in
theorem X_i_CircuitOk (v : Value) (d : Int × List (Int × Int × Int) × List Int) (w : World) (h : RdCircuit w w.heap.size v d) (hs : szCircuit d ≤ 1048576) :
    Calls Try.prog 32 #[v] w fun e w' => e = .returned (.bool (circB d)) ∧ Below w.heap.size w w' := by
  obtain ⟨A1, n1, c1, A2, n2, c2, rfl, h1, h2⟩ := h
  have m1 : n1 ≤ 1048576 := by have := szC1 hs; have := h1.n.2; omega
  have m2 : n2 ≤ 1048576 := by have := szC2 hs; have := h2.n.2; omega
  have H1 := Lib.hid h1.n.1
  have H2 := Lib.hid h2.n.1
  clear h1 h2 hs
  obtain ⟨z, d1, d2⟩ := d
  have HB0 : Hid (Below w.heap.size w (w.alloc (.cells #[.int .i64 z, .slice A1 n1 c1, .slice A2 n2 c2] 26))) := Lib.hid ((Below.refl _ _).alloc (Nat.le_refl _) _)
  go_enter Try.func32, Try.ntmps32
  go_wp2_with fail
  refine (i_gatesOf A1 n1 c1 A2 n2 c2 z d1 d2 _ ((H1.out.below HB0.out).more (by simp)) ((H2.out.below HB0.out).more (by simp)) m1 m2).mono ?_
  rintro e w2 ⟨v, rfl, _, _, hb⟩
  have HB1 : Hid (Below w.heap.size w w2) := Lib.hid (HB0.out.trans (hb.mono HB0.out.size))
  clear hb HB0
  go_wp2
  go_ret
  exact ⟨rfl, HB1.out⟩

/-- inputs fit a circuit -/
def fitsB (d : Int × List (Int × Int × Int) × List Int) (ins : List Int) : Bool := circB d && (decide ((ins.length : Int) = d.1) && numsB ins)

set_option maxHeartbeats 4000000 in
theorem s_l8Fits (A1 : Option Addr) (n1 c1 : Nat) (A2 : Option Addr) (n2 c2 : Nat) (A3 : Option Addr) (n3 c3 : Nat) (z : Int) (d1 : List (Int × Int × Int)) (d2 ins : List Int) (w : World) (h1 : Rd w w.heap.size 3 A1 n1 (cGate d1)) (h2 : Rd w w.heap.size 1 A2 n2 (cI d2)) (h3 : Rd w w.heap.size 1 A3 n3 (cI ins)) (hn1 : n1 ≤ 1048576) (hn2 : n2 ≤ 1048576) (hn3 : n3 ≤ 1048576) :
    Calls Try.prog 80 #[.agg #[.int .i64 z, .slice A1 n1 c1, .slice A2 n2 c2], .slice A3 n3 c3] w fun e w' => e = .returned (.bool (fitsB (z, d1, d2) ins)) ∧ Below w.heap.size w w' := by
  have hl3 : Hid (ins.length = n3) := Lib.hid h3.len
  have H1 := Lib.hid h1
  have H2 := Lib.hid h2
  have H3 := Lib.hid h3
  clear h1 h2 h3
  have HX0 : Hid (Bx (w.alloc (.cells #[.int .i64 z, .slice A1 n1 c1, .slice A2 n2 c2] 26)) w.heap.size #[.int .i64 z, .slice A1 n1 c1, .slice A2 n2 c2] 26) := Lib.hid (Bx.new _ _ _)
  have HB0 : Hid (Below w.heap.size w (w.alloc (.cells #[.int .i64 z, .slice A1 n1 c1, .slice A2 n2 c2] 26))) := Lib.hid ((Below.refl _ _).alloc (Nat.le_refl _) _)
  go_enter Try.func80, Try.ntmps80
  go_wp2_with fail
  refine (s_CircuitOk A1 n1 c1 A2 n2 c2 z d1 d2 _ ((H1.out.below HB0.out).more (by simp)) ((H2.out.below HB0.out).more (by simp)) hn1 hn2).mono ?_
  rintro e w2 ⟨rfl, hb⟩
  have HX1 := Lib.hid (HX0.out.below hb HX0.out.lt)
  have HB1 : Hid (Below w.heap.size w w2) := Lib.hid (HB0.out.trans (hb.mono HB0.out.size))
  have H31 : Hid (Rd w2 w2.heap.size 1 A3 n3 (cI ins)) := Lib.hid ((H3.out.below HB1.out).more HB1.out.size)
  clear hb HB0 HX0
  have c0 : w2.cell? ⟨w.heap.size, 0, none⟩ = some (.int .i64 z) := HX1.out.cell 0
  cases eb : circB (z, d1, d2)
  · have HF : Hid (fitsB (z, d1, d2) ins = false) := Lib.hid (by simp [fitsB, eb])
    go_wp2
    go_ret
    exact ⟨ret_bool HF.out.symm, HB1.out⟩
  by_cases e2 : (n3 : Int) = z
  · have HF : Hid (fitsB (z, d1, d2) ins = numsB ins) := Lib.hid (by simp [fitsB, eb, hl3.out, e2])
    subst e2
    go_wp2_with fail
    refine (s_l1In A3 n3 c3 ins _ H31.out hn3).mono ?_
    rintro e w' ⟨rfl, rfl⟩
    go_wp2
    go_ret
    exact ⟨ret_bool HF.out.symm, HB1.out⟩
  · have HF : Hid (fitsB (z, d1, d2) ins = false) := Lib.hid (by simp [fitsB, eb, hl3.out, e2])
    go_wp2
    go_ret
    exact ⟨ret_bool HF.out.symm, HB1.out⟩

set_option maxHeartbeats 2000000 in
theorem i_insFit (A1 : Option Addr) (n1 c1 : Nat) (A2 : Option Addr) (n2 c2 : Nat) (A3 : Option Addr) (n3 c3 : Nat) (z : Int) (ins : List Int) (w : World) (h3 : Rd w w.heap.size 1 A3 n3 (cI ins)) (hn3 : n3 ≤ 1048576) :
    Calls Try.prog 82 #[.agg #[.int .i64 z, .slice A1 n1 c1, .slice A2 n2 c2], .slice A3 n3 c3] w fun e w' => e = .returned (.bool (decide ((ins.length : Int) = z) && numsB ins)) ∧ Below w.heap.size w w' := by
  have hl3 : Hid (ins.length = n3) := Lib.hid h3.len
  have H3 := Lib.hid h3
  clear h3
  have HB0 : Hid (Below w.heap.size w (w.alloc (.cells #[.int .i64 z, .slice A1 n1 c1, .slice A2 n2 c2] 26))) := Lib.hid ((Below.refl _ _).alloc (Nat.le_refl _) _)
  by_cases e2 : (n3 : Int) = z
  · have HF : Hid ((decide ((ins.length : Int) = z) && numsB ins) = numsB ins) := Lib.hid (by simp [hl3.out, e2])
    subst e2
    go_enter Try.func82, Try.ntmps82
    go_wp2_with fail
    refine (i_numbersOk A3 n3 c3 ins _ ((H3.out.below HB0.out).more (by simp)) hn3).mono ?_
    rintro e w' ⟨rfl, rfl⟩
    go_wp2
    go_ret
    exact ⟨ret_bool HF.out.symm, HB0.out⟩
  · have HF : Hid ((decide ((ins.length : Int) = z) && numsB ins) = false) := Lib.hid (by simp [hl3.out, e2])
    go_enter Try.func82, Try.ntmps82
    go_wp2
    go_ret
    exact ⟨ret_bool HF.out.symm, HB0.out⟩
end Go.Proofs.Ytbmjepmlalfpgaa

/- Chapter 8 in the model: the values of gates. -/
namespace Go.Proofs.Ytbmjepmlalfpgaa
open Go.RowKit
set_option maxRecDepth 100000

set_option maxHeartbeats 16000000 in
theorem s_l8Values (A1 : Option Addr) (n1 c1 : Nat) (A2 : Option Addr) (n2 c2 : Nat) (A3 : Option Addr) (n3 c3 : Nat) (z : Int) (d1 : List (Int × Int × Int)) (ins : List Int) (w : World) (h1 : Rd w w.heap.size 3 A1 n1 (cGate d1)) (h3 : Rd w w.heap.size 1 A3 n3 (cI ins)) (hn1 : n1 ≤ 16) (hg : gatesK d1 z n1 = true) (hi : Nums ins) (hz : z = n3) :
    Calls Try.prog 81 #[.agg #[.int .i64 z, .slice A1 n1 c1, .slice A2 n2 c2], .slice A3 n3 c3] w fun e w' => ∃ A c, e = .returned (.slice A n1 c) ∧ OwIntS w' w.heap.size w'.heap.size (.slice A n1 c) (tellK (valG ins) d1 n1) ∧ Below w.heap.size w w' := by
  have H1 := Lib.hid h1
  have H3 := Lib.hid h3
  have HG := Lib.hid hg
  have HI := Lib.hid hi
  have HZ := Lib.hid hz
  clear h1 h3 hg hi hz
  have hmk := fun W => run_make1 (P := Try.prog) Try.underlying24 info_int rfl n1 (by omega) (by omega) W
  have HX0 : Hid (Bx ((w.alloc (.cells #[.int .i64 z, .slice A1 n1 c1, .slice A2 n2 c2] 26)).alloc (.cells (Array.replicate n1 (.int .i64 0)) 3)) w.heap.size #[.int .i64 z, .slice A1 n1 c1, .slice A2 n2 c2] 26) := Lib.hid ((Bx.new _ _ _).alloc _)
  have HO0 : Hid (Ow ((w.alloc (.cells #[.int .i64 z, .slice A1 n1 c1, .slice A2 n2 c2] 26)).alloc (.cells (Array.replicate n1 (.int .i64 0)) 3)) (w.heap.size + 1) (w.heap.size + 1 + 1) 3 1 (some ⟨w.heap.size + 1, 0, none⟩) n1 n1 (cI (tellK (valG ins) d1 0 ++ List.replicate (n1 - 0) 0))) := Lib.hid (by
    have := Ow.zeros (w.alloc (.cells #[.int .i64 z, .slice A1 n1 c1, .slice A2 n2 c2] 26)) (.int .i64 0) 3 n1
    rw [World.size_alloc, cI_zeros] at this; exact this)
  have HB0 : Hid (Below w.heap.size w ((w.alloc (.cells #[.int .i64 z, .slice A1 n1 c1, .slice A2 n2 c2] 26)).alloc (.cells (Array.replicate n1 (.int .i64 0)) 3))) := Lib.hid (((Below.refl _ _).alloc (Nat.le_refl _) _).alloc (by simp) _)
  have HS0 : Hid (w.heap.size + 1 < ((w.alloc (.cells #[.int .i64 z, .slice A1 n1 c1, .slice A2 n2 c2] 26)).alloc (.cells (Array.replicate n1 (.int .i64 0)) 3)).heap.size) := Lib.hid (by simp)
  go_enter Try.func81, Try.ntmps81
  go_wp2
  go_loopw [6] (fun i wr => ∃ k : Nat, k ≤ n1 ∧ i = .int .i64 k ∧ Hid (Ow wr (w.heap.size + 1) (w.heap.size + 1 + 1) 3 1 (some ⟨w.heap.size + 1, 0, none⟩) n1 n1 (cI (tellK (valG ins) d1 k ++ List.replicate (n1 - k) 0))) ∧ Hid (Bx wr w.heap.size #[.int .i64 z, .slice A1 n1 c1, .slice A2 n2 c2] 26) ∧ Hid (Below w.heap.size w wr) ∧ Hid (w.heap.size + 1 < wr.heap.size)) (fun i _ => n1 - (intOf i).toNat)
  case atStart => exact ⟨0, Nat.zero_le _, rfl, HO0, HX0, HB0, HS0⟩
  case round =>
    clear HX0 HO0 HB0 HS0
    obtain ⟨k, hk, rfl, HO, HX, HB, HS⟩ := hrel
    have b1 : wr.cell? ⟨w.heap.size, 1, none⟩ = some (.slice A1 n1 c1) := HX.out.cell 1
    by_cases hlt : k < n1
    · obtain ⟨a, x, y, u, hA, hab, hx0, hy0, hu0, HP⟩ := H1.out.GateAt hlt
      have hx := (HB.out.cell (p := a.add (k * 3)) (by rw [add_block]; exact hab)).trans hx0
      have hy := (HB.out.cell (p := ⟨(a.add (k * 3)).block, (a.add (k * 3)).off + 1, none⟩) (by rw [add_block]; exact hab)).trans hy0
      have hu := (HB.out.cell (p := ⟨(a.add (k * 3)).block, (a.add (k * 3)).off + 2, none⟩) (by rw [add_block]; exact hab)).trans hu0
      have i0 : (0 : Int) ≤ (k : Int) := by omega
      have i1 : (k : Int) < (n1 : Int) := by omega
      have HQ : Hid (gt d1 k = (x, y, u)) := Lib.hid HP.out
      have hkd := gateB_kind (gatesK_at HG.out hlt)
      rw [HQ.out] at hkd
      simp only at hkd
      have HV := Lib.hid (val_bd HG.out HI.out k (by omega))
      subst hA
      clear hx0 hy0 hu0 HP
      have hal : Below wr.heap.size wr (wr.alloc (.cells #[.int .i64 x, .int .i64 y, .int .i64 u] 30)) := (Below.refl _ _).alloc (Nat.le_refl _) _
      have HO1 := Lib.hid (HO.out.below hal HS.out)
      have HX1 := Lib.hid (HX.out.alloc (.cells #[.int .i64 x, .int .i64 y, .int .i64 u] 30))
      have HB1 := Lib.hid (HB.out.alloc HB.out.size (.cells #[.int .i64 x, .int .i64 y, .int .i64 u] 30))
      have HS1 : Hid (w.heap.size + 1 < (wr.alloc (.cells #[.int .i64 x, .int .i64 y, .int .i64 u] 30)).heap.size) := Lib.hid (by have := HS.out; simp; omega)
      have HY : Hid (Bx (wr.alloc (.cells #[.int .i64 x, .int .i64 y, .int .i64 u] 30)) wr.heap.size #[.int .i64 x, .int .i64 y, .int .i64 u] 30) := Lib.hid (Bx.new _ _ _)
      have hf := HO1.out.free (by omega) k
      obtain ⟨v0, hv0⟩ : ∃ v, (wr.alloc (.cells #[.int .i64 x, .int .i64 y, .int .i64 u] 30)).cell? ⟨w.heap.size + 1, k, none⟩ = some v := ⟨_, HO1.out.cellAt (List.getElem?_eq_getElem (by have := HO1.out.1; omega))⟩
      have HSET : ∀ v : Int, v = valG ins (x, y, u) (tellK (valG ins) d1 k) → Hid (Ow ((wr.alloc (.cells #[.int .i64 x, .int .i64 y, .int .i64 u] 30)).setCell ⟨w.heap.size + 1, k, none⟩ (.int .i64 v)) (w.heap.size + 1) (w.heap.size + 1 + 1) 3 1 (some ⟨w.heap.size + 1, 0, none⟩) n1 n1 (cI (tellK (valG ins) d1 (k + 1) ++ List.replicate (n1 - (k + 1)) 0))) ∧ Hid (Bx ((wr.alloc (.cells #[.int .i64 x, .int .i64 y, .int .i64 u] 30)).setCell ⟨w.heap.size + 1, k, none⟩ (.int .i64 v)) w.heap.size #[.int .i64 z, .slice (some a) n1 c1, .slice A2 n2 c2] 26) ∧ Hid (Below w.heap.size w ((wr.alloc (.cells #[.int .i64 x, .int .i64 y, .int .i64 u] 30)).setCell ⟨w.heap.size + 1, k, none⟩ (.int .i64 v))) ∧ Hid (w.heap.size + 1 < ((wr.alloc (.cells #[.int .i64 x, .int .i64 y, .int .i64 u] 30)).setCell ⟨w.heap.size + 1, k, none⟩ (.int .i64 v)).heap.size) := fun v hv => by
        refine ⟨Lib.hid ?_, Lib.hid (HX1.out.other ⟨w.heap.size + 1, k, none⟩ _ (by simp)), Lib.hid (HB1.out.setCell (p := ⟨w.heap.size + 1, k, none⟩) (by simp) _), Lib.hid (by rw [World.size_setCell]; exact HS1.out)⟩
        have := HO1.out.set k (.int .i64 v)
        rw [cI_set] at this
        rw [← tell_step (valG ins) d1 hlt, HQ.out, ← hv]
        exact this
      clear hal
      rcases hkd with ⟨rfl, y0, y1, rfl⟩ | ⟨rfl, y0, y1, rfl⟩ | ⟨hk3, y0, y1, u0, u1⟩
      · obtain ⟨m, rfl⟩ : ∃ m : Nat, y = m := ⟨y.toNat, by omega⟩
        have hm : m < n3 := by have := HZ.out; omega
        obtain ⟨a3, v, hA3, hab3, hv3, HV3⟩ := H3.out.intAt hm
        have hv := (HB1.out.cell (p := a3.add m) (by rw [add_block]; exact hab3)).trans hv3
        obtain ⟨HO2, HX2, HB2, HS2⟩ := HSET v (by rw [HV3.out]; simp [valG])
        have j0 : (m : Int) < (n3 : Int) := by omega
        subst hA3
        clear hv3 HO HX HB HS HO1 HX1 HB1 HS1 HSET
        go_wp2
        go_roundw
        case rel => exact ⟨k + 1, by omega, by go_num, HO2, HX2, HB2, HS2⟩
        case measure => simp [intOf] <;> omega
      · obtain ⟨HO2, HX2, HB2, HS2⟩ := HSET y (by simp [valG])
        clear HO HX HB HS HO1 HX1 HB1 HS1 HSET
        go_wp2
        go_roundw
        case rel => exact ⟨k + 1, by omega, by go_num, HO2, HX2, HB2, HS2⟩
        case measure => simp [intOf] <;> omega
      · obtain ⟨m1, rfl⟩ : ∃ m : Nat, y = m := ⟨y.toNat, by omega⟩
        obtain ⟨m2, rfl⟩ : ∃ m : Nat, u = m := ⟨u.toNat, by omega⟩
        obtain ⟨p, hp, HP0⟩ := HO1.out.intAt (k := m1) (by omega)
        obtain ⟨q, hq, HQ0⟩ := HO1.out.intAt (k := m2) (by omega)
        have HPP : Hid (p = (tellK (valG ins) d1 k).getD m1 0) := Lib.hid (by rw [HP0.out, tell_get _ _ (by omega)])
        have HQQ : Hid (q = (tellK (valG ins) d1 k).getD m2 0) := Lib.hid (by rw [HQ0.out, tell_get _ _ (by omega)])
        have p0 : 0 ≤ p := by rw [HPP.out]; exact (HV.out m1).1
        have p1 : p ≤ 112 := by rw [HPP.out]; exact (HV.out m1).2
        have q0 : 0 ≤ q := by rw [HQQ.out]; exact (HV.out m2).1
        have q1 : q ≤ 112 := by rw [HQQ.out]; exact (HV.out m2).2
        have j0 : (m1 : Int) < (n1 : Int) := by omega
        have j1 : (m2 : Int) < (n1 : Int) := by omega
        clear HP0 HQ0
        rcases hk3 with rfl | rfl | rfl
        · obtain ⟨HO2, HX2, HB2, HS2⟩ := HSET ((p + q) % 113) (by rw [HPP.out, HQQ.out]; simp [valG])
          have im : IntKind.i64.wrap (p + q) = p + q := IntWalk.i64_in _ (by omega)
          have ir : (p + q).tmod 113 = (p + q) % 113 := Int.tmod_eq_emod_of_nonneg (by omega)
          clear HO HX HB HS HO1 HX1 HB1 HS1 HSET HPP HQQ
          go_wp2
          obtain ⟨wo, hwo⟩ : ∃ wo, Hid (wr.alloc (.cells #[.int .i64 2, .int .i64 m1, .int .i64 m2] 30) = wo) := ⟨_, Lib.hid rfl⟩
          rw [hwo.out] at hf hv0 hp hq HY HO2 HX2 HB2 HS2 ⊢
          have g1 : wo.cell? ⟨wr.heap.size, 1, none⟩ = some (.int .i64 m1) := HY.out.cell 1
          have g2 : wo.cell? ⟨wr.heap.size, 2, none⟩ = some (.int .i64 m2) := HY.out.cell 2
          replace HO2 := Lib.hid (HO2.out.drewN 1)
          replace HX2 : Hid (Bx ((wo.setCell ⟨w.heap.size + 1, k, none⟩ (.int .i64 ((p + q) % 113))).drewN 1) w.heap.size _ _) := Lib.hid HX2.out
          replace HB2 := Lib.hid (below_drewN HB2.out 1)
          replace HS2 : Hid (w.heap.size + 1 < ((wo.setCell ⟨w.heap.size + 1, k, none⟩ (.int .i64 ((p + q) % 113))).drewN 1).heap.size) := Lib.hid HS2.out
          clear hwo
          go_still_tail 14, (by kernel_rfl)
          change wpList _ _ _ _ _ wo.drew
          go_wp2
          go_roundw
          case rel => exact ⟨k + 1, by omega, by go_num, HO2, HX2, HB2, HS2⟩
          case measure => simp [intOf] <;> omega
        · obtain ⟨HO2, HX2, HB2, HS2⟩ := HSET ((p - q) % 113) (by rw [HPP.out, HQQ.out]; simp [valG])
          clear HO HX HB HS HO1 HX1 HB1 HS1 HSET HPP HQQ
          go_wp2
          obtain ⟨wo, hwo⟩ : ∃ wo, Hid (wr.alloc (.cells #[.int .i64 3, .int .i64 m1, .int .i64 m2] 30) = wo) := ⟨_, Lib.hid rfl⟩
          rw [hwo.out] at hf hv0 hp hq HY HO2 HX2 HB2 HS2 ⊢
          have g1 : wo.cell? ⟨wr.heap.size, 1, none⟩ = some (.int .i64 m1) := HY.out.cell 1
          have g2 : wo.cell? ⟨wr.heap.size, 2, none⟩ = some (.int .i64 m2) := HY.out.cell 2
          replace HO2 := Lib.hid (HO2.out.drewN 1)
          replace HX2 : Hid (Bx ((wo.setCell ⟨w.heap.size + 1, k, none⟩ (.int .i64 ((p - q) % 113))).drewN 1) w.heap.size _ _) := Lib.hid HX2.out
          replace HB2 := Lib.hid (below_drewN HB2.out 1)
          replace HS2 : Hid (w.heap.size + 1 < ((wo.setCell ⟨w.heap.size + 1, k, none⟩ (.int .i64 ((p - q) % 113))).drewN 1).heap.size) := Lib.hid HS2.out
          clear hwo
          go_still_tail 13, (by kernel_rfl)
          still_call (same_ (s_l1Sub _ _ _ p0 p1 q0 q1))
          repeat still_step
          refine wpStill_nil ?_
          change wpList _ _ _ _ _ wo.drew
          go_wp2
          go_roundw
          case rel => exact ⟨k + 1, by omega, by go_num, HO2, HX2, HB2, HS2⟩
          case measure => simp [intOf] <;> omega
        · obtain ⟨HO2, HX2, HB2, HS2⟩ := HSET (p * q % 113) (by rw [HPP.out, HQQ.out]; simp [valG])
          obtain ⟨t0, t1⟩ := mul_bd p q p0 p1 q0 q1
          have im : IntKind.i64.wrap (p * q) = p * q := IntWalk.i64_in _ (by omega)
          have ir : (p * q).tmod 113 = p * q % 113 := Int.tmod_eq_emod_of_nonneg t0
          clear HO HX HB HS HO1 HX1 HB1 HS1 HSET HPP HQQ
          go_wp2
          obtain ⟨wo, hwo⟩ : ∃ wo, Hid (wr.alloc (.cells #[.int .i64 4, .int .i64 m1, .int .i64 m2] 30) = wo) := ⟨_, Lib.hid rfl⟩
          rw [hwo.out] at hf hv0 hp hq HY HO2 HX2 HB2 HS2 ⊢
          have g1 : wo.cell? ⟨wr.heap.size, 1, none⟩ = some (.int .i64 m1) := HY.out.cell 1
          have g2 : wo.cell? ⟨wr.heap.size, 2, none⟩ = some (.int .i64 m2) := HY.out.cell 2
          replace HO2 := Lib.hid (HO2.out.drewN 1)
          replace HX2 : Hid (Bx ((wo.setCell ⟨w.heap.size + 1, k, none⟩ (.int .i64 (p * q % 113))).drewN 1) w.heap.size _ _) := Lib.hid HX2.out
          replace HB2 := Lib.hid (below_drewN HB2.out 1)
          replace HS2 : Hid (w.heap.size + 1 < ((wo.setCell ⟨w.heap.size + 1, k, none⟩ (.int .i64 (p * q % 113))).drewN 1).heap.size) := Lib.hid HS2.out
          clear hwo
          go_still_tail 14, (by kernel_rfl)
          change wpList _ _ _ _ _ wo.drew
          go_wp2
          go_roundw
          case rel => exact ⟨k + 1, by omega, by go_num, HO2, HX2, HB2, HS2⟩
          case measure => simp [intOf] <;> omega
    · have hkn : k = n1 := by omega
      have HOF : Hid (OwIntS wr w.heap.size wr.heap.size (.slice (some ⟨w.heap.size + 1, 0, none⟩) n1 n1) (tellK (valG ins) d1 n1)) := Lib.hid (by
        have := HO.out
        rw [hkn, Nat.sub_self, List.replicate_zero, List.append_nil] at this
        exact ⟨by rw [tellK_length]; omega, _, _, _, rfl, this.widen (by omega) HS.out⟩)
      clear HO hkn
      go_wp2
      go_ret
      exact ⟨_, _, rfl, HOF.out, HB.out⟩
end Go.Proofs.Ytbmjepmlalfpgaa

/- Chapter 8 in the model: outputs. -/
namespace Go.Proofs.Ytbmjepmlalfpgaa
open Go.RowKit
set_option maxRecDepth 100000

theorem if_max (a b : Int) : (if a < b then b else a) = max a b := by split <;> omega
theorem if_min (a b : Int) : (if b < a then b else a) = min a b := by split <;> omega
/-- a box of three cells over a call that only makes -/
theorem upd3 {w0 W w' : World} {b e : Nat} {x y z : Value} (hb : Below b w0 W) (hx : Bx W b #[x, y, z] e) (h : Below W.heap.size W w') :
    Below b w0 w' ∧ Bx w' b #[x, y, z] e ∧ w'.cell? ⟨b, 0, none⟩ = some x ∧ w'.cell? ⟨b, 1, none⟩ = some y ∧ w'.cell? ⟨b, 2, none⟩ = some z :=
  have hx2 := hx.below h hx.lt
  ⟨hb.trans (h.mono (Nat.le_of_lt hx.lt)), hx2, hx2.cell 0, hx2.cell 1, hx2.cell 2⟩
theorem Bx.grown {W w' : World} {b e : Nat} {cs : Array Value} {v : Value} (h : Bx W b cs e) (hg : W.grownBy w' v.ownBlock) (hne : v.ownBlock ≠ some b) : Bx w' b cs e := (hg.block b h.lt (fun h' => hne h'.symm)).trans h
theorem own_ne {w : World} {B e size n b : Nat} {v : Value} {xs : List Value} (h : w.ownsRow B e size v n xs) (hb : b < B) : v.ownBlock ≠ some b := fun e => by have := own_block h b e; omega

set_option maxHeartbeats 4000000 in
theorem s_l8Outs (A1 : Option Addr) (n1 c1 : Nat) (A2 : Option Addr) (n2 c2 : Nat) (A3 : Option Addr) (n3 c3 : Nat) (z : Int) (d2 vs : List Int) (w : World) (h2 : Rd w w.heap.size 1 A2 n2 (cI d2)) (h3 : Rd w w.heap.size 1 A3 n3 (cI vs)) (hn2 : n2 ≤ 16) (ho : outsK d2 n3 n2 = true) (_hn3 : n3 ≤ 16) :
    Calls Try.prog 86 #[.agg #[.int .i64 z, .slice A1 n1 c1, .slice A2 n2 c2], .slice A3 n3 c3] w fun e w' => ∃ A n c, e = .returned (.slice A n c) ∧ OwIntS w' w.heap.size w'.heap.size (.slice A n c) (outK d2 vs n2) ∧ Below w.heap.size w w' := by
  have H2 := Lib.hid h2
  have H3 := Lib.hid h3
  have HOK := Lib.hid ho
  clear h2 h3 ho
  have HX0 : Hid (Bx ((w.alloc (.cells #[.int .i64 z, .slice A1 n1 c1, .slice A2 n2 c2] 26)).alloc (.cells #[] 3)) w.heap.size #[.int .i64 z, .slice A1 n1 c1, .slice A2 n2 c2] 26) := Lib.hid ((Bx.new _ _ _).alloc _)
  have HO0 : Hid (((w.alloc (.cells #[.int .i64 z, .slice A1 n1 c1, .slice A2 n2 c2] 26)).alloc (.cells #[] 3)).ownsRow (w.heap.size + 1) 3 1 (.slice (some ⟨w.heap.size + 1, 0, none⟩) 0 0) 0 (cI [])) := Lib.hid (by
    have := own_empty (w.alloc (.cells #[.int .i64 z, .slice A1 n1 c1, .slice A2 n2 c2] 26)) 3 1
    rw [World.size_alloc] at this; exact this)
  have HB0 : Hid (Below w.heap.size w ((w.alloc (.cells #[.int .i64 z, .slice A1 n1 c1, .slice A2 n2 c2] 26)).alloc (.cells #[] 3))) := Lib.hid (((Below.refl _ _).alloc (Nat.le_refl _) _).alloc (by simp) _)
  go_enter Try.func86, Try.ntmps86
  go_wp2
  go_loopw [5, 6] (fun o i wr => ∃ k : Nat, k ≤ n2 ∧ i = .int .i64 k ∧ Hid (wr.ownsRow (w.heap.size + 1) 3 1 o k (cI (outK d2 vs k))) ∧ Hid (Bx wr w.heap.size #[.int .i64 z, .slice A1 n1 c1, .slice A2 n2 c2] 26) ∧ Hid (Below w.heap.size w wr)) (fun _ i _ => n2 - (intOf i).toNat)
  case atStart => exact ⟨0, Nat.zero_le _, rfl, HO0, HX0, HB0⟩
  case round =>
    clear HO0 HX0 HB0
    obtain ⟨k, hk, rfl, HO, HX, HB⟩ := hrel
    have b2 : wr.cell? ⟨w.heap.size, 2, none⟩ = some (.slice A2 n2 c2) := HX.out.cell 2
    by_cases hlt : k < n2
    · obtain ⟨a, x, hA, hab, hx0, HP⟩ := H2.out.intAt hlt
      have hx := (HB.out.cell (p := a.add k) (by rw [add_block]; exact hab)).trans hx0
      obtain ⟨x0, x1⟩ := outsK_at HOK.out hlt
      rw [← HP.out] at x0 x1
      obtain ⟨m, rfl⟩ : ∃ m : Nat, x = m := ⟨x.toNat, by omega⟩
      obtain ⟨a3, v, hA3, hab3, hv3, HV⟩ := H3.out.intAt (k := m) (by omega)
      have hv := (HB.out.cell (p := a3.add m) (by rw [add_block]; exact hab3)).trans hv3
      have i0 : (0 : Int) ≤ (k : Int) := by omega
      have i1 : (k : Int) < (n2 : Int) := by omega
      have i2 : (m : Int) < (n3 : Int) := by omega
      have HE : Hid (outK d2 vs (k + 1) = outK d2 vs k ++ [v]) := Lib.hid (by rw [outK, ← HP.out, HV.out]; rfl)
      have hz := HX.out.lt
      have HOa := Lib.hid (HO.out.alloc (.cells #[.int .i64 v] 3))
      have HXa := Lib.hid (HX.out.alloc (.cells #[.int .i64 v] 3))
      have HBa := Lib.hid (HB.out.alloc HB.out.size (.cells #[.int .i64 v] 3))
      have HRa : Hid (Rd (wr.alloc (.cells #[.int .i64 v] 3)) (wr.heap.size + 1) 1 (some ⟨wr.heap.size, 0, none⟩) 1 (cI [v])) := Lib.hid (by
        have := (Ow.new wr #[.int .i64 v] 3 1 1 rfl).rd; exact this)
      subst hA; subst hA3
      clear hx0 hv3 HO HX HB
      go_wp2_with (at_builtin; refine wpList_append_rd rfl (.tmp 15) (.tmp 24) _ rfl (w.heap.size + 1) 3 _ 1 8 Try.underlying24 info_int rfl (by decide) u5 k (cI (outK d2 vs k)) rfl HOa.out _ _ 1 1 (cI [v]) rfl HRa.out (cI_one _) (by unfold maxLen; omega) (by omega) (by simp; omega) ?_; intro v1 w1 hown hg hat; have HOWN := Lib.hid hown; have HG := Lib.hid hg; clear hown hg hat)
      have HO2 : Hid (w1.ownsRow (w.heap.size + 1) 3 1 v1 (k + 1) (cI (outK d2 vs (k + 1)))) := Lib.hid (by
        rw [HE.out, cI_append]; exact HOWN.out)
      have HX2 := Lib.hid (HXa.out.grown HG.out (own_ne HOa.out (Nat.lt_succ_self _)))
      have HB2 : Hid (Below w.heap.size w w1) := Lib.hid (below_append HBa.out HG.out (fun g hg => by have := own_block HOa.out g hg; omega) HBa.out.size)
      clear HOWN HG HOa HRa HXa HBa
      go_roundw
      case rel => exact ⟨k + 1, by omega, by go_num, HO2, HX2, HB2⟩
      case measure => simp [intOf] <;> omega
    · have hkn : k = n2 := by omega
      have HOF : Hid (OwIntS wr w.heap.size wr.heap.size u5 (outK d2 vs n2)) := Lib.hid (by
        have h1 := HO.out
        rw [hkn] at h1
        exact (own_done rfl h1 (by omega)).widen (Nat.le_succ _) (Nat.le_refl _))
      clear HO hkn
      obtain ⟨A, n, c, rfl, _, _⟩ := HOF.out.open
      go_wp2
      go_ret
      exact ⟨_, _, _, rfl, HOF.out, HB.out⟩

set_option maxHeartbeats 2000000 in
theorem s_l8Most (A1 : Option Addr) (n1 c1 : Nat) (A2 : Option Addr) (n2 c2 : Nat) (A3 : Option Addr) (n3 c3 : Nat) (z : Int) (d2 vs : List Int) (w : World) (h2 : Rd w w.heap.size 1 A2 n2 (cI d2)) (h3 : Rd w w.heap.size 1 A3 n3 (cI vs)) (hn2 : n2 ≤ 16) (ho : outsK d2 n3 n2 = true) (_hn3 : n3 ≤ 16) :
    Calls Try.prog 62 #[.agg #[.int .i64 z, .slice A1 n1 c1, .slice A2 n2 c2], .slice A3 n3 c3] w fun e w' => e = .returned (.int .i64 (mostK d2 vs n2)) ∧ Below w.heap.size w w' := by
  have H2 := Lib.hid h2
  have H3 := Lib.hid h3
  have HOK := Lib.hid ho
  clear h2 h3 ho
  have HX0 : Hid (Bx (w.alloc (.cells #[.int .i64 z, .slice A1 n1 c1, .slice A2 n2 c2] 26)) w.heap.size #[.int .i64 z, .slice A1 n1 c1, .slice A2 n2 c2] 26) := Lib.hid (Bx.new _ _ _)
  have HB0 : Hid (Below w.heap.size w (w.alloc (.cells #[.int .i64 z, .slice A1 n1 c1, .slice A2 n2 c2] 26))) := Lib.hid ((Below.refl _ _).alloc (Nat.le_refl _) _)
  go_enter Try.func62, Try.ntmps62
  go_wp2
  go_loopw [5, 6] (fun o i wr => ∃ (k : Nat) (M : Int), k ≤ n2 ∧ i = .int .i64 k ∧ o = .int .i64 M ∧ Hid (M = mostK d2 vs k) ∧ Hid (Bx wr w.heap.size #[.int .i64 z, .slice A1 n1 c1, .slice A2 n2 c2] 26) ∧ Hid (Below w.heap.size w wr)) (fun _ i _ => n2 - (intOf i).toNat)
  case atStart => exact ⟨0, 0, Nat.zero_le _, rfl, rfl, Lib.hid rfl, HX0, HB0⟩
  case round =>
    clear HX0 HB0
    obtain ⟨k, M, hk, rfl, rfl, HM, HX, HB⟩ := hrel
    have b2 : wr.cell? ⟨w.heap.size, 2, none⟩ = some (.slice A2 n2 c2) := HX.out.cell 2
    by_cases hlt : k < n2
    · obtain ⟨a, x, hA, hab, hx0, HP⟩ := H2.out.intAt hlt
      have hx := (HB.out.cell (p := a.add k) (by rw [add_block]; exact hab)).trans hx0
      obtain ⟨x0, x1⟩ := outsK_at HOK.out hlt
      rw [← HP.out] at x0 x1
      obtain ⟨m, rfl⟩ : ∃ m : Nat, x = m := ⟨x.toNat, by omega⟩
      obtain ⟨a3, v, hA3, hab3, hv3, HV⟩ := H3.out.intAt (k := m) (by omega)
      have hv := (HB.out.cell (p := a3.add m) (by rw [add_block]; exact hab3)).trans hv3
      have i0 : (0 : Int) ≤ (k : Int) := by omega
      have i1 : (k : Int) < (n2 : Int) := by omega
      have i2 : (m : Int) < (n3 : Int) := by omega
      have HE : Hid ((if M < v then v else M) = mostK d2 vs (k + 1)) := Lib.hid (by rw [if_max, mostK, ← HP.out, HV.out, HM.out]; rfl)
      subst hA; subst hA3
      clear hx0 hv3 HM
      go_wp2
      go_roundw
      case rel => exact ⟨k + 1, _, by omega, by go_num, rfl, HE, HX, HB⟩
      case measure => simp [intOf] <;> omega
    · have hkn : k = n2 := by omega
      have HF : Hid (M = mostK d2 vs n2) := Lib.hid (by rw [← hkn]; exact HM.out)
      clear HM hkn
      go_wp2
      go_ret
      exact ⟨ret_i HF.out, HB.out⟩
end Go.Proofs.Ytbmjepmlalfpgaa

/- What the plain laws draw from bytes: a circuit; its state while it is drawn. -/
namespace Go.Proofs.Ytbmjepmlalfpgaa
open Go.RowKit
set_option maxRecDepth 100000

theorem lit_gate_at {w : World} {B e : Nat} {x y z : Int} (h : w.heap[B]? = some (.cells #[.int .i64 x, .int .i64 y, .int .i64 z] e (0, 0))) : Rd w (B + 1) 3 (some ⟨B, 0, none⟩) 1 (cGate [(x, y, z)]) :=
  ⟨rfl, fun _ => ⟨_, rfl, Nat.lt_succ_self _, fun j u hu => by
    rw [show (⟨B, 0, none⟩ : Addr).add j = ⟨B, 0 + j, none⟩ from addr_add B 0 j, Nat.zero_add, cell_of_row w B j _ _ _ h]
    simpa [cGate] using hu⟩⟩
theorem cGate_append (ps qs : List (Int × Int × Int)) : cGate (ps ++ qs) = cGate ps ++ cGate qs := by simp [cGate]
theorem cGate_one (ps : List (Int × Int × Int)) : ∀ u ∈ cGate ps, u.oneCell' = true := by
  intro u hu
  simp only [cGate, List.mem_flatMap] at hu
  obtain ⟨p, _, hp⟩ := hu
  simp at hp
  rcases hp with rfl | rfl | rfl <;> rfl
theorem own_grown {w w6 : World} {B e s n : Nat} {row : Option Nat} {u : Value} {xs : List Value} (h : w.ownsRow B e s u n xs) (hg : w.grownBy w6 row) (ne : ∀ g, u.ownBlock = some g → row ≠ some g) : w6.ownsRow B e s u n xs := by
  refine ⟨h.1, ?_⟩
  rcases h.2 with h0 | ⟨g', cap, cur, rfl, hb, hh, r⟩
  · exact .inl h0
  · exact .inr ⟨g', cap, cur, rfl, hb, by rw [hg.block g' (Array.getElem?_eq_some_iff.1 hh).1 (fun e => ne g' rfl e.symm)]; exact hh, r⟩
theorem own_two {w : World} {B B' e e' s s' n n' : Nat} {u v : Value} {xs ys : List Value} (h : w.ownsRow B e s u n xs) (h' : w.ownsRow B' e' s' v n' ys) (hne : e ≠ e') : ∀ g, v.ownBlock = some g → u.ownBlock ≠ some g := by
  intro g hg hu
  rcases h.2 with ⟨rfl, _⟩ | ⟨g1, cap, cur, rfl, _, hh, _⟩
  · simp [Value.ownBlock] at hu
  rcases h'.2 with ⟨rfl, _⟩ | ⟨g2, cap2, cur2, rfl, _, hh2, _⟩
  · simp [Value.ownBlock] at hg
  simp [Value.ownBlock] at hu hg
  subst hu
  subst hg
  rw [hh] at hh2
  injection hh2 with q
  injection q with _ q2
  exact hne q2
theorem own_szz {w : World} {B e size n g : Nat} {v : Value} {xs : List Value} (h : w.ownsRow B e size v n xs) (hg : v.ownBlock = some g) : g < w.heap.size := by
  rcases h.2 with ⟨rfl, _⟩ | ⟨g', cap, cur, rfl, _, hh, _⟩
  · simp [Value.ownBlock] at hg
  · simp [Value.ownBlock] at hg
    subst hg
    exact (Array.getElem?_eq_some_iff.1 hh).1
theorem own_base {w : World} {B B' e s n : Nat} {v : Value} {xs : List Value} (h : w.ownsRow B e s v n xs) (hb : B' ≤ B) : w.ownsRow B' e s v n xs := by
  refine ⟨h.1, ?_⟩
  rcases h.2 with h0 | ⟨g', cap, cur, rfl, h1, r⟩
  · exact .inl h0
  · exact .inr ⟨g', cap, cur, rfl, Nat.le_trans hb h1, r⟩
theorem own_rdV {w : World} {B e s n c : Nat} {A : Option Addr} {xs : List Value} (h : w.ownsRow B e s (.slice A n c) n xs) : Rd w w.heap.size s A n xs := by
  obtain ⟨A3, c3, e, ho⟩ := Ow.of_own h
  injection e with e1 e2 e3
  subst e1
  exact ho.rd
theorem infoC : (Try.prog.info? 26).map (·.size) = some 3 := by kernel_rfl
/-- a circuit as a result -/
theorem resC {fn : Func} {t : Tmp} {tmps : Array Value} {w : World} {g : Nat} {a b c : Value} (h : fn.results = #[.cell t 26]) (ht : tmps.getD t undef = .pointer (some ⟨g, 0, none⟩)) (hb : Bx w g #[a, b, c] 26) :
    (results fn tmps).run Try.prog w = .ok (.agg #[a, b, c]) w := by
  have hr : w.rangeAt g 0 [a, b, c] := fun j v hv => by
    rw [Nat.zero_add, cell_of_row w g j _ _ (0, 0) hb]; simpa using hv
  have := run_loadVar_mid (P := Try.prog) w g 0 26 [a, b, c] _ hr Try.underlying26 rfl infoC
  have ht2 : tmps[t]?.getD undef = .pointer (some ⟨g, 0, none⟩) := by rw [← ht]; simp
  simp [results, h, ht2, this, asAddr]
/-- A circuit while it is drawn: the reader at block g, the variable at block B, its two lists. -/
structure CSt (w0 wr : World) (g hi q : Nat) (A : Option Addr) (n c : Nat) (bs : List Int) (B : Nat) (z : Int) (gv ov : Value) (ng : Nat) (gs : List (Int × Int × Int)) (no : Nat) (os : List Int) : Prop where
  rd : Rdr wr g hi q A n c bs
  kept : Kept g (g + 1) w0 wr
  glt : g < w0.heap.size
  bx : Bx wr B #[.int .i64 z, gv, ov] 26
  lo : w0.heap.size ≤ B
  gl : wr.ownsRow (B + 1) 30 3 gv ng (cGate gs)
  ol : wr.ownsRow (B + 1) 3 1 ov no (cI os)
section
variable {w0 wr w1 w6 : World} {g hi q q' : Nat} {A : Option Addr} {n c : Nat} {bs : List Int} {B : Nat} {z : Int} {gv ov v : Value} {ng : Nat} {gs gs' : List (Int × Int × Int)} {no m : Nat} {os os' : List Int}
theorem CSt.pick (C : CSt w0 wr g hi q A n c bs B z gv ov ng gs no os) (h : Rdr w1 g hi q' A n c bs) (k : Kept g (g + 1) wr w1) : CSt w0 w1 g hi q' A n c bs B z gv ov ng gs no os where
  rd := h
  kept := C.kept.trans k
  glt := C.glt
  bx := C.bx.kept k (by have := C.lo; have := C.glt; omega)
  lo := C.lo
  gl := own_keptG C.gl k (by have := C.lo; have := C.glt; omega)
  ol := own_keptG C.ol k (by have := C.lo; have := C.glt; omega)
theorem CSt.alloc (C : CSt w0 wr g hi q A n c bs B z gv ov ng gs no os) (o : Obj) : CSt w0 (wr.alloc o) g hi q A n c bs B z gv ov ng gs no os :=
  C.pick (C.rd.alloc o) (kept_alloc _ _ _ _)
theorem CSt.drew (C : CSt w0 wr g hi q A n c bs B z gv ov ng gs no os) : CSt w0 wr.drew g hi q A n c bs B z gv ov ng gs no os :=
  C.pick (C.rd.drewN 1) ((Kept.refl _ _ _).drewN 1)
/-- a store into the variable -/
theorem CSt.store (C : CSt w0 wr g hi q A n c bs B z gv ov ng gs no os) (j : Nat) (u : Value) :
    Rdr (wr.setCell ⟨B, j, none⟩ u) g hi q A n c bs ∧ Kept g (g + 1) w0 (wr.setCell ⟨B, j, none⟩ u) ∧ Kept B (B + 1) wr (wr.setCell ⟨B, j, none⟩ u) := by
  have hB := C.lo
  have hg := C.glt
  have hk : Kept B (B + 1) wr (wr.setCell ⟨B, j, none⟩ u) := (Kept.refl _ _ wr).setCell (p := ⟨B, j, none⟩) (Nat.le_refl _) (Nat.lt_succ_self _) u
  refine ⟨C.rd.move (hk.block g C.rd.lt (by omega)) ((Below.refl _ _).setCell (p := ⟨B, j, none⟩) (by have := C.rd.low; show hi ≤ B; omega) u), ?_, hk⟩
  exact ⟨hk.os.trans C.kept.os, hk.tape.trans C.kept.tape, hk.output.trans C.kept.output, Nat.le_trans C.kept.size hk.size, fun i h1 h2 => (hk.block i (Nat.lt_of_lt_of_le h1 C.kept.size) (by omega)).trans (C.kept.block i h1 h2)⟩
/-- what grew beside it -/
theorem CSt.base (C : CSt w0 wr g hi q A n c bs B z gv ov ng gs no os) {row : Option Nat} (hgr : wr.grownBy w6 row) (hr : ∀ k, row = some k → B + 1 ≤ k) :
    Rdr w6 g hi q A n c bs ∧ Kept g (g + 1) w0 w6 ∧ Bx w6 B #[.int .i64 z, gv, ov] 26 := by
  have hB := C.lo
  have hg := C.glt
  have hk : ∀ k, k < wr.heap.size → k ≤ B → w6.heap[k]? = wr.heap[k]? := fun k h1 h2 => hgr.block k h1 (fun e => by have := hr k e.symm; omega)
  have hz := C.kept.size
  have hb : Below B wr w6 := ⟨hgr.os, hgr.tape, hgr.output, hgr.size, fun k h => hk k (by have := C.bx.lt; omega) (by omega)⟩
  refine ⟨C.rd.move (hk g C.rd.lt (by omega)) (hb.mono (by have := C.rd.low; omega)), ?_, (hk B C.bx.lt (Nat.le_refl _)).trans C.bx⟩
  exact ⟨hgr.os.trans C.kept.os, hgr.tape.trans C.kept.tape, hgr.output.trans C.kept.output, Nat.le_trans hz hgr.size, fun k h1 h2 => (hk k (by omega) (by omega)).trans (C.kept.block k h1 h2)⟩
theorem CSt.growG (C : CSt w0 wr g hi q A n c bs B z gv ov ng gs no os) (hgr : wr.grownBy w6 gv.ownBlock) (hown : w6.ownsRow (B + 1) 30 3 v m (cGate gs')) :
    Bx w6 B #[.int .i64 z, gv, ov] 26 ∧ Kept g (g + 1) w0 w6 ∧ CSt w0 (w6.setCell ⟨B, 1, none⟩ v) g hi q A n c bs B z v ov m gs' no os := by
  obtain ⟨h1, h2, h3⟩ := C.base hgr (own_block C.gl)
  have ho : w6.ownsRow (B + 1) 3 1 ov no (cI os) := own_grown C.ol hgr (fun g' hg' => own_two C.gl C.ol (by decide) g' hg')
  have hB := C.lo
  have hg := C.glt
  have hk : Kept B (B + 1) w6 (w6.setCell ⟨B, 1, none⟩ v) := (Kept.refl _ _ w6).setCell (p := ⟨B, 1, none⟩) (Nat.le_refl _) (Nat.lt_succ_self _) v
  refine ⟨h3, h2, ⟨h1.move (hk.block g h1.lt (by omega)) ((Below.refl _ _).setCell (p := ⟨B, 1, none⟩) (by have := C.rd.low; show hi ≤ B; omega) v), ?_, C.glt, h3.set 1 v, C.lo, own_keptG hown hk (Nat.lt_succ_self _), own_keptG ho hk (Nat.lt_succ_self _)⟩⟩
  exact ⟨hk.os.trans h2.os, hk.tape.trans h2.tape, hk.output.trans h2.output, Nat.le_trans h2.size hk.size, fun i a b => (hk.block i (Nat.lt_of_lt_of_le a h2.size) (by omega)).trans (h2.block i a b)⟩
theorem CSt.growO (C : CSt w0 wr g hi q A n c bs B z gv ov ng gs no os) (hgr : wr.grownBy w6 ov.ownBlock) (hown : w6.ownsRow (B + 1) 3 1 v m (cI os')) :
    Bx w6 B #[.int .i64 z, gv, ov] 26 ∧ Kept g (g + 1) w0 w6 ∧ CSt w0 (w6.setCell ⟨B, 2, none⟩ v) g hi q A n c bs B z gv v ng gs m os' := by
  obtain ⟨h1, h2, h3⟩ := C.base hgr (own_block C.ol)
  have ho : w6.ownsRow (B + 1) 30 3 gv ng (cGate gs) := own_grown C.gl hgr (fun g' hg' => own_two C.ol C.gl (by decide) g' hg')
  have hB := C.lo
  have hg := C.glt
  have hk : Kept B (B + 1) w6 (w6.setCell ⟨B, 2, none⟩ v) := (Kept.refl _ _ w6).setCell (p := ⟨B, 2, none⟩) (Nat.le_refl _) (Nat.lt_succ_self _) v
  refine ⟨h3, h2, ⟨h1.move (hk.block g h1.lt (by omega)) ((Below.refl _ _).setCell (p := ⟨B, 2, none⟩) (by have := C.rd.low; show hi ≤ B; omega) v), ?_, C.glt, h3.set 2 v, C.lo, own_keptG ho hk (Nat.lt_succ_self _), own_keptG hown hk (Nat.lt_succ_self _)⟩⟩
  exact ⟨hk.os.trans h2.os, hk.tape.trans h2.tape, hk.output.trans h2.output, Nat.le_trans h2.size hk.size, fun i a b => (hk.block i (Nat.lt_of_lt_of_le a h2.size) (by omega)).trans (h2.block i a b)⟩
theorem CSt.box (C : CSt w0 wr g hi q A n c bs B z gv ov ng gs no os) {b : Nat} (hb : B < b) (hG : ∀ g', gv.ownBlock = some g' → g' ≠ b) (hO : ∀ g', ov.ownBlock = some g' → g' ≠ b) (hk : Kept b (b + 1) wr w1) :
    CSt w0 w1 g hi q A n c bs B z gv ov ng gs no os := by
  have hB := C.lo
  have hg := C.glt
  have hz := C.kept.size
  have hl := C.rd.low
  refine ⟨C.rd.move (hk.block g C.rd.lt (by omega)) ⟨hk.os, hk.tape, hk.output, hk.size, fun k h => hk.block k (by have := C.rd.lt; omega) (by omega)⟩, ?_, C.glt, C.bx.kept hk (.inl hb), C.lo, ?_, ?_⟩
  · exact ⟨hk.os.trans C.kept.os, hk.tape.trans C.kept.tape, hk.output.trans C.kept.output, Nat.le_trans hz hk.size, fun i a b' => (hk.block i (Nat.lt_of_lt_of_le a hz) (by omega)).trans (C.kept.block i a b')⟩
  · refine ⟨C.gl.1, ?_⟩
    rcases C.gl.2 with h0 | ⟨g', cap, cur, rfl, h1, hh, r⟩
    · exact .inl h0
    · exact .inr ⟨g', cap, cur, rfl, h1, by rw [hk.block g' (Array.getElem?_eq_some_iff.1 hh).1 (by have := hG g' rfl; omega)]; exact hh, r⟩
  · refine ⟨C.ol.1, ?_⟩
    rcases C.ol.2 with h0 | ⟨g', cap, cur, rfl, h1, hh, r⟩
    · exact .inl h0
    · exact .inr ⟨g', cap, cur, rfl, h1, by rw [hk.block g' (Array.getElem?_eq_some_iff.1 hh).1 (by have := hO g' rfl; omega)]; exact hh, r⟩
theorem CSt.setIn (C : CSt w0 wr g hi q A n c bs B z gv ov ng gs no os) (y : Int) : CSt w0 (wr.setCell ⟨B, 0, none⟩ (.int .i64 y)) g hi q A n c bs B y gv ov ng gs no os := by
  obtain ⟨h1, h2, h3⟩ := C.store 0 (.int .i64 y)
  exact ⟨h1, h2, C.glt, C.bx.set 0 _, C.lo, own_keptG C.gl h3 (Nat.lt_succ_self _), own_keptG C.ol h3 (Nat.lt_succ_self _)⟩
theorem cGate_setB (p : Int × Int × Int) (t : List (Int × Int × Int)) (u : Int) : (cGate (p :: t)).set 2 (.int .i64 u) = cGate ((p.1, p.2.1, u) :: t) := by
  rw [cGate_cons, cGate_cons]; rfl
theorem CSt.setB (C : CSt w0 wr g hi q A n c bs B z gv ov ng gs no os) (hm : 1 ≤ ng) :
    ∃ g' cg, gv = .slice (some ⟨g', 0, none⟩) ng cg ∧ B < g' ∧ g' < wr.heap.size ∧ (∃ u, wr.cell? ⟨g', 2, none⟩ = some u) ∧ wr.frozen? ⟨g', 2, none⟩ = false ∧ ∃ gs', CSt w0 (wr.setCell ⟨g', 2, none⟩ (.int .i64 1)) g hi q A n c bs B z gv ov ng gs' no os := by
  have hB := C.lo
  have hg := C.glt
  have hz := C.kept.size
  have hl := C.rd.low
  have htwo := own_two C.gl C.ol (by decide)
  rcases C.gl.2 with ⟨_, h0⟩ | ⟨g', cap, cur, rfl, h1, hh, hnc, hcm, hs, ht⟩
  · omega
  have hk : Kept g' (g' + 1) wr (wr.setCell ⟨g', 2, none⟩ (.int .i64 1)) := (Kept.refl _ _ wr).setCell (p := ⟨g', 2, none⟩) (Nat.le_refl _) (Nat.lt_succ_self _) _
  have hlen := C.gl.1
  rw [cGate_length] at hlen
  obtain ⟨p, t, rfl⟩ : ∃ p t, gs = p :: t := by
    cases gs with
    | nil => simp at hlen; omega
    | cons p t => exact ⟨p, t, rfl⟩
  have hsz : 2 < cur.size := by rw [hs]; omega
  refine ⟨g', cap, rfl, by omega, (Array.getElem?_eq_some_iff.1 hh).1, ⟨cur[2], ?_⟩, frozen_of_row wr g' 2 cur _ hh, (p.1, p.2.1, 1) :: t, ?_⟩
  · rw [cell_of_row wr g' 2 _ _ _ hh]; simp [hsz]
  refine ⟨C.rd.move (hk.block g C.rd.lt (by omega)) ⟨hk.os, hk.tape, hk.output, hk.size, fun k h => hk.block k (by have := C.rd.lt; omega) (by omega)⟩, ?_, C.glt, C.bx.kept hk (.inl (by omega)), C.lo, ?_, ?_⟩
  · exact ⟨hk.os.trans C.kept.os, hk.tape.trans C.kept.tape, hk.output.trans C.kept.output, Nat.le_trans hz hk.size, fun i a b' => (hk.block i (Nat.lt_of_lt_of_le a hz) (by omega)).trans (C.kept.block i a b')⟩
  · refine ⟨by rw [cGate_length]; simpa using hlen, .inr ⟨g', cap, cur.setIfInBounds 2 (.int .i64 1), rfl, h1, heap_setCell_same wr g' 2 cur _ _ hh, hnc, hcm, by simp [hs], ?_⟩⟩
    rw [Array.toList_setIfInBounds, ← cGate_setB, ← ht, List.take_set]
  · refine ⟨C.ol.1, ?_⟩
    rcases C.ol.2 with h0 | ⟨g2, cap2, cur2, rfl, h12, hh2, r⟩
    · exact .inl h0
    · exact .inr ⟨g2, cap2, cur2, rfl, h12, by rw [hk.block g2 (Array.getElem?_eq_some_iff.1 hh2).1 (by have := htwo g2 rfl; simp [Value.ownBlock] at this; omega)]; exact hh2, r⟩
/-- the end: the variable is copied into the result's block -/
theorem CSt.fin {A1 A2 : Option Addr} {c1 c2 R : Nat} {w : World} (C : CSt w0 wr g hi q A n c bs B z (.slice A1 ng c1) (.slice A2 no c2) ng gs no os) (hR : R = w.heap.size) (hR0 : R < w0.heap.size) (hgR : g ≠ R) (K0 : Kept g (g + 1) w w0) (hW : w1 = ((wr.setCell ⟨R, 0, none⟩ (.int .i64 z)).setCell ⟨R, 1, none⟩ (.slice A1 ng c1)).setCell ⟨R, 2, none⟩ (.slice A2 no c2)) (RX : Bx w0 R #[.int .i64 0, .slice none 0 0, .slice none 0 0] 26) (hl : hi ≤ R) :
    Bx w1 R #[.int .i64 z, .slice A1 ng c1, .slice A2 no c2] 26 ∧ w1.ownsRow w.heap.size 30 3 (.slice A1 ng c1) ng (cGate gs) ∧ w1.ownsRow w.heap.size 3 1 (.slice A2 no c2) no (cI os) ∧ Rdr w1 g hi q A n c bs ∧ Kept g (g + 1) w w1 := by
  have hk : Kept R (R + 1) wr w1 := by
    rw [hW]
    exact (((Kept.refl R (R + 1) wr).setCell (p := ⟨R, 0, none⟩) (Nat.le_refl _) (Nat.lt_succ_self _) _).setCell (p := ⟨R, 1, none⟩) (Nat.le_refl _) (Nat.lt_succ_self _) _).setCell (p := ⟨R, 2, none⟩) (Nat.le_refl _) (Nat.lt_succ_self _) _
  have hB := C.lo
  have hz := C.kept.size
  refine ⟨?_, ?_, ?_, C.rd.move (hk.block g C.rd.lt (by omega)) ⟨hk.os, hk.tape, hk.output, hk.size, fun k h => hk.block k (by omega) (by omega)⟩, ?_⟩
  · have h1 := ((RX.kept C.kept (by omega)).set 0 (.int .i64 z)).set 1 (.slice A1 ng c1)
    have h2 := h1.set 2 (.slice A2 no c2)
    rw [hW]; exact h2
  · exact own_base (own_keptG C.gl hk (by omega)) (by omega)
  · exact own_base (own_keptG C.ol hk (by omega)) (by omega)
  · have h1 := K0.trans C.kept
    exact ⟨hk.os.trans h1.os, hk.tape.trans h1.tape, hk.output.trans h1.output, Nat.le_trans h1.size hk.size, fun i a b' => (hk.block i (Nat.lt_of_lt_of_le a h1.size) (by omega)).trans (h1.block i a b')⟩
section
variable {ops : Array Oper} {o : Oper} {a : Act} {K : Act → World → Prop} {Q : Exit → Act → World → Prop} {E : Prop} {W : World}
/-- append(c.Outs, number) in a region that draws -/
theorem CSt.stepO (hgd : o.guard = none) (s x : Operand) (ho : o.op = .call { callee := .builtin .append, args := #[s, x], argTypes := #[24, 24] })
    {g' : Nat} {u : Int} (hs : a.eval s = ov) (hx : a.eval x = .slice (some ⟨g', 0, none⟩) 1 1) (C : CSt w0 W g hi q A n c bs B z gv ov ng gs no os) (hl : W.heap[g']? = some (.cells #[.int .i64 u] 3 (0, 0))) (hno : no ≤ 100)
    (h : ∀ A3 c3 w3, Hid (Bx w3 B #[.int .i64 z, gv, ov] 26) → Hid (CSt w0 (w3.setCell ⟨B, 2, none⟩ (.slice A3 (no + 1) c3)) g hi q A n c bs B z gv (.slice A3 (no + 1) c3) ng gs (no + 1) (os ++ [u])) → K (a.put o.dst (.slice A3 (no + 1) c3)) w3) :
    if Region.wanted o (yielded ops a.tmps) = true then Oper.wp Try.prog o a W K Q else E := by
  refine step_append_rd hgd s x _ ho (B + 1) 3 _ 1 8 Try.underlying24 info_int rfl (by decide) ov no (cI os) hs C.ol _ _ 1 1 (cI [u]) hx (lit_at hl) (cI_one _) (by unfold maxLen; omega) (by omega) (by have := C.bx.lt; omega) ?_
  intro v3 w3 hown hg _
  obtain ⟨A3, c3, rfl, h1⟩ := Ow.of_own hown
  have HX := C.growO hg (v := .slice A3 (no + 1) c3) (os' := os ++ [u]) (by rw [cI_append]; exact hown)
  exact h A3 c3 w3 (Lib.hid HX.1) (Lib.hid HX.2.2)
end
end
end Go.Proofs.Ytbmjepmlalfpgaa

/- What the plain laws draw from bytes: a circuit. -/
namespace Go.Proofs.Ytbmjepmlalfpgaa
open Go.RowKit
set_option maxRecDepth 100000

theorem own_nilv (w : World) (B e s : Nat) : w.ownsRow B e s (.slice none 0 0) 0 [] := ⟨by simp, .inl ⟨rfl, rfl⟩⟩
set_option maxHeartbeats 8000000 in
theorem d_l91Circuit (g hi p : Nat) (A : Option Addr) (n c : Nat) (bs : List Int) (w : World) (h : Rdr w g hi p A n c bs) (hp : p < 900000) :
    Calls Try.prog 56 #[.pointer (some ⟨g, 0, none⟩)] w fun e w' => ∃ z A1 n1 c1 gs A2 n2 c2 os q, e = .returned (.agg #[.int .i64 z, .slice A1 n1 c1, .slice A2 n2 c2]) ∧ w'.ownsRow w.heap.size 30 3 (.slice A1 n1 c1) n1 (cGate gs) ∧ w'.ownsRow w.heap.size 3 1 (.slice A2 n2 c2) n2 (cI os) ∧ n1 ≤ 10 ∧ n2 ≤ 3 ∧ q ≤ p + 60 ∧ Rdr w' g hi q A n c bs ∧ Kept g (g + 1) w w' := by
  obtain ⟨w0, hw0⟩ : ∃ w0, Hid (w.alloc (.cells #[.int .i64 0, .slice none 0 0, .slice none 0 0] 26) = w0) := ⟨_, Lib.hid rfl⟩
  have H0 : Hid (Rdr w0 g hi p A n c bs) := Lib.hid (by rw [← hw0.out]; exact h.alloc _)
  have K0 : Hid (Kept g (g + 1) w w0) := Lib.hid (by rw [← hw0.out]; exact kept_alloc g (g + 1) w _)
  have HG : Hid (g < w0.heap.size) := Lib.hid H0.out.lt
  have RX : Hid (Bx w0 w.heap.size #[.int .i64 0, .slice none 0 0, .slice none 0 0] 26) := Lib.hid (by rw [← hw0.out]; exact Bx.new _ _ _)
  have HLO : Hid (hi ≤ w.heap.size) := Lib.hid (by have := h.lt; have := h.low; omega)
  have HGR : Hid (g ≠ w.heap.size) := Lib.hid (by have := h.lt; omega)
  clear h
  go_enter Try.func56, Try.ntmps56
  go_wp2_with fail
  rw [hw0.out]
  refine (d_pick _ _ _ _ _ _ _ _ _ H0.out (by omega) (by omega) (by omega)).mono ?_
  rintro e w1 ⟨z0, rfl, z01, z02, h1, k1⟩
  obtain ⟨Z, rfl⟩ := Int.eq_ofNat_of_zero_le z01
  have C1 : Hid (CSt w0 (w1.alloc (.cells #[.int .i64 (1 + (Z : Int)), .slice none 0 0, .slice none 0 0] 26)) g hi (p + 1) A n c bs w1.heap.size (1 + (Z : Int)) (.slice none 0 0) (.slice none 0 0) 0 [] 0 []) :=
    Lib.hid ⟨h1.alloc _, k1.trans (kept_alloc _ _ _ _), HG.out, Bx.new _ _ _, k1.size, own_nilv _ _ _ _, own_nilv _ _ _ _⟩
  clear h1 k1 H0
  have iz : IntKind.i64.wrap (1 + (Z : Int)) = 1 + (Z : Int) := IntWalk.i64_in _ (by omega)
  go_wp2
  go_loopw [4] (fun i wr => ∃ (k : Nat) (Ag : Option Addr) (cg : Nat) (gs : List (Int × Int × Int)), k ≤ Z + 1 ∧ i = .int .i64 k ∧ Hid (CSt w0 wr g hi (p + 1) A n c bs w1.heap.size (1 + (Z : Int)) (.slice Ag k cg) (.slice none 0 0) k gs 0 [])) (fun i _ => Z + 1 - (intOf i).toNat)
  case atStart => exact ⟨0, _, _, [], by omega, rfl, C1⟩
  case round =>
    clear C1
    obtain ⟨k, Ag, cg, gs, hk, rfl, CC⟩ := hrel
    have c0 : wr.cell? ⟨w1.heap.size, 0, none⟩ = some (.int .i64 (1 + (Z : Int))) := CC.out.bx.cell 0
    have c1 : wr.cell? ⟨w1.heap.size, 1, none⟩ = some (.slice Ag k cg) := CC.out.bx.cell 1
    by_cases hlt : k < Z + 1
    · have i1 : (k : Int) < 1 + (Z : Int) := by omega
      go_wp2_with (at_builtin
                   refine wpList_append_rd rfl (.tmp 20) (.tmp 23) _ rfl (w1.heap.size + 1) 30 _ 3 24 Try.underlying23 info_Gate rfl (by decide) (.slice Ag k cg) k _ rfl (CC.out.alloc _).gl _ _ 1 1 (cGate [(0, (k : Int), 0)]) rfl (lit_gate_at (heap_alloc_new _ _)) (cGate_one _) (by unfold maxLen; omega) (by omega) (by have := (CC.out.alloc (.cells #[.int .i64 0, .int .i64 (k : Int), .int .i64 0] 30)).bx.lt; omega) ?_
                   intro v6 w6 hown hgr hat
                   obtain ⟨A6, c6, hv6, ho6⟩ := Ow.of_own hown
                   subst hv6
                   have HX := (CC.out.alloc _).growG hgr (v := .slice A6 (k + 1) c6) (gs' := gs ++ [(0, (k : Int), 0)]) (by rw [cGate_append]; exact hown)
                   have f6 := HX.1.free 1
                   have d6 : w6.cell? ⟨w1.heap.size, 1, none⟩ = some (.slice Ag k cg) := HX.1.cell 1
                   have C6 := Lib.hid HX.2.2
                   clear HX hown hgr hat ho6)
      go_roundw
      case rel => exact ⟨k + 1, A6, c6, _, by omega, by go_num, C6⟩
      case measure => simp [intOf] <;> omega
    · have i1 : ¬ ((k : Int) < 1 + (Z : Int)) := by omega
      obtain rfl : k = Z + 1 := by omega
      clear hk i1
      go_wp2_with fail
      refine (d_pick _ _ _ _ _ _ _ _ _ CC.out.rd (by omega) (by omega) (by omega)).mono ?_
      rintro e w2 ⟨K0, rfl, K01, K02, h2, k2⟩
      obtain ⟨K, rfl⟩ := Int.eq_ofNat_of_zero_le K01
      have C2 := Lib.hid (CC.out.pick h2 k2)
      clear h2 k2 CC c0 c1
      go_wp2
      go_loopw [5, 6, 7] (fun kk nn gg wr => ∃ (k m q : Nat) (Ag : Option Addr) (cg : Nat) (gs : List (Int × Int × Int)), 1 ≤ m ∧ m + k ≤ 9 ∧ k ≤ 6 ∧ q + 4 * k ≤ p + 26 ∧ kk = .int .i64 k ∧ Hid (CSt w0 wr g hi q A n c bs w1.heap.size (1 + (Z : Int)) (.slice Ag m cg) (.slice none 0 0) m gs 0 [])) (fun kk _ _ _ => (intOf kk).toNat)
      case atStart => exact ⟨K, Z + 1, p + 2, Ag, cg, gs, by omega, by omega, by omega, by omega, rfl, C2⟩
      case round =>
        clear C2
        obtain ⟨k, m, q, Ag, cg, gs, hm1, hmk, hk6, hq, rfl, CC⟩ := hrel
        have c1 : wr.cell? ⟨w1.heap.size, 1, none⟩ = some (.slice Ag m cg) := CC.out.bx.cell 1
        by_cases h0 : k = 0
        · subst h0
          have hm9 : m ≤ 9 := by omega
          clear hmk hk6
          go_wp2_with fail
          refine (d_pick _ _ _ _ _ _ _ _ _ CC.out.rd (by omega) (by omega) (by omega)).mono ?_
          rintro e w3 ⟨k2, rfl, k20, k21, h3, k3⟩
          obtain ⟨K2, rfl⟩ := Int.eq_ofNat_of_zero_le k20
          have C3 := Lib.hid (CC.out.pick h3 k3)
          clear h3 k3 CC c1
          have iK : IntKind.i64.wrap (1 + (K2 : Int)) = 1 + (K2 : Int) := IntWalk.i64_in _ (by omega)
          go_wp2
          go_loopw [8] (fun kk wr => ∃ (k no q : Nat) (Ao : Option Addr) (co : Nat) (os : List Int), no + k ≤ 2 ∧ q + 2 * k ≤ p + 31 ∧ kk = .int .i64 k ∧ Hid (CSt w0 wr g hi q A n c bs w1.heap.size (1 + (Z : Int)) (.slice Ag m cg) (.slice Ao no co) m gs no os)) (fun kk _ => (intOf kk).toNat)
          case atStart => exact ⟨K2 + 1, 0, q + 1, none, 0, [], by omega, by omega, by go_num, C3⟩
          case round =>
            clear C3
            obtain ⟨k, no, q, Ao, co, os, hmk, hq, rfl, CC⟩ := hrel
            by_cases h0 : k = 0
            · subst h0
              have hno : no ≤ 2 := by omega
              clear hmk
              go_wp2_with fail
              refine (d_pick _ _ _ _ _ _ _ _ _ CC.out.rd (by omega) (by omega) (by omega)).mono ?_
              rintro e w4 ⟨s, rfl, s0, s1, h4, k4⟩
              have C4 := Lib.hid (CC.out.pick h4 k4)
              clear h4 k4 CC
              have HZR : Hid (w.heap.size < w0.heap.size) := Lib.hid RX.out.lt
              have HHR : Hid (hi ≤ w.heap.size) := Lib.hid HLO.out
              have nr : ¬ (w.heap.size = w1.heap.size) := by have := HZR.out; have := C4.out.lo; omega
              have nr' : ¬ (w1.heap.size = w.heap.size) := fun e => nr e.symm
              have R4 := RX.out.kept C4.out.kept (by have := HGR.out; omega)
              have r40 : w4.cell? ⟨w.heap.size, 0, none⟩ = some (.int .i64 0) := R4.cell 0
              have r41 : w4.cell? ⟨w.heap.size, 1, none⟩ = some (.slice none 0 0) := R4.cell 1
              have r42 : w4.cell? ⟨w.heap.size, 2, none⟩ = some (.slice none 0 0) := R4.cell 2
              have q40 : w4.frozen? ⟨w.heap.size, 0, none⟩ = false := R4.free 0
              have q41 : w4.frozen? ⟨w.heap.size, 1, none⟩ = false := R4.free 1
              have q42 : w4.frozen? ⟨w.heap.size, 2, none⟩ = false := R4.free 2
              clear R4
              have b40 : w4.cell? ⟨w1.heap.size, 0, none⟩ = some (.int .i64 (1 + (Z : Int))) := C4.out.bx.cell 0
              have b41 : w4.cell? ⟨w1.heap.size, 1, none⟩ = some (.slice Ag m cg) := C4.out.bx.cell 1
              have b42 : w4.cell? ⟨w1.heap.size, 2, none⟩ = some (.slice Ao no co) := C4.out.bx.cell 2
              have f40 : w4.frozen? ⟨w1.heap.size, 0, none⟩ = false := C4.out.bx.free 0
              have f41 : w4.frozen? ⟨w1.heap.size, 1, none⟩ = false := C4.out.bx.free 1
              have f42 : w4.frozen? ⟨w1.heap.size, 2, none⟩ = false := C4.out.bx.free 2
              by_cases e0 : s = 0
              · have t0 : (s == 0) = true := by simp [e0]
                clear e0 s0 s1
                go_wp2_with (at_builtin
                             refine wpList_append_rd rfl (.tmp 87) (.tmp 91) _ rfl (w1.heap.size + 1) 3 _ 1 8 Try.underlying24 info_int rfl (by decide) (.slice Ao no co) no _ rfl (C4.out.alloc _).ol _ _ 1 1 (cI [(m : Int)]) rfl (lit_at (hid_size (by simp) (heap_alloc_new _ _))) (cI_one _) (by unfold maxLen; omega) (by omega) (by have := C4.out.bx.lt; simp; omega) ?_
                             intro v6 w6 hown hgr hat
                             obtain ⟨A6, c6, hv6, ho6⟩ := Ow.of_own hown
                             subst hv6
                             have HX := (C4.out.alloc _).growO hgr (v := .slice A6 (no + 1) c6) (os' := os ++ [(m : Int)]) (by rw [cI_append]; exact hown)
                             have R6 := RX.out.kept HX.2.1 (by have := HGR.out; omega)
                             have r60 : w6.cell? ⟨w.heap.size, 0, none⟩ = some (.int .i64 0) := R6.cell 0
                             have r61 : w6.cell? ⟨w.heap.size, 1, none⟩ = some (.slice none 0 0) := R6.cell 1
                             have r62 : w6.cell? ⟨w.heap.size, 2, none⟩ = some (.slice none 0 0) := R6.cell 2
                             have q60 : w6.frozen? ⟨w.heap.size, 0, none⟩ = false := R6.free 0
                             have q61 : w6.frozen? ⟨w.heap.size, 1, none⟩ = false := R6.free 1
                             have q62 : w6.frozen? ⟨w.heap.size, 2, none⟩ = false := R6.free 2
                             clear R6
                             have b60 : w6.cell? ⟨w1.heap.size, 0, none⟩ = some (.int .i64 (1 + (Z : Int))) := HX.1.cell 0
                             have b61 : w6.cell? ⟨w1.heap.size, 1, none⟩ = some (.slice Ag m cg) := HX.1.cell 1
                             have b62 : w6.cell? ⟨w1.heap.size, 2, none⟩ = some (.slice Ao no co) := HX.1.cell 2
                             have f60 : w6.frozen? ⟨w1.heap.size, 0, none⟩ = false := HX.1.free 0
                             have f61 : w6.frozen? ⟨w1.heap.size, 1, none⟩ = false := HX.1.free 1
                             have f62 : w6.frozen? ⟨w1.heap.size, 2, none⟩ = false := HX.1.free 2
                             have C8 := Lib.hid HX.2.2
                             have HF := Lib.hid (C8.out.fin rfl (by have := HZR.out; omega) HGR.out K0.out rfl RX.out HHR.out)
                             clear HX hown hgr hat ho6)
                exact bodyPost_ret (v := .agg #[.int .i64 (1 + (Z : Int)), .slice Ag m cg, .slice A6 (no + 1) c6]) (resC rfl rfl HF.out.1) rfl ⟨_, _, _, _, _, _, _, _, _, _, rfl, HF.out.2.1, HF.out.2.2.1, by omega, by omega, by omega, HF.out.2.2.2.1, HF.out.2.2.2.2⟩
              have t0 : (s == 0) = false := by rw [beq_eq_false_iff_ne]; exact e0
              by_cases e1 : s = 1
              · have t1 : (s == 1) = true := by simp [e1]
                clear e0 e1 s0 s1
                go_wp2_with (at_builtin
                             refine wpList_append_rd rfl (.tmp 97) (.tmp 102) _ rfl (w1.heap.size + 1) 30 _ 3 24 Try.underlying23 info_Gate rfl (by decide) (.slice Ag m cg) m _ rfl (C4.out.alloc _).gl _ _ 1 1 (cGate [(2, 0, (m : Int))]) rfl (lit_gate_at (hid_size (by simp) (heap_alloc_new _ _))) (cGate_one _) (by unfold maxLen; omega) (by omega) (by have := C4.out.bx.lt; simp; omega) ?_
                             intro v6 w6 hown hgr hat
                             obtain ⟨A6, c6, hv6, ho6⟩ := Ow.of_own hown
                             subst hv6
                             have HX := (C4.out.alloc _).growG hgr (v := .slice A6 (m + 1) c6) (gs' := gs ++ [(2, 0, (m : Int))]) (by rw [cGate_append]; exact hown)
                             have R6 := RX.out.kept HX.2.1 (by have := HGR.out; omega)
                             have r60 : w6.cell? ⟨w.heap.size, 0, none⟩ = some (.int .i64 0) := R6.cell 0
                             have r61 : w6.cell? ⟨w.heap.size, 1, none⟩ = some (.slice none 0 0) := R6.cell 1
                             have r62 : w6.cell? ⟨w.heap.size, 2, none⟩ = some (.slice none 0 0) := R6.cell 2
                             have q60 : w6.frozen? ⟨w.heap.size, 0, none⟩ = false := R6.free 0
                             have q61 : w6.frozen? ⟨w.heap.size, 1, none⟩ = false := R6.free 1
                             have q62 : w6.frozen? ⟨w.heap.size, 2, none⟩ = false := R6.free 2
                             clear R6
                             have b60 : w6.cell? ⟨w1.heap.size, 0, none⟩ = some (.int .i64 (1 + (Z : Int))) := HX.1.cell 0
                             have b61 : w6.cell? ⟨w1.heap.size, 1, none⟩ = some (.slice Ag m cg) := HX.1.cell 1
                             have b62 : w6.cell? ⟨w1.heap.size, 2, none⟩ = some (.slice Ao no co) := HX.1.cell 2
                             have f60 : w6.frozen? ⟨w1.heap.size, 0, none⟩ = false := HX.1.free 0
                             have f61 : w6.frozen? ⟨w1.heap.size, 1, none⟩ = false := HX.1.free 1
                             have f62 : w6.frozen? ⟨w1.heap.size, 2, none⟩ = false := HX.1.free 2
                             have C8 := Lib.hid HX.2.2
                             have HF := Lib.hid (C8.out.fin rfl (by have := HZR.out; omega) HGR.out K0.out rfl RX.out HHR.out)
                             clear HX hown hgr hat ho6)
                exact bodyPost_ret (v := .agg #[.int .i64 (1 + (Z : Int)), .slice A6 (m + 1) c6, .slice Ao no co]) (resC rfl rfl HF.out.1) rfl ⟨_, _, _, _, _, _, _, _, _, _, rfl, HF.out.2.1, HF.out.2.2.1, by omega, by omega, by omega, HF.out.2.2.2.1, HF.out.2.2.2.2⟩
              have t1 : (s == 1) = false := by rw [beq_eq_false_iff_ne]; exact e1
              by_cases e2 : s = 2
              · have t2 : (s == 2) = true := by simp [e2]
                clear e0 e1 e2 s0 s1
                have C8 := Lib.hid (C4.out.setIn 7)
                have HF := Lib.hid (C8.out.fin rfl (by have := HZR.out; omega) HGR.out K0.out rfl RX.out HHR.out)
                go_wp2
                exact bodyPost_ret (v := .agg #[.int .i64 7, .slice Ag m cg, .slice Ao no co]) (resC rfl rfl HF.out.1) rfl ⟨_, _, _, _, _, _, _, _, _, _, rfl, HF.out.2.1, HF.out.2.2.1, by omega, by omega, by omega, HF.out.2.2.2.1, HF.out.2.2.2.2⟩
              have t2 : (s == 2) = false := by rw [beq_eq_false_iff_ne]; exact e2
              by_cases e3 : s = 3
              · have t3 : (s == 3) = true := by simp [e3]
                clear e0 e1 e2 e3 s0 s1
                obtain ⟨g', cg', hgv, hBg, hgl, ⟨u, hu⟩, hfu, gs', C8'⟩ := C4.out.setB (by omega)
                injection hgv with e1 e2 e3
                subst e1
                have C8 := Lib.hid C8'
                clear C8' e2 e3
                have HF := Lib.hid (C8.out.fin rfl (by have := HZR.out; omega) HGR.out K0.out rfl RX.out HHR.out)
                have ng1 : ¬ (g' = w1.heap.size) := by omega
                have ng1' : ¬ (w1.heap.size = g') := by omega
                have ng2 : ¬ (g' = w.heap.size) := by have := HZR.out; have := C8.out.lo; omega
                have ng2' : ¬ (w.heap.size = g') := fun e => ng2 e.symm
                have i1 : (0 : Int) < (m : Int) := by omega
                go_wp2
                exact bodyPost_ret (v := .agg #[.int .i64 (1 + (Z : Int)), .slice (some ⟨g', 0, none⟩) m cg, .slice Ao no co]) (resC rfl rfl HF.out.1) rfl ⟨_, _, _, _, _, _, _, _, _, _, rfl, HF.out.2.1, HF.out.2.2.1, by omega, by omega, by omega, HF.out.2.2.2.1, HF.out.2.2.2.2⟩
              have t3 : (s == 3) = false := by rw [beq_eq_false_iff_ne]; exact e3
              clear e0 e1 e2 e3 s0 s1
              have HF := Lib.hid (C4.out.fin rfl (by have := HZR.out; omega) HGR.out K0.out rfl RX.out HHR.out)
              go_wp2
              exact bodyPost_ret (v := .agg #[.int .i64 (1 + (Z : Int)), .slice Ag m cg, .slice Ao no co]) (resC rfl rfl HF.out.1) rfl ⟨_, _, _, _, _, _, _, _, _, _, rfl, HF.out.2.1, HF.out.2.2.1, by omega, by omega, by omega, HF.out.2.2.2.1, HF.out.2.2.2.2⟩
            · obtain ⟨k', rfl⟩ : ∃ k', k = k' + 1 := ⟨k - 1, by omega⟩
              have i0 : (0 : Int) < (k' : Int) + 1 := by omega
              have im : IntKind.i64.wrap ((m : Int) - 1) = (m : Int) - 1 := IntWalk.i64_in _ (by omega)
              have g0 : wr.cell? ⟨w1.heap.size, 1, none⟩ = some (.slice Ag m cg) := CC.out.bx.cell 1
              have o0 : wr.cell? ⟨w1.heap.size, 2, none⟩ = some (.slice Ao no co) := CC.out.bx.cell 2
              go_wp2_with fail
              refine wp_region_held_drew (S := fun w' => w'.cell? ⟨w1.heap.size, 1, none⟩ = some (.slice Ag m cg)) (by kernel_rfl) g0 (fun hHeld => ?_)
              refine wpAnyH_take (i := 0) (oi := { dst := some 64, op := Op.fieldAddr 26 (Operand.tmp 3) 2, type := 0, pos := "l91_draw.go:141", after := #[], guard := none }) (v := ?_) rfl (by kernel_rfl) (by kernel_rfl) (by kernel_rfl) (fun _ _ _ h => h) (Or.inl ⟨by rfl, ?_⟩) hHeld ?_
              rotate_left
              · intro w hSw; (try dsimp only at hSw); go_simp; (try with_reducible rfl)
              try simp only [Act.put, List.setIfInBounds_toArray, List.set_cons_zero, List.set_cons_succ]
              refine wpAnyH_take (i := 2) (oi := { dst := some 66, op := Op.fieldAddr 26 (Operand.tmp 3) 1, type := 0, pos := "l91_draw.go:141", after := #[], guard := none }) (v := ?_) rfl (by kernel_rfl) (by kernel_rfl) (by kernel_rfl) (fun _ _ _ h => h) (Or.inl ⟨by rfl, ?_⟩) hHeld ?_
              rotate_left
              · intro w hSw; (try dsimp only at hSw); go_simp; (try with_reducible rfl)
              try simp only [Act.put, List.setIfInBounds_toArray, List.set_cons_zero, List.set_cons_succ]
              refine wpAnyH_take (i := 3) (oi := { dst := some 67, op := Op.load 23 (Operand.tmp 66), type := 23, pos := "l91_draw.go:141", after := #[{ on := 2, ground := Ground.data }], guard := none }) (v := ?_) rfl (by kernel_rfl) (by kernel_rfl) (by kernel_rfl) (fun _ _ _ h => h) (Or.inl ⟨by rfl, ?_⟩) hHeld ?_
              rotate_left
              · intro w hSw; (try dsimp only at hSw); go_simp; (try with_reducible rfl)
              try simp only [Act.put, List.setIfInBounds_toArray, List.set_cons_zero, List.set_cons_succ]
              refine wpAnyH_take (i := 4) (oi := { dst := some 68, op := Op.call { callee := Callee.builtin Builtin.len, args := #[Operand.tmp 67], argTypes := #[23] }, type := 3, pos := "l91_draw.go:141", after := #[{ on := 3, ground := Ground.data }], guard := none }) (v := ?_) rfl (by kernel_rfl) (by kernel_rfl) (by kernel_rfl) (fun _ _ _ h => h) (Or.inl ⟨by rfl, ?_⟩) hHeld ?_
              rotate_left
              · intro w hSw; (try dsimp only at hSw); go_simp; (try with_reducible rfl)
              try simp only [Act.put, List.setIfInBounds_toArray, List.set_cons_zero, List.set_cons_succ]
              refine wpAnyH_take (i := 5) (oi := { dst := some 69, op := Op.binOp BinOp.sub 3 (Operand.tmp 68) (Operand.const (Value.int IntKind.i64 1)) 3, type := 3, pos := "l91_draw.go:141", after := #[{ on := 4, ground := Ground.data }], guard := none }) (v := ?_) rfl (by kernel_rfl) (by kernel_rfl) (by kernel_rfl) (fun _ _ _ h => h) (Or.inl ⟨by rfl, ?_⟩) hHeld ?_
              rotate_left
              · intro w hSw; (try dsimp only at hSw); go_simp; (try with_reducible rfl)
              try simp only [Act.put, List.setIfInBounds_toArray, List.set_cons_zero, List.set_cons_succ]
              refine wpAnyH_take (i := 6) (oi := { dst := some 70, op := Op.move (Operand.tmp 0), type := 78, pos := "l91_draw.go:141", after := #[], guard := none }) (v := ?_) rfl (by kernel_rfl) (by kernel_rfl) (by kernel_rfl) (fun _ _ _ h => h) (Or.inl ⟨by rfl, ?_⟩) hHeld ?_
              rotate_left
              · intro w hSw; (try dsimp only at hSw); go_simp; (try with_reducible rfl)
              try simp only [Act.put, List.setIfInBounds_toArray, List.set_cons_zero, List.set_cons_succ]
              refine wpAnyH_take (i := 8) (oi := { dst := some 72, op := Op.move (Operand.tmp 0), type := 78, pos := "l91_draw.go:141", after := #[], guard := none }) (v := ?_) rfl (by kernel_rfl) (by kernel_rfl) (by kernel_rfl) (fun _ _ _ h => h) (Or.inl ⟨by rfl, ?_⟩) hHeld ?_
              rotate_left
              · intro w hSw; (try dsimp only at hSw); go_simp; (try with_reducible rfl)
              try simp only [Act.put, List.setIfInBounds_toArray, List.set_cons_zero, List.set_cons_succ]
              refine wpAnyH_take (i := 9) (oi := { dst := some 73, op := Op.fieldAddr 26 (Operand.tmp 3) 1, type := 0, pos := "l91_draw.go:141", after := #[], guard := none }) (v := ?_) rfl (by kernel_rfl) (by kernel_rfl) (by kernel_rfl) (fun _ _ _ h => h) (Or.inl ⟨by rfl, ?_⟩) hHeld ?_
              rotate_left
              · intro w hSw; (try dsimp only at hSw); go_simp; (try with_reducible rfl)
              try simp only [Act.put, List.setIfInBounds_toArray, List.set_cons_zero, List.set_cons_succ]
              refine wpAnyH_take (i := 10) (oi := { dst := some 74, op := Op.load 23 (Operand.tmp 73), type := 23, pos := "l91_draw.go:141", after := #[{ on := 9, ground := Ground.data }], guard := none }) (v := ?_) rfl (by kernel_rfl) (by kernel_rfl) (by kernel_rfl) (fun _ _ _ h => h) (Or.inl ⟨by rfl, ?_⟩) hHeld ?_
              rotate_left
              · intro w hSw; (try dsimp only at hSw); go_simp; (try with_reducible rfl)
              try simp only [Act.put, List.setIfInBounds_toArray, List.set_cons_zero, List.set_cons_succ]
              refine wpAnyH_take (i := 11) (oi := { dst := some 75, op := Op.call { callee := Callee.builtin Builtin.len, args := #[Operand.tmp 74], argTypes := #[23] }, type := 3, pos := "l91_draw.go:141", after := #[{ on := 10, ground := Ground.data }], guard := none }) (v := ?_) rfl (by kernel_rfl) (by kernel_rfl) (by kernel_rfl) (fun _ _ _ h => h) (Or.inl ⟨by rfl, ?_⟩) hHeld ?_
              rotate_left
              · intro w hSw; (try dsimp only at hSw); go_simp; (try with_reducible rfl)
              try simp only [Act.put, List.setIfInBounds_toArray, List.set_cons_zero, List.set_cons_succ]
              refine wpAnyH_ready (rs := [1, 7]) (by kernel_rfl) (by simp) ?_
              refine AllReadyH.cons (o := { dst := some 65, op := Op.load 24 (Operand.tmp 64), type := 24, pos := "l91_draw.go:141", after := #[{ on := 0, ground := Ground.data }], guard := none }) rfl (fun K hK => ?_) ?_
              · go_simp
                refine hK.out _ _ (by first | exact hHeld | go_keep | (simp [*, World.cell?_setCell_other])) (fun hHeld => ?_)
                clear hK K
                try simp only [Act.put, List.setIfInBounds_toArray, List.set_cons_zero, List.set_cons_succ]
                refine wpAnyH_ready (rs := [7]) (by kernel_rfl) (by simp) ?_
                refine AllReadyH.cons (o := { dst := some 71, op := Op.call { callee := Callee.value (Operand.func 64), args := #[Operand.tmp 70, Operand.const (Value.int IntKind.i64 2)], argTypes := #[78, 3] }, type := 3, pos := "l91_draw.go:141", after := #[{ on := 6, ground := Ground.data }], guard := none }) rfl (fun K hK => ?_) ?_
                · go_simp
                  refine (d_pick g hi q A n c bs 2 wr.drew CC.out.drew.rd (by omega) (by omega) (by omega)).mono ?_
                  rintro e w3 ⟨x, rfl, x0, x1, h3, k3⟩
                  have C3 := Lib.hid (CC.out.drew.pick h3 k3)
                  have g3 : w3.cell? ⟨w1.heap.size, 1, none⟩ = some (.slice Ag m cg) := C3.out.bx.cell 1
                  have o3 : w3.cell? ⟨w1.heap.size, 2, none⟩ = some (.slice Ao no co) := C3.out.bx.cell 2
                  clear h3 k3 hHeld
                  (try dsimp only)
                  (try go_wp2_with fail)
                  refine hK.out _ _ (by first | exact hHeld | go_keep | (simp [*, World.cell?_setCell_other])) (fun hHeld => ?_)
                  clear hK K
                  try simp only [Act.put, List.setIfInBounds_toArray, List.set_cons_zero, List.set_cons_succ]
                  refine wpAnyH_ready (rs := [12]) (by kernel_rfl) (by simp) ?_
                  refine AllReadyH.cons (o := { dst := some 76, op := Op.call { callee := Callee.value (Operand.func 64), args := #[Operand.tmp 72, Operand.tmp 75], argTypes := #[78, 3] }, type := 3, pos := "l91_draw.go:141", after := #[{ on := 8, ground := Ground.data }, { on := 11, ground := Ground.data }, { on := 7, ground := Ground.chain }], guard := none }) rfl (fun K hK => ?_) ?_
                  · go_simp
                    refine (d_pick g hi (q + 1) A n c bs (m : Int) w3 C3.out.rd (by omega) (by omega) (by omega)).mono ?_
                    rintro e w4 ⟨y, rfl, y0, y1, h4, k4⟩
                    have C4 := Lib.hid (C3.out.pick h4 k4)
                    have g4 : w4.cell? ⟨w1.heap.size, 1, none⟩ = some (.slice Ag m cg) := C4.out.bx.cell 1
                    have o4 : w4.cell? ⟨w1.heap.size, 2, none⟩ = some (.slice Ao no co) := C4.out.bx.cell 2
                    have xy : 0 ≤ x * y ∧ x * y ≤ 9 := by rcases (show x = 0 ∨ x = 1 by omega) with rfl | rfl <;> omega
                    have ixy : IntKind.i64.wrap (x * y) = x * y := IntWalk.i64_in _ (by omega)
                    have imxy : IntKind.i64.wrap ((m : Int) - 1 - x * y) = (m : Int) - 1 - x * y := IntWalk.i64_in _ (by omega)
                    clear h4 k4 hHeld
                    (try dsimp only)
                    (try go_wp2_with fail)
                    refine hK.out _ _ (by first | exact hHeld | go_keep | (simp [*, World.cell?_setCell_other])) (fun hHeld => ?_)
                    clear hK K
                    try simp only [Act.put, List.setIfInBounds_toArray, List.set_cons_zero, List.set_cons_succ]
                    refine wpAnyH_take (i := 13) (oi := { dst := some 77, op := Op.binOp BinOp.mul 3 (Operand.tmp 71) (Operand.tmp 76) 3, type := 3, pos := "l91_draw.go:141", after := #[{ on := 7, ground := Ground.data }, { on := 12, ground := Ground.data }], guard := none }) (v := ?_) rfl (by kernel_rfl) (by kernel_rfl) (by kernel_rfl) (fun _ _ _ h => h) (Or.inl ⟨by rfl, ?_⟩) hHeld ?_
                    rotate_left
                    · intro w hSw; (try dsimp only at hSw); go_simp; (try with_reducible rfl)
                    try simp only [Act.put, List.setIfInBounds_toArray, List.set_cons_zero, List.set_cons_succ]
                    refine wpAnyH_take (i := 14) (oi := { dst := some 78, op := Op.binOp BinOp.sub 3 (Operand.tmp 69) (Operand.tmp 77) 3, type := 3, pos := "l91_draw.go:141", after := #[{ on := 5, ground := Ground.data }, { on := 13, ground := Ground.data }], guard := none }) (v := ?_) rfl (by kernel_rfl) (by kernel_rfl) (by kernel_rfl) (fun _ _ _ h => h) (Or.inl ⟨by rfl, ?_⟩) hHeld ?_
                    rotate_left
                    · intro w hSw; (try dsimp only at hSw); go_simp; (try with_reducible rfl)
                    try simp only [Act.put, List.setIfInBounds_toArray, List.set_cons_zero, List.set_cons_succ]
                    refine wpAnyH_ready (rs := [15]) (by kernel_rfl) (by simp) ?_
                    refine AllReadyH.cons (o := { dst := some 79, op := Op.buildSlice 24 1 #[(0, Operand.tmp 78)], type := 24, pos := "l91_draw.go:141", after := #[{ on := 14, ground := Ground.data }], guard := none }) rfl (fun K hK => ?_) ?_
                    · go_simp
                      refine hK.out _ _ (by first | exact hHeld | go_keep | (simp [*, World.cell?_setCell_other])) (fun hHeld => ?_)
                      clear hK K
                      try simp only [Act.put, List.setIfInBounds_toArray, List.set_cons_zero, List.set_cons_succ]
                      refine wpAnyH_ready (rs := [16]) (by kernel_rfl) (by simp) ?_
                      refine AllReadyH.cons (o := { dst := some 80, op := Op.call { callee := Callee.builtin Builtin.append, args := #[Operand.tmp 65, Operand.tmp 79], argTypes := #[24, 24] }, type := 24, pos := "l91_draw.go:141", after := #[{ on := 1, ground := Ground.data }, { on := 15, ground := Ground.data }, { on := 12, ground := Ground.chain }], guard := none }) rfl (fun K hK => ?_) ?_
                      · refine CSt.stepO rfl (.tmp 65) (.tmp 79) rfl rfl rfl (C4.out.alloc _) (hid_size (by simp) (heap_alloc_new _ _)) (by omega) ?_
                        intro A3 c3 w5 HB5 HC5
                        have g5 : w5.cell? ⟨w1.heap.size, 1, none⟩ = some (.slice Ag m cg) := HB5.out.cell 1
                        have o5 : w5.cell? ⟨w1.heap.size, 2, none⟩ = some (.slice Ao no co) := HB5.out.cell 2
                        have f5 : w5.frozen? ⟨w1.heap.size, 2, none⟩ = false := HB5.out.free 2
                        clear hHeld
                        refine hK.out _ _ (by first | exact hHeld | go_keep | (simp [*, World.cell?_setCell_other])) (fun hHeld => ?_)
                        clear hK K
                        try simp only [Act.put, List.setIfInBounds_toArray, List.set_cons_zero, List.set_cons_succ]
                        refine wpAnyH_take (i := 17) (oi := { dst := some 81, op := Op.fieldAddr 26 (Operand.tmp 3) 2, type := 0, pos := "l91_draw.go:141", after := #[{ on := 0, ground := Ground.phase }, { on := 1, ground := Ground.phase }, { on := 2, ground := Ground.phase }, { on := 3, ground := Ground.phase }, { on := 4, ground := Ground.phase }, { on := 5, ground := Ground.phase }, { on := 6, ground := Ground.phase }, { on := 7, ground := Ground.phase }, { on := 8, ground := Ground.phase }, { on := 9, ground := Ground.phase }, { on := 10, ground := Ground.phase }, { on := 11, ground := Ground.phase }, { on := 12, ground := Ground.phase }, { on := 13, ground := Ground.phase }, { on := 14, ground := Ground.phase }, { on := 15, ground := Ground.phase }, { on := 16, ground := Ground.phase }], guard := none }) (v := ?_) rfl (by kernel_rfl) (by kernel_rfl) (by kernel_rfl) (fun _ _ _ h => h) (Or.inl ⟨by rfl, ?_⟩) hHeld ?_
                        rotate_left
                        · intro w hSw; (try dsimp only at hSw); go_simp; (try with_reducible rfl)
                        try simp only [Act.put, List.setIfInBounds_toArray, List.set_cons_zero, List.set_cons_succ]
                        refine wpAnyH_ready (rs := [18]) (by kernel_rfl) (by simp) ?_
                        refine AllReadyH.cons (o := { dst := none, op := Op.store 24 (Operand.tmp 81) (Operand.tmp 80), type := 0, pos := "l91_draw.go:141", after := #[{ on := 17, ground := Ground.data }, { on := 16, ground := Ground.data }, { on := 16, ground := Ground.chain }, { on := 0, ground := Ground.phase }, { on := 1, ground := Ground.phase }, { on := 2, ground := Ground.phase }, { on := 3, ground := Ground.phase }, { on := 4, ground := Ground.phase }, { on := 5, ground := Ground.phase }, { on := 6, ground := Ground.phase }, { on := 7, ground := Ground.phase }, { on := 8, ground := Ground.phase }, { on := 9, ground := Ground.phase }, { on := 10, ground := Ground.phase }, { on := 11, ground := Ground.phase }, { on := 12, ground := Ground.phase }, { on := 13, ground := Ground.phase }, { on := 14, ground := Ground.phase }, { on := 15, ground := Ground.phase }, { on := 16, ground := Ground.phase }], guard := none }) rfl (fun K hK => ?_) ?_
                        · go_simp
                          refine hK.out _ _ (by first | exact hHeld | go_keep | (simp [*, World.cell?_setCell_other])) (fun hHeld => ?_)
                          clear hK K
                          try simp only [Act.put]
                          refine wpAnyH_done (by kernel_rfl) ?_ _
                          go_wp2
                          go_roundw
                          case rel => exact ⟨k', no + 1, q + 1 + 1, A3, c3, _, by omega, by omega, by go_num, HC5⟩
                          case measure => simp [intOf] <;> omega
                        exact AllReadyH.nil
                      exact AllReadyH.nil
                    exact AllReadyH.nil
                  exact AllReadyH.nil
                exact AllReadyH.nil
              refine AllReadyH.cons (o := { dst := some 71, op := Op.call { callee := Callee.value (Operand.func 64), args := #[Operand.tmp 70, Operand.const (Value.int IntKind.i64 2)], argTypes := #[78, 3] }, type := 3, pos := "l91_draw.go:141", after := #[{ on := 6, ground := Ground.data }], guard := none }) rfl (fun K hK => ?_) ?_
              · go_simp
                refine (d_pick g hi q A n c bs 2 wr.drew CC.out.drew.rd (by omega) (by omega) (by omega)).mono ?_
                rintro e w3 ⟨x, rfl, x0, x1, h3, k3⟩
                have C3 := Lib.hid (CC.out.drew.pick h3 k3)
                have g3 : w3.cell? ⟨w1.heap.size, 1, none⟩ = some (.slice Ag m cg) := C3.out.bx.cell 1
                have o3 : w3.cell? ⟨w1.heap.size, 2, none⟩ = some (.slice Ao no co) := C3.out.bx.cell 2
                clear h3 k3 hHeld
                (try dsimp only)
                (try go_wp2_with fail)
                refine hK.out _ _ (by first | exact hHeld | go_keep | (simp [*, World.cell?_setCell_other])) (fun hHeld => ?_)
                clear hK K
                try simp only [Act.put, List.setIfInBounds_toArray, List.set_cons_zero, List.set_cons_succ]
                refine wpAnyH_ready (rs := [1, 12]) (by kernel_rfl) (by simp) ?_
                refine AllReadyH.cons (o := { dst := some 65, op := Op.load 24 (Operand.tmp 64), type := 24, pos := "l91_draw.go:141", after := #[{ on := 0, ground := Ground.data }], guard := none }) rfl (fun K hK => ?_) ?_
                · go_simp
                  refine hK.out _ _ (by first | exact hHeld | go_keep | (simp [*, World.cell?_setCell_other])) (fun hHeld => ?_)
                  clear hK K
                  try simp only [Act.put, List.setIfInBounds_toArray, List.set_cons_zero, List.set_cons_succ]
                  refine wpAnyH_ready (rs := [12]) (by kernel_rfl) (by simp) ?_
                  refine AllReadyH.cons (o := { dst := some 76, op := Op.call { callee := Callee.value (Operand.func 64), args := #[Operand.tmp 72, Operand.tmp 75], argTypes := #[78, 3] }, type := 3, pos := "l91_draw.go:141", after := #[{ on := 8, ground := Ground.data }, { on := 11, ground := Ground.data }, { on := 7, ground := Ground.chain }], guard := none }) rfl (fun K hK => ?_) ?_
                  · go_simp
                    refine (d_pick g hi (q + 1) A n c bs (m : Int) w3 C3.out.rd (by omega) (by omega) (by omega)).mono ?_
                    rintro e w4 ⟨y, rfl, y0, y1, h4, k4⟩
                    have C4 := Lib.hid (C3.out.pick h4 k4)
                    have g4 : w4.cell? ⟨w1.heap.size, 1, none⟩ = some (.slice Ag m cg) := C4.out.bx.cell 1
                    have o4 : w4.cell? ⟨w1.heap.size, 2, none⟩ = some (.slice Ao no co) := C4.out.bx.cell 2
                    have xy : 0 ≤ x * y ∧ x * y ≤ 9 := by rcases (show x = 0 ∨ x = 1 by omega) with rfl | rfl <;> omega
                    have ixy : IntKind.i64.wrap (x * y) = x * y := IntWalk.i64_in _ (by omega)
                    have imxy : IntKind.i64.wrap ((m : Int) - 1 - x * y) = (m : Int) - 1 - x * y := IntWalk.i64_in _ (by omega)
                    clear h4 k4 hHeld
                    (try dsimp only)
                    (try go_wp2_with fail)
                    refine hK.out _ _ (by first | exact hHeld | go_keep | (simp [*, World.cell?_setCell_other])) (fun hHeld => ?_)
                    clear hK K
                    try simp only [Act.put, List.setIfInBounds_toArray, List.set_cons_zero, List.set_cons_succ]
                    refine wpAnyH_take (i := 13) (oi := { dst := some 77, op := Op.binOp BinOp.mul 3 (Operand.tmp 71) (Operand.tmp 76) 3, type := 3, pos := "l91_draw.go:141", after := #[{ on := 7, ground := Ground.data }, { on := 12, ground := Ground.data }], guard := none }) (v := ?_) rfl (by kernel_rfl) (by kernel_rfl) (by kernel_rfl) (fun _ _ _ h => h) (Or.inl ⟨by rfl, ?_⟩) hHeld ?_
                    rotate_left
                    · intro w hSw; (try dsimp only at hSw); go_simp; (try with_reducible rfl)
                    try simp only [Act.put, List.setIfInBounds_toArray, List.set_cons_zero, List.set_cons_succ]
                    refine wpAnyH_take (i := 14) (oi := { dst := some 78, op := Op.binOp BinOp.sub 3 (Operand.tmp 69) (Operand.tmp 77) 3, type := 3, pos := "l91_draw.go:141", after := #[{ on := 5, ground := Ground.data }, { on := 13, ground := Ground.data }], guard := none }) (v := ?_) rfl (by kernel_rfl) (by kernel_rfl) (by kernel_rfl) (fun _ _ _ h => h) (Or.inl ⟨by rfl, ?_⟩) hHeld ?_
                    rotate_left
                    · intro w hSw; (try dsimp only at hSw); go_simp; (try with_reducible rfl)
                    try simp only [Act.put, List.setIfInBounds_toArray, List.set_cons_zero, List.set_cons_succ]
                    refine wpAnyH_ready (rs := [15]) (by kernel_rfl) (by simp) ?_
                    refine AllReadyH.cons (o := { dst := some 79, op := Op.buildSlice 24 1 #[(0, Operand.tmp 78)], type := 24, pos := "l91_draw.go:141", after := #[{ on := 14, ground := Ground.data }], guard := none }) rfl (fun K hK => ?_) ?_
                    · go_simp
                      refine hK.out _ _ (by first | exact hHeld | go_keep | (simp [*, World.cell?_setCell_other])) (fun hHeld => ?_)
                      clear hK K
                      try simp only [Act.put, List.setIfInBounds_toArray, List.set_cons_zero, List.set_cons_succ]
                      refine wpAnyH_ready (rs := [16]) (by kernel_rfl) (by simp) ?_
                      refine AllReadyH.cons (o := { dst := some 80, op := Op.call { callee := Callee.builtin Builtin.append, args := #[Operand.tmp 65, Operand.tmp 79], argTypes := #[24, 24] }, type := 24, pos := "l91_draw.go:141", after := #[{ on := 1, ground := Ground.data }, { on := 15, ground := Ground.data }, { on := 12, ground := Ground.chain }], guard := none }) rfl (fun K hK => ?_) ?_
                      · refine CSt.stepO rfl (.tmp 65) (.tmp 79) rfl rfl rfl (C4.out.alloc _) (hid_size (by simp) (heap_alloc_new _ _)) (by omega) ?_
                        intro A3 c3 w5 HB5 HC5
                        have g5 : w5.cell? ⟨w1.heap.size, 1, none⟩ = some (.slice Ag m cg) := HB5.out.cell 1
                        have o5 : w5.cell? ⟨w1.heap.size, 2, none⟩ = some (.slice Ao no co) := HB5.out.cell 2
                        have f5 : w5.frozen? ⟨w1.heap.size, 2, none⟩ = false := HB5.out.free 2
                        clear hHeld
                        refine hK.out _ _ (by first | exact hHeld | go_keep | (simp [*, World.cell?_setCell_other])) (fun hHeld => ?_)
                        clear hK K
                        try simp only [Act.put, List.setIfInBounds_toArray, List.set_cons_zero, List.set_cons_succ]
                        refine wpAnyH_take (i := 17) (oi := { dst := some 81, op := Op.fieldAddr 26 (Operand.tmp 3) 2, type := 0, pos := "l91_draw.go:141", after := #[{ on := 0, ground := Ground.phase }, { on := 1, ground := Ground.phase }, { on := 2, ground := Ground.phase }, { on := 3, ground := Ground.phase }, { on := 4, ground := Ground.phase }, { on := 5, ground := Ground.phase }, { on := 6, ground := Ground.phase }, { on := 7, ground := Ground.phase }, { on := 8, ground := Ground.phase }, { on := 9, ground := Ground.phase }, { on := 10, ground := Ground.phase }, { on := 11, ground := Ground.phase }, { on := 12, ground := Ground.phase }, { on := 13, ground := Ground.phase }, { on := 14, ground := Ground.phase }, { on := 15, ground := Ground.phase }, { on := 16, ground := Ground.phase }], guard := none }) (v := ?_) rfl (by kernel_rfl) (by kernel_rfl) (by kernel_rfl) (fun _ _ _ h => h) (Or.inl ⟨by rfl, ?_⟩) hHeld ?_
                        rotate_left
                        · intro w hSw; (try dsimp only at hSw); go_simp; (try with_reducible rfl)
                        try simp only [Act.put, List.setIfInBounds_toArray, List.set_cons_zero, List.set_cons_succ]
                        refine wpAnyH_ready (rs := [18]) (by kernel_rfl) (by simp) ?_
                        refine AllReadyH.cons (o := { dst := none, op := Op.store 24 (Operand.tmp 81) (Operand.tmp 80), type := 0, pos := "l91_draw.go:141", after := #[{ on := 17, ground := Ground.data }, { on := 16, ground := Ground.data }, { on := 16, ground := Ground.chain }, { on := 0, ground := Ground.phase }, { on := 1, ground := Ground.phase }, { on := 2, ground := Ground.phase }, { on := 3, ground := Ground.phase }, { on := 4, ground := Ground.phase }, { on := 5, ground := Ground.phase }, { on := 6, ground := Ground.phase }, { on := 7, ground := Ground.phase }, { on := 8, ground := Ground.phase }, { on := 9, ground := Ground.phase }, { on := 10, ground := Ground.phase }, { on := 11, ground := Ground.phase }, { on := 12, ground := Ground.phase }, { on := 13, ground := Ground.phase }, { on := 14, ground := Ground.phase }, { on := 15, ground := Ground.phase }, { on := 16, ground := Ground.phase }], guard := none }) rfl (fun K hK => ?_) ?_
                        · go_simp
                          refine hK.out _ _ (by first | exact hHeld | go_keep | (simp [*, World.cell?_setCell_other])) (fun hHeld => ?_)
                          clear hK K
                          try simp only [Act.put]
                          refine wpAnyH_done (by kernel_rfl) ?_ _
                          go_wp2
                          go_roundw
                          case rel => exact ⟨k', no + 1, q + 1 + 1, A3, c3, _, by omega, by omega, by go_num, HC5⟩
                          case measure => simp [intOf] <;> omega
                        exact AllReadyH.nil
                      exact AllReadyH.nil
                    exact AllReadyH.nil
                  exact AllReadyH.nil
                refine AllReadyH.cons (o := { dst := some 76, op := Op.call { callee := Callee.value (Operand.func 64), args := #[Operand.tmp 72, Operand.tmp 75], argTypes := #[78, 3] }, type := 3, pos := "l91_draw.go:141", after := #[{ on := 8, ground := Ground.data }, { on := 11, ground := Ground.data }, { on := 7, ground := Ground.chain }], guard := none }) rfl (fun K hK => ?_) ?_
                · go_simp
                  refine (d_pick g hi (q + 1) A n c bs (m : Int) w3 C3.out.rd (by omega) (by omega) (by omega)).mono ?_
                  rintro e w4 ⟨y, rfl, y0, y1, h4, k4⟩
                  have C4 := Lib.hid (C3.out.pick h4 k4)
                  have g4 : w4.cell? ⟨w1.heap.size, 1, none⟩ = some (.slice Ag m cg) := C4.out.bx.cell 1
                  have o4 : w4.cell? ⟨w1.heap.size, 2, none⟩ = some (.slice Ao no co) := C4.out.bx.cell 2
                  have xy : 0 ≤ x * y ∧ x * y ≤ 9 := by rcases (show x = 0 ∨ x = 1 by omega) with rfl | rfl <;> omega
                  have ixy : IntKind.i64.wrap (x * y) = x * y := IntWalk.i64_in _ (by omega)
                  have imxy : IntKind.i64.wrap ((m : Int) - 1 - x * y) = (m : Int) - 1 - x * y := IntWalk.i64_in _ (by omega)
                  clear h4 k4 hHeld
                  (try dsimp only)
                  (try go_wp2_with fail)
                  refine hK.out _ _ (by first | exact hHeld | go_keep | (simp [*, World.cell?_setCell_other])) (fun hHeld => ?_)
                  clear hK K
                  try simp only [Act.put, List.setIfInBounds_toArray, List.set_cons_zero, List.set_cons_succ]
                  refine wpAnyH_take (i := 13) (oi := { dst := some 77, op := Op.binOp BinOp.mul 3 (Operand.tmp 71) (Operand.tmp 76) 3, type := 3, pos := "l91_draw.go:141", after := #[{ on := 7, ground := Ground.data }, { on := 12, ground := Ground.data }], guard := none }) (v := ?_) rfl (by kernel_rfl) (by kernel_rfl) (by kernel_rfl) (fun _ _ _ h => h) (Or.inl ⟨by rfl, ?_⟩) hHeld ?_
                  rotate_left
                  · intro w hSw; (try dsimp only at hSw); go_simp; (try with_reducible rfl)
                  try simp only [Act.put, List.setIfInBounds_toArray, List.set_cons_zero, List.set_cons_succ]
                  refine wpAnyH_take (i := 14) (oi := { dst := some 78, op := Op.binOp BinOp.sub 3 (Operand.tmp 69) (Operand.tmp 77) 3, type := 3, pos := "l91_draw.go:141", after := #[{ on := 5, ground := Ground.data }, { on := 13, ground := Ground.data }], guard := none }) (v := ?_) rfl (by kernel_rfl) (by kernel_rfl) (by kernel_rfl) (fun _ _ _ h => h) (Or.inl ⟨by rfl, ?_⟩) hHeld ?_
                  rotate_left
                  · intro w hSw; (try dsimp only at hSw); go_simp; (try with_reducible rfl)
                  try simp only [Act.put, List.setIfInBounds_toArray, List.set_cons_zero, List.set_cons_succ]
                  refine wpAnyH_ready (rs := [1, 15]) (by kernel_rfl) (by simp) ?_
                  refine AllReadyH.cons (o := { dst := some 65, op := Op.load 24 (Operand.tmp 64), type := 24, pos := "l91_draw.go:141", after := #[{ on := 0, ground := Ground.data }], guard := none }) rfl (fun K hK => ?_) ?_
                  · go_simp
                    refine hK.out _ _ (by first | exact hHeld | go_keep | (simp [*, World.cell?_setCell_other])) (fun hHeld => ?_)
                    clear hK K
                    try simp only [Act.put, List.setIfInBounds_toArray, List.set_cons_zero, List.set_cons_succ]
                    refine wpAnyH_ready (rs := [15]) (by kernel_rfl) (by simp) ?_
                    refine AllReadyH.cons (o := { dst := some 79, op := Op.buildSlice 24 1 #[(0, Operand.tmp 78)], type := 24, pos := "l91_draw.go:141", after := #[{ on := 14, ground := Ground.data }], guard := none }) rfl (fun K hK => ?_) ?_
                    · go_simp
                      refine hK.out _ _ (by first | exact hHeld | go_keep | (simp [*, World.cell?_setCell_other])) (fun hHeld => ?_)
                      clear hK K
                      try simp only [Act.put, List.setIfInBounds_toArray, List.set_cons_zero, List.set_cons_succ]
                      refine wpAnyH_ready (rs := [16]) (by kernel_rfl) (by simp) ?_
                      refine AllReadyH.cons (o := { dst := some 80, op := Op.call { callee := Callee.builtin Builtin.append, args := #[Operand.tmp 65, Operand.tmp 79], argTypes := #[24, 24] }, type := 24, pos := "l91_draw.go:141", after := #[{ on := 1, ground := Ground.data }, { on := 15, ground := Ground.data }, { on := 12, ground := Ground.chain }], guard := none }) rfl (fun K hK => ?_) ?_
                      · refine CSt.stepO rfl (.tmp 65) (.tmp 79) rfl rfl rfl (C4.out.alloc _) (hid_size (by simp) (heap_alloc_new _ _)) (by omega) ?_
                        intro A3 c3 w5 HB5 HC5
                        have g5 : w5.cell? ⟨w1.heap.size, 1, none⟩ = some (.slice Ag m cg) := HB5.out.cell 1
                        have o5 : w5.cell? ⟨w1.heap.size, 2, none⟩ = some (.slice Ao no co) := HB5.out.cell 2
                        have f5 : w5.frozen? ⟨w1.heap.size, 2, none⟩ = false := HB5.out.free 2
                        clear hHeld
                        refine hK.out _ _ (by first | exact hHeld | go_keep | (simp [*, World.cell?_setCell_other])) (fun hHeld => ?_)
                        clear hK K
                        try simp only [Act.put, List.setIfInBounds_toArray, List.set_cons_zero, List.set_cons_succ]
                        refine wpAnyH_take (i := 17) (oi := { dst := some 81, op := Op.fieldAddr 26 (Operand.tmp 3) 2, type := 0, pos := "l91_draw.go:141", after := #[{ on := 0, ground := Ground.phase }, { on := 1, ground := Ground.phase }, { on := 2, ground := Ground.phase }, { on := 3, ground := Ground.phase }, { on := 4, ground := Ground.phase }, { on := 5, ground := Ground.phase }, { on := 6, ground := Ground.phase }, { on := 7, ground := Ground.phase }, { on := 8, ground := Ground.phase }, { on := 9, ground := Ground.phase }, { on := 10, ground := Ground.phase }, { on := 11, ground := Ground.phase }, { on := 12, ground := Ground.phase }, { on := 13, ground := Ground.phase }, { on := 14, ground := Ground.phase }, { on := 15, ground := Ground.phase }, { on := 16, ground := Ground.phase }], guard := none }) (v := ?_) rfl (by kernel_rfl) (by kernel_rfl) (by kernel_rfl) (fun _ _ _ h => h) (Or.inl ⟨by rfl, ?_⟩) hHeld ?_
                        rotate_left
                        · intro w hSw; (try dsimp only at hSw); go_simp; (try with_reducible rfl)
                        try simp only [Act.put, List.setIfInBounds_toArray, List.set_cons_zero, List.set_cons_succ]
                        refine wpAnyH_ready (rs := [18]) (by kernel_rfl) (by simp) ?_
                        refine AllReadyH.cons (o := { dst := none, op := Op.store 24 (Operand.tmp 81) (Operand.tmp 80), type := 0, pos := "l91_draw.go:141", after := #[{ on := 17, ground := Ground.data }, { on := 16, ground := Ground.data }, { on := 16, ground := Ground.chain }, { on := 0, ground := Ground.phase }, { on := 1, ground := Ground.phase }, { on := 2, ground := Ground.phase }, { on := 3, ground := Ground.phase }, { on := 4, ground := Ground.phase }, { on := 5, ground := Ground.phase }, { on := 6, ground := Ground.phase }, { on := 7, ground := Ground.phase }, { on := 8, ground := Ground.phase }, { on := 9, ground := Ground.phase }, { on := 10, ground := Ground.phase }, { on := 11, ground := Ground.phase }, { on := 12, ground := Ground.phase }, { on := 13, ground := Ground.phase }, { on := 14, ground := Ground.phase }, { on := 15, ground := Ground.phase }, { on := 16, ground := Ground.phase }], guard := none }) rfl (fun K hK => ?_) ?_
                        · go_simp
                          refine hK.out _ _ (by first | exact hHeld | go_keep | (simp [*, World.cell?_setCell_other])) (fun hHeld => ?_)
                          clear hK K
                          try simp only [Act.put]
                          refine wpAnyH_done (by kernel_rfl) ?_ _
                          go_wp2
                          go_roundw
                          case rel => exact ⟨k', no + 1, q + 1 + 1, A3, c3, _, by omega, by omega, by go_num, HC5⟩
                          case measure => simp [intOf] <;> omega
                        exact AllReadyH.nil
                      exact AllReadyH.nil
                    exact AllReadyH.nil
                  refine AllReadyH.cons (o := { dst := some 79, op := Op.buildSlice 24 1 #[(0, Operand.tmp 78)], type := 24, pos := "l91_draw.go:141", after := #[{ on := 14, ground := Ground.data }], guard := none }) rfl (fun K hK => ?_) ?_
                  · go_simp
                    refine hK.out _ _ (by first | exact hHeld | go_keep | (simp [*, World.cell?_setCell_other])) (fun hHeld => ?_)
                    clear hK K
                    try simp only [Act.put, List.setIfInBounds_toArray, List.set_cons_zero, List.set_cons_succ]
                    refine wpAnyH_ready (rs := [1]) (by kernel_rfl) (by simp) ?_
                    refine AllReadyH.cons (o := { dst := some 65, op := Op.load 24 (Operand.tmp 64), type := 24, pos := "l91_draw.go:141", after := #[{ on := 0, ground := Ground.data }], guard := none }) rfl (fun K hK => ?_) ?_
                    · have o4b : (w4.alloc (.cells #[.int .i64 ((m : Int) - 1 - x * y)] 3)).cell? ⟨w1.heap.size, 2, none⟩ = some (.slice Ao no co) := (C4.out.alloc _).bx.cell 2
                      go_simp
                      refine hK.out _ _ (by first | exact hHeld | go_keep | (simp [*, World.cell?_setCell_other])) (fun hHeld => ?_)
                      clear hK K
                      try simp only [Act.put, List.setIfInBounds_toArray, List.set_cons_zero, List.set_cons_succ]
                      refine wpAnyH_ready (rs := [16]) (by kernel_rfl) (by simp) ?_
                      refine AllReadyH.cons (o := { dst := some 80, op := Op.call { callee := Callee.builtin Builtin.append, args := #[Operand.tmp 65, Operand.tmp 79], argTypes := #[24, 24] }, type := 24, pos := "l91_draw.go:141", after := #[{ on := 1, ground := Ground.data }, { on := 15, ground := Ground.data }, { on := 12, ground := Ground.chain }], guard := none }) rfl (fun K hK => ?_) ?_
                      · refine CSt.stepO rfl (.tmp 65) (.tmp 79) rfl rfl rfl (C4.out.alloc _) (hid_size (by simp) (heap_alloc_new _ _)) (by omega) ?_
                        intro A3 c3 w5 HB5 HC5
                        have g5 : w5.cell? ⟨w1.heap.size, 1, none⟩ = some (.slice Ag m cg) := HB5.out.cell 1
                        have o5 : w5.cell? ⟨w1.heap.size, 2, none⟩ = some (.slice Ao no co) := HB5.out.cell 2
                        have f5 : w5.frozen? ⟨w1.heap.size, 2, none⟩ = false := HB5.out.free 2
                        clear hHeld
                        refine hK.out _ _ (by first | exact hHeld | go_keep | (simp [*, World.cell?_setCell_other])) (fun hHeld => ?_)
                        clear hK K
                        try simp only [Act.put, List.setIfInBounds_toArray, List.set_cons_zero, List.set_cons_succ]
                        refine wpAnyH_take (i := 17) (oi := { dst := some 81, op := Op.fieldAddr 26 (Operand.tmp 3) 2, type := 0, pos := "l91_draw.go:141", after := #[{ on := 0, ground := Ground.phase }, { on := 1, ground := Ground.phase }, { on := 2, ground := Ground.phase }, { on := 3, ground := Ground.phase }, { on := 4, ground := Ground.phase }, { on := 5, ground := Ground.phase }, { on := 6, ground := Ground.phase }, { on := 7, ground := Ground.phase }, { on := 8, ground := Ground.phase }, { on := 9, ground := Ground.phase }, { on := 10, ground := Ground.phase }, { on := 11, ground := Ground.phase }, { on := 12, ground := Ground.phase }, { on := 13, ground := Ground.phase }, { on := 14, ground := Ground.phase }, { on := 15, ground := Ground.phase }, { on := 16, ground := Ground.phase }], guard := none }) (v := ?_) rfl (by kernel_rfl) (by kernel_rfl) (by kernel_rfl) (fun _ _ _ h => h) (Or.inl ⟨by rfl, ?_⟩) hHeld ?_
                        rotate_left
                        · intro w hSw; (try dsimp only at hSw); go_simp; (try with_reducible rfl)
                        try simp only [Act.put, List.setIfInBounds_toArray, List.set_cons_zero, List.set_cons_succ]
                        refine wpAnyH_ready (rs := [18]) (by kernel_rfl) (by simp) ?_
                        refine AllReadyH.cons (o := { dst := none, op := Op.store 24 (Operand.tmp 81) (Operand.tmp 80), type := 0, pos := "l91_draw.go:141", after := #[{ on := 17, ground := Ground.data }, { on := 16, ground := Ground.data }, { on := 16, ground := Ground.chain }, { on := 0, ground := Ground.phase }, { on := 1, ground := Ground.phase }, { on := 2, ground := Ground.phase }, { on := 3, ground := Ground.phase }, { on := 4, ground := Ground.phase }, { on := 5, ground := Ground.phase }, { on := 6, ground := Ground.phase }, { on := 7, ground := Ground.phase }, { on := 8, ground := Ground.phase }, { on := 9, ground := Ground.phase }, { on := 10, ground := Ground.phase }, { on := 11, ground := Ground.phase }, { on := 12, ground := Ground.phase }, { on := 13, ground := Ground.phase }, { on := 14, ground := Ground.phase }, { on := 15, ground := Ground.phase }, { on := 16, ground := Ground.phase }], guard := none }) rfl (fun K hK => ?_) ?_
                        · go_simp
                          refine hK.out _ _ (by first | exact hHeld | go_keep | (simp [*, World.cell?_setCell_other])) (fun hHeld => ?_)
                          clear hK K
                          try simp only [Act.put]
                          refine wpAnyH_done (by kernel_rfl) ?_ _
                          go_wp2
                          go_roundw
                          case rel => exact ⟨k', no + 1, q + 1 + 1, A3, c3, _, by omega, by omega, by go_num, HC5⟩
                          case measure => simp [intOf] <;> omega
                        exact AllReadyH.nil
                      exact AllReadyH.nil
                    exact AllReadyH.nil
                  exact AllReadyH.nil
                exact AllReadyH.nil
              exact AllReadyH.nil
        · obtain ⟨k', rfl⟩ : ∃ k', k = k' + 1 := ⟨k - 1, by omega⟩
          have i0 : (0 : Int) < (k' : Int) + 1 := by omega
          go_wp2_with fail
          refine (d_pick _ _ _ _ _ _ _ _ _ CC.out.rd (by omega) (by omega) (by omega)).mono ?_
          rintro e w3 ⟨x, rfl, x0, x1, h3, k3⟩
          have C3 := Lib.hid (CC.out.pick h3 k3)
          clear h3 k3 CC c1
          have ix : IntKind.i64.wrap (1 + x) = 1 + x := IntWalk.i64_in _ (by omega)
          go_wp2_with fail
          refine (d_pick _ _ _ _ _ _ _ _ _ C3.out.rd (by omega) (by omega) (by omega)).mono ?_
          rintro e w4 ⟨y, rfl, y0, y1, h4, k4⟩
          have C4 := Lib.hid (C3.out.pick h4 k4)
          clear h4 k4 C3
          go_wp2_with fail
          refine (d_pick _ _ _ _ _ _ _ _ _ C4.out.rd (by omega) (by omega) (by omega)).mono ?_
          rintro e w5 ⟨t, rfl, t0, t1, h5, k5⟩
          have C5 := Lib.hid (C4.out.pick h5 k5)
          clear h5 k5 C4
          have C6 := Lib.hid (C5.out.alloc (.cells #[.int .i64 (1 + x), .int .i64 y, .int .i64 t] 30))
          have c1 : (w5.alloc (.cells #[.int .i64 (1 + x), .int .i64 y, .int .i64 t] 30)).cell? ⟨w1.heap.size, 1, none⟩ = some (.slice Ag m cg) := C6.out.bx.cell 1
          have HNB : Hid (w1.heap.size < w5.heap.size ∧ g ≠ w5.heap.size) := Lib.hid ⟨C5.out.bx.lt, by have := C5.out.rd.lt; omega⟩
          have HNG : Hid (∀ g', (Value.slice Ag m cg).ownBlock = some g' → g' ≠ w5.heap.size) := Lib.hid fun g' hg' => by have := own_szz C5.out.gl hg'; omega
          clear C5
          by_cases hx : x = 0
          · subst hx
            clear ix
            have b1 : ((1 + (0 : Int)) == 1) = true := rfl
            go_wp2_with fail
            refine (d_pick _ _ _ _ _ _ _ _ _ C6.out.rd (by omega) (by omega) (by omega)).mono ?_
            rintro e w6 ⟨v, rfl, v0, v1, h6, k6⟩
            have C7 := Lib.hid (C6.out.pick h6 k6)
            have HBX : Hid (Bx w6 w5.heap.size #[.int .i64 1, .int .i64 y, .int .i64 t] 30) := Lib.hid ((Bx.new _ _ _).kept k6 (by have := HNB.out.2; omega))
            clear h6 k6 C6 c1
            have e0 : w6.cell? ⟨w5.heap.size, 0, none⟩ = some (.int .i64 1) := HBX.out.cell 0
            have e1 : w6.cell? ⟨w5.heap.size, 1, none⟩ = some (.int .i64 y) := HBX.out.cell 1
            have e2 : w6.cell? ⟨w5.heap.size, 2, none⟩ = some (.int .i64 t) := HBX.out.cell 2
            have f0 : w6.frozen? ⟨w5.heap.size, 0, none⟩ = false := HBX.out.free 0
            have f1 : w6.frozen? ⟨w5.heap.size, 1, none⟩ = false := HBX.out.free 1
            have f2 : w6.frozen? ⟨w5.heap.size, 2, none⟩ = false := HBX.out.free 2
            have c6 : w6.cell? ⟨w1.heap.size, 1, none⟩ = some (.slice Ag m cg) := C7.out.bx.cell 1
            have n6 : ¬ (w1.heap.size = w5.heap.size) := by have := HNB.out.1; omega
            have n6' : ¬ (w5.heap.size = w1.heap.size) := by have := HNB.out.1; omega
            have C8 : Hid (CSt w0 (((w6.setCell ⟨w5.heap.size, 0, none⟩ (.int .i64 1)).setCell ⟨w5.heap.size, 1, none⟩ (.int .i64 v)).setCell ⟨w5.heap.size, 2, none⟩ (.int .i64 0)) g hi (q + 1 + 1 + 1 + 1) A n c bs w1.heap.size (1 + (Z : Int)) (.slice Ag m cg) (.slice none 0 0) m gs 0 []) :=
              Lib.hid (C7.out.box HNB.out.1 HNG.out (by intro g' hg'; simp [Value.ownBlock] at hg') ((((Kept.refl w5.heap.size (w5.heap.size + 1) w6).setCell (p := ⟨w5.heap.size, 0, none⟩) (Nat.le_refl _) (Nat.lt_succ_self _) _).setCell (p := ⟨w5.heap.size, 1, none⟩) (Nat.le_refl _) (Nat.lt_succ_self _) _).setCell (p := ⟨w5.heap.size, 2, none⟩) (Nat.le_refl _) (Nat.lt_succ_self _) _))
            clear C7
            go_wp2_with (at_builtin
                         refine wpList_append_rd rfl (.tmp 52) (.tmp 54) _ rfl (w1.heap.size + 1) 30 _ 3 24 Try.underlying23 info_Gate rfl (by decide) (.slice Ag m cg) m _ rfl (C8.out.alloc _).gl _ _ 1 1 (cGate [(1, v, 0)]) rfl (lit_gate_at (hid_size (by simp) (heap_alloc_new _ _))) (cGate_one _) (by unfold maxLen; omega) (by omega) (by have := C8.out.bx.lt; simp at this; simp; omega) ?_
                         intro v9 w9 hown hgr hat
                         obtain ⟨A6, c6, hv6, ho6⟩ := Ow.of_own hown
                         subst hv6
                         have HX := (C8.out.alloc _).growG hgr (v := .slice A6 (m + 1) c6) (gs' := gs ++ [(1, v, 0)]) (by rw [cGate_append]; exact hown)
                         have f9 := HX.1.free 1
                         have d9 : w9.cell? ⟨w1.heap.size, 1, none⟩ = some (.slice Ag m cg) := HX.1.cell 1
                         have C9 := Lib.hid HX.2.2
                         clear HX hown hgr hat ho6)
            go_roundw
            case rel => exact ⟨k', m + 1, q + 1 + 1 + 1 + 1, A6, c6, _, by omega, by omega, by omega, by omega, by go_num, C9⟩
            case measure => simp [intOf] <;> omega
          · have b1 : ((1 + x) == 1) = false := by rw [beq_eq_false_iff_ne]; omega
            go_wp2_with (at_builtin
                         refine wpList_append_rd rfl (.tmp 52) (.tmp 54) _ rfl (w1.heap.size + 1) 30 _ 3 24 Try.underlying23 info_Gate rfl (by decide) (.slice Ag m cg) m _ rfl (C6.out.alloc _).gl _ _ 1 1 (cGate [(1 + x, y, t)]) rfl (lit_gate_at (hid_size (by simp) (heap_alloc_new _ _))) (cGate_one _) (by unfold maxLen; omega) (by omega) (by have := HNB.out.1; simp; omega) ?_
                         intro v6 w6 hown hgr hat
                         obtain ⟨A6, c6, hv6, ho6⟩ := Ow.of_own hown
                         subst hv6
                         have HX := (C6.out.alloc _).growG hgr (v := .slice A6 (m + 1) c6) (gs' := gs ++ [(1 + x, y, t)]) (by rw [cGate_append]; exact hown)
                         have f6 := HX.1.free 1
                         have d6 : w6.cell? ⟨w1.heap.size, 1, none⟩ = some (.slice Ag m cg) := HX.1.cell 1
                         have C8 := Lib.hid HX.2.2
                         clear HX hown hgr hat ho6)
            go_roundw
            case rel => exact ⟨k', m + 1, q + 1 + 1 + 1, A6, c6, _, by omega, by omega, by omega, by omega, by go_num, C8⟩
            case measure => simp [intOf] <;> omega
end Go.Proofs.Ytbmjepmlalfpgaa

/- What P45 and P48 draw. -/
namespace Go.Proofs.Ytbmjepmlalfpgaa
open Go.RowKit
set_option maxRecDepth 100000

theorem resC3 {fn : Func} {t u v : Tmp} {tmps : Array Value} {w : World} {g : Nat} {a b c x y : Value} (h : fn.results = #[.cell t 26, .tmp u, .tmp v]) (ht : tmps.getD t undef = .pointer (some ⟨g, 0, none⟩)) (hu : tmps.getD u undef = x) (hv : tmps.getD v undef = y) (hb : Bx w g #[a, b, c] 26) :
    (results fn tmps).run Try.prog w = .ok (.tuple #[.agg #[a, b, c], x, y]) w := by
  have hr : w.rangeAt g 0 [a, b, c] := fun j v hv => by
    rw [Nat.zero_add, cell_of_row w g j _ _ (0, 0) hb]; simpa using hv
  have := run_loadVar_mid (P := Try.prog) w g 0 26 [a, b, c] _ hr Try.underlying26 rfl infoC
  have ht2 : tmps[t]?.getD undef = .pointer (some ⟨g, 0, none⟩) := by rw [← ht]; simp
  subst hu
  subst hv
  simp [results, h, ht2, this, asAddr]
set_option maxHeartbeats 1000000 in
theorem d_DrawCircuitDepth (A : Option Addr) (n c : Nat) (bs : List Int) (w : World) (h : Rd w w.heap.size 1 A n (cU bs)) (hb : Byt bs) (hn : n ≤ 1048576) (hc : n ≤ c) :
    Calls Try.prog 15 #[.slice A n c] w fun e w' => ∃ z A1 n1 c1 gs A2 n2 c2 os, e = .returned (.agg #[.int .i64 z, .slice A1 n1 c1, .slice A2 n2 c2]) ∧ Rd w' w'.heap.size 3 A1 n1 (cGate gs) ∧ Rd w' w'.heap.size 1 A2 n2 (cI os) ∧ n1 ≤ 10 ∧ n2 ≤ 3 ∧ Below w.heap.size w w' := by
  obtain ⟨w0, hw0⟩ : ∃ w0, Hid (w.alloc (.cells #[.int .i64 0, .slice none 0 0, .slice none 0 0] 26) = w0) := ⟨_, Lib.hid rfl⟩
  have B0 : Hid (Below w.heap.size w w0) := Lib.hid (by rw [← hw0.out]; exact (Below.refl _ _).alloc (Nat.le_refl _) _)
  have HZ : Hid (w.heap.size < w0.heap.size) := Lib.hid (by rw [← hw0.out]; simp)
  have H : Hid (Rd w0 w0.heap.size 1 A n (cU bs)) := Lib.hid ((h.below B0.out).more (Nat.le_of_lt HZ.out))
  have RX : Hid (Bx w0 w.heap.size #[.int .i64 0, .slice none 0 0, .slice none 0 0] 26) := Lib.hid (by rw [← hw0.out]; exact Bx.new _ _ _)
  clear h
  go_enter Try.func15, Try.ntmps15
  go_wp2_with fail
  rw [hw0.out]
  refine (d_l6Open _ _ _ _ _ H.out hb hn hc).mono ?_
  rintro e w1 ⟨rfl, ⟨A', n', c', bs', h1⟩, hb1⟩
  have H1 := Lib.hid h1
  have HR1 : Hid (Bx w1 w.heap.size #[.int .i64 0, .slice none 0 0, .slice none 0 0] 26) := Lib.hid (RX.out.below hb1 HZ.out)
  have B1 := Lib.hid (B0.out.trans (hb1.mono B0.out.size))
  have HL1 : Hid (w0.heap.size ≤ w1.heap.size) := Lib.hid hb1.size
  clear h1 hb1 RX B0
  go_wp2_with fail
  refine (d_l91Circuit _ _ _ _ _ _ _ _ H1.out (by omega)).mono ?_
  rintro e w2 ⟨z, A1, n1, c1, gs, A2, n2, c2, os, q, rfl, hg, ho, hn1, hn2, hq, h2, k2⟩
  have HR2 : Hid (Bx w2 w.heap.size #[.int .i64 0, .slice none 0 0, .slice none 0 0] 26) := Lib.hid (HR1.out.kept k2 (.inl HZ.out))
  have B2 : Hid (Below w.heap.size w w2) := Lib.hid (B1.out.trans ((k2.to_below (HL1.out)).mono (by have := HZ.out; omega)))
  have HG := Lib.hid hg
  have HO := Lib.hid ho
  clear hg ho h2 k2 HR1 B1
  have r0 : w2.cell? ⟨w.heap.size, 0, none⟩ = some (.int .i64 0) := HR2.out.cell 0
  have r1 : w2.cell? ⟨w.heap.size, 1, none⟩ = some (.slice none 0 0) := HR2.out.cell 1
  have r2 : w2.cell? ⟨w.heap.size, 2, none⟩ = some (.slice none 0 0) := HR2.out.cell 2
  have q0 : w2.frozen? ⟨w.heap.size, 0, none⟩ = false := HR2.out.free 0
  have q1 : w2.frozen? ⟨w.heap.size, 1, none⟩ = false := HR2.out.free 1
  have q2 : w2.frozen? ⟨w.heap.size, 2, none⟩ = false := HR2.out.free 2
  go_wp2
  have hk : Kept w.heap.size (w.heap.size + 1) w2 (((w2.setCell ⟨w.heap.size, 0, none⟩ (.int .i64 z)).setCell ⟨w.heap.size, 1, none⟩ (.slice A1 n1 c1)).setCell ⟨w.heap.size, 2, none⟩ (.slice A2 n2 c2)) :=
    (((Kept.refl w.heap.size (w.heap.size + 1) w2).setCell (p := ⟨w.heap.size, 0, none⟩) (Nat.le_refl _) (Nat.lt_succ_self _) _).setCell (p := ⟨w.heap.size, 1, none⟩) (Nat.le_refl _) (Nat.lt_succ_self _) _).setCell (p := ⟨w.heap.size, 2, none⟩) (Nat.le_refl _) (Nat.lt_succ_self _) _
  have hx := ((HR2.out.set 0 (.int .i64 z)).set 1 (.slice A1 n1 c1)).set 2 (.slice A2 n2 c2)
  have hl : w.heap.size < w1.heap.size := by have := HZ.out; have := HL1.out; omega
  exact bodyPost_ret (v := .agg #[.int .i64 z, .slice A1 n1 c1, .slice A2 n2 c2]) (resC rfl rfl hx) rfl ⟨_, _, _, _, _, _, _, _, _, rfl, own_rdV (own_keptG HG.out hk hl), own_rdV (own_keptG HO.out hk hl), hn1, hn2, B2.out.trans ((hk.to_below (by have := B2.out.size; omega)))⟩
set_option maxHeartbeats 1000000 in
theorem d_DrawPartiesNeed (A : Option Addr) (n c : Nat) (bs : List Int) (w : World) (h : Rd w w.heap.size 1 A n (cU bs)) (hb : Byt bs) (hn : n ≤ 1048576) (hc : n ≤ c) :
    Calls Try.prog 19 #[.slice A n c] w fun e w' => ∃ z A1 n1 c1 gs A2 n2 c2 os x y, e = .returned (.tuple #[.agg #[.int .i64 z, .slice A1 n1 c1, .slice A2 n2 c2], .int .i64 x, .int .i64 y]) ∧ Rd w' w'.heap.size 3 A1 n1 (cGate gs) ∧ Rd w' w'.heap.size 1 A2 n2 (cI os) ∧ n1 ≤ 10 ∧ n2 ≤ 3 ∧ ((0 ≤ x ∧ x < 8) ∧ (0 ≤ y ∧ y < 4)) ∧ Below w.heap.size w w' := by
  obtain ⟨w0, hw0⟩ : ∃ w0, Hid (w.alloc (.cells #[.int .i64 0, .slice none 0 0, .slice none 0 0] 26) = w0) := ⟨_, Lib.hid rfl⟩
  have B0 : Hid (Below w.heap.size w w0) := Lib.hid (by rw [← hw0.out]; exact (Below.refl _ _).alloc (Nat.le_refl _) _)
  have HZ : Hid (w.heap.size < w0.heap.size) := Lib.hid (by rw [← hw0.out]; simp)
  have H : Hid (Rd w0 w0.heap.size 1 A n (cU bs)) := Lib.hid ((h.below B0.out).more (Nat.le_of_lt HZ.out))
  have RX : Hid (Bx w0 w.heap.size #[.int .i64 0, .slice none 0 0, .slice none 0 0] 26) := Lib.hid (by rw [← hw0.out]; exact Bx.new _ _ _)
  clear h
  go_enter Try.func19, Try.ntmps19
  go_wp2_with fail
  rw [hw0.out]
  refine (d_l6Open _ _ _ _ _ H.out hb hn hc).mono ?_
  rintro e w1 ⟨rfl, ⟨A', n', c', bs', h1⟩, hb1⟩
  have H1 := Lib.hid h1
  have HR1 : Hid (Bx w1 w.heap.size #[.int .i64 0, .slice none 0 0, .slice none 0 0] 26) := Lib.hid (RX.out.below hb1 HZ.out)
  have B1 := Lib.hid (B0.out.trans (hb1.mono B0.out.size))
  have HL1 : Hid (w0.heap.size ≤ w1.heap.size) := Lib.hid hb1.size
  clear h1 hb1 RX B0
  go_wp2_with fail
  refine (d_l91Circuit _ _ _ _ _ _ _ _ H1.out (by omega)).mono ?_
  rintro e w2 ⟨z, A1, n1, c1, gs, A2, n2, c2, os, q, rfl, hg, ho, hn1, hn2, hq, h2, k2⟩
  have H2 := Lib.hid h2
  have K2 := Lib.hid k2
  have HG := Lib.hid hg
  have HO := Lib.hid ho
  clear hg ho h2 k2
  go_wp2_with fail
  refine (d_pick _ _ _ _ _ _ _ _ _ H2.out (by omega) (by omega) (by omega)).mono ?_
  rintro e w3 ⟨x, rfl, x0, x1, h3, k3⟩
  have H3 := Lib.hid h3
  have K3 := Lib.hid (K2.out.trans k3)
  have HLg : Hid (w0.heap.size < w1.heap.size) := Lib.hid H1.out.lt
  have HG3 := Lib.hid (own_keptG HG.out k3 HLg.out)
  have HO3 := Lib.hid (own_keptG HO.out k3 HLg.out)
  clear h3 k3 HG HO H2 K2
  go_wp2_with fail
  refine (d_pick _ _ _ _ _ _ _ _ _ H3.out (by omega) (by omega) (by omega)).mono ?_
  rintro e w4 ⟨y, rfl, y0, y1, h4, k4⟩
  have k2 := K3.out.trans k4
  have HG := Lib.hid (own_keptG HG3.out k4 HLg.out)
  have HO := Lib.hid (own_keptG HO3.out k4 HLg.out)
  clear h4 k4 HG3 HO3 H3
  have HR2 : Hid (Bx w4 w.heap.size #[.int .i64 0, .slice none 0 0, .slice none 0 0] 26) := Lib.hid (HR1.out.kept k2 (.inl HZ.out))
  have B2 : Hid (Below w.heap.size w w4) := Lib.hid (B1.out.trans ((k2.to_below (HL1.out)).mono (by have := HZ.out; omega)))
  clear k2 HR1 B1
  have r0 : w4.cell? ⟨w.heap.size, 0, none⟩ = some (.int .i64 0) := HR2.out.cell 0
  have r1 : w4.cell? ⟨w.heap.size, 1, none⟩ = some (.slice none 0 0) := HR2.out.cell 1
  have r2 : w4.cell? ⟨w.heap.size, 2, none⟩ = some (.slice none 0 0) := HR2.out.cell 2
  have q0 : w4.frozen? ⟨w.heap.size, 0, none⟩ = false := HR2.out.free 0
  have q1 : w4.frozen? ⟨w.heap.size, 1, none⟩ = false := HR2.out.free 1
  have q2 : w4.frozen? ⟨w.heap.size, 2, none⟩ = false := HR2.out.free 2
  go_wp2
  have hk : Kept w.heap.size (w.heap.size + 1) w4 (((w4.setCell ⟨w.heap.size, 0, none⟩ (.int .i64 z)).setCell ⟨w.heap.size, 1, none⟩ (.slice A1 n1 c1)).setCell ⟨w.heap.size, 2, none⟩ (.slice A2 n2 c2)) :=
    (((Kept.refl w.heap.size (w.heap.size + 1) w4).setCell (p := ⟨w.heap.size, 0, none⟩) (Nat.le_refl _) (Nat.lt_succ_self _) _).setCell (p := ⟨w.heap.size, 1, none⟩) (Nat.le_refl _) (Nat.lt_succ_self _) _).setCell (p := ⟨w.heap.size, 2, none⟩) (Nat.le_refl _) (Nat.lt_succ_self _) _
  have hx := ((HR2.out.set 0 (.int .i64 z)).set 1 (.slice A1 n1 c1)).set 2 (.slice A2 n2 c2)
  have hl : w.heap.size < w1.heap.size := by have := HZ.out; have := HL1.out; omega
  exact bodyPost_ret (v := .tuple #[.agg #[.int .i64 z, .slice A1 n1 c1, .slice A2 n2 c2], .int .i64 x, .int .i64 y]) (resC3 rfl rfl rfl rfl hx) rfl ⟨_, _, _, _, _, _, _, _, _, _, _, rfl, own_rdV (own_keptG HG.out hk hl), own_rdV (own_keptG HO.out hk hl), hn1, hn2, ⟨⟨x0, x1⟩, y0, y1⟩, B2.out.trans ((hk.to_below (by have := B2.out.size; omega)))⟩
end Go.Proofs.Ytbmjepmlalfpgaa

/- Chapter 8: depths and degrees: bounds; the degree cut gate by gate; the greatest of a list. -/
namespace Go.Proofs.Ytbmjepmlalfpgaa
open Go.RowKit
set_option maxRecDepth 100000

theorem tell_last (f : Int × Int × Int → List Int → Int) (gs : List (Int × Int × Int)) (k : Nat) : (tellK f gs (k + 1)).getD k 0 = f (gt gs k) (tellK f gs k) := by
  have hl := tellK_length f gs k
  rw [tellK]
  simp only [List.getD_eq_getElem?_getD]
  rw [List.getElem?_append_right (by omega), hl, Nat.sub_self]; rfl
theorem tell_past (f : Int × Int × Int → List Int → Int) (gs : List (Int × Int × Int)) {k j : Nat} (h : k ≤ j) : (tellK f gs k).getD j 0 = 0 := by
  simp only [List.getD_eq_getElem?_getD]
  rw [List.getElem?_eq_none (by rw [tellK_length]; omega)]; rfl
/-- what holds of each told value -/
theorem tell_all {f : Int × Int × Int → List Int → Int} {gs : List (Int × Int × Int)} {m : Int} {n : Nat} (hg : gatesK gs m n = true) (p : Nat → Int → Prop) (h0 : ∀ k, p k 0) (hm : ∀ k x, p k x → p (k + 1) x)
    (hs : ∀ k v, k < n → gateB (gt gs k) k m = true → (∀ j : Nat, p k (v.getD j 0)) → p (k + 1) (f (gt gs k) v)) (k : Nat) (hk : k ≤ n) : ∀ j : Nat, p k ((tellK f gs k).getD j 0) := by
  induction k with
  | zero => intro j; simp only [tellK, List.getD_nil]; exact h0 0
  | succ k ih =>
    intro j
    have ih := ih (by omega)
    by_cases hj : j < k
    · rw [tellK_old f gs (Nat.le_succ k) hj]; exact hm k _ (ih j)
    · by_cases hj2 : j = k
      · subst hj2; rw [tell_last]; exact hs j _ (by omega) (gatesK_at hg (by omega)) ih
      · rw [tell_past f gs (by omega)]; exact h0 _
theorem dep_bd {gs : List (Int × Int × Int)} {m : Int} {n : Nat} (hg : gatesK gs m n = true) (k : Nat) (hk : k ≤ n) (j : Nat) : 0 ≤ (tellK depG gs k).getD j 0 ∧ (tellK depG gs k).getD j 0 ≤ k := by
  refine tell_all hg (fun k x => 0 ≤ x ∧ x ≤ (k : Int)) (fun k => by omega) (fun k x h => by omega) (fun k v _ hB h => ?_) k hk j
  have h1 := h (gt gs k).2.1.toNat
  have h2 := h (gt gs k).2.2.toNat
  simp only [depG]
  split
  · omega
  · split
    · omega
    · omega
theorem dcut_bd {gs : List (Int × Int × Int)} {m : Int} {n : Nat} (hg : gatesK gs m n = true) (k : Nat) (hk : k ≤ n) (j : Nat) : 0 ≤ (tellK dcutG gs k).getD j 0 ∧ (tellK dcutG gs k).getD j 0 ≤ 1000 := by
  refine tell_all hg (fun _ x => 0 ≤ x ∧ x ≤ (1000 : Int)) (fun k => by omega) (fun k x h => by omega) (fun k v _ hB h => ?_) k hk j
  have h1 := h (gt gs k).2.1.toNat
  have h2 := h (gt gs k).2.2.toNat
  simp only [dcutG]
  split
  · omega
  · split
    · omega
    · split
      · omega
      · omega
theorem deg_bd {gs : List (Int × Int × Int)} {m : Int} {n : Nat} (hg : gatesK gs m n = true) (k : Nat) (hk : k ≤ n) (j : Nat) : 0 ≤ (tellK degG gs k).getD j 0 ∧ (tellK degG gs k).getD j 0 ≤ (2 ^ k : Nat) := by
  refine tell_all hg (fun k x => 0 ≤ x ∧ x ≤ ((2 ^ k : Nat) : Int)) (fun k => by have := Nat.pow_pos (n := k) (show 0 < 2 by omega); omega) (fun k x h => by have := Nat.pow_succ 2 k; omega) (fun k v _ hB h => ?_) k hk j
  have h1 := h (gt gs k).2.1.toNat
  have h2 := h (gt gs k).2.2.toNat
  have h3 := Nat.pow_succ 2 k
  have h4 := Nat.pow_pos (n := k) (show 0 < 2 by omega)
  simp only [degG]
  split
  · omega
  · split
    · omega
    · split
      · omega
      · omega
theorem deg_bd16 {gs : List (Int × Int × Int)} {m : Int} {n : Nat} (hg : gatesK gs m n = true) (hn : n ≤ 16) (k : Nat) (hk : k ≤ n) (j : Nat) : 0 ≤ (tellK degG gs k).getD j 0 ∧ (tellK degG gs k).getD j 0 ≤ 65536 := by
  have h := deg_bd hg k hk j
  have h2 : 2 ^ k ≤ 2 ^ 16 := Nat.pow_le_pow_right (by omega) (by omega)
  have h3 : 2 ^ 16 = 65536 := by decide
  omega
theorem dcut_is {gs : List (Int × Int × Int)} {m : Int} {n : Nat} (hg : gatesK gs m n = true) (k : Nat) (hk : k ≤ n) (j : Nat) : (tellK dcutG gs k).getD j 0 = min 1000 ((tellK degG gs k).getD j 0) := by
  induction k generalizing j with
  | zero => simp only [tellK, List.getD_nil]; omega
  | succ k ih =>
    have ih := ih (by omega)
    by_cases hj : j < k
    · rw [tellK_old dcutG gs (Nat.le_succ k) hj, tellK_old degG gs (Nat.le_succ k) hj]; exact ih j
    · by_cases hj2 : j = k
      · subst hj2
        rw [tell_last, tell_last]
        have h1 := ih (gt gs j).2.1.toNat
        have h2 := ih (gt gs j).2.2.toNat
        have b1 := deg_bd hg j (by omega) (gt gs j).2.1.toNat
        have b2 := deg_bd hg j (by omega) (gt gs j).2.2.toNat
        simp only [dcutG, degG]
        split
        · omega
        · split
          · omega
          · split
            · omega
            · omega
      · rw [tell_past dcutG gs (by omega), tell_past degG gs (by omega)]; omega
theorem most_cut {os v u : List Int} (h : ∀ j : Nat, v.getD j 0 = min 1000 (u.getD j 0)) (k : Nat) : min 1000 (mostK os v k) = min 1000 (mostK os u k) := by
  induction k with
  | zero => rfl
  | succ k ih =>
    have := h (os.getD k 0).toNat
    simp only [mostK]
    omega
theorem most_bd {os v : List Int} {t : Int} (ht : 0 ≤ t) (h : ∀ j : Nat, 0 ≤ v.getD j 0 ∧ v.getD j 0 ≤ t) (k : Nat) : 0 ≤ mostK os v k ∧ mostK os v k ≤ t := by
  induction k with
  | zero => simp only [mostK]; omega
  | succ k ih =>
    have := h (os.getD k 0).toNat
    simp only [mostK]
    omega
/-- the greatest of the first k of a list (k = 0: the first one) -/
def topK (xs : List Int) : Nat → Int
  | 0 => xs.getD 0 0
  | k + 1 => max (topK xs k) (xs.getD k 0)
theorem outK_get (os v : List Int) {k n : Nat} (h : k < n) : (outK os v n).getD k 0 = v.getD (os.getD k 0).toNat 0 := by
  induction n with
  | zero => omega
  | succ n ih =>
    have hl := outK_length os v n
    rw [outK]
    simp only [List.getD_eq_getElem?_getD]
    by_cases hk : k < n
    · rw [List.getElem?_append_left (by omega), ← List.getD_eq_getElem?_getD, ih hk]; simp only [List.getD_eq_getElem?_getD]
    · rw [List.getElem?_append_right (by omega), hl, show k - n = 0 by omega, show k = n by omega]; rfl
theorem top_most {os v : List Int} (h : ∀ j : Nat, 0 ≤ v.getD j 0) {n : Nat} (k : Nat) (hk : k ≤ n) (h1 : 1 ≤ k) : topK (outK os v n) k = mostK os v k := by
  induction k with
  | zero => omega
  | succ k ih =>
    simp only [topK, mostK]
    rw [outK_get os v (show k < n by omega)]
    by_cases hk0 : k = 0
    · subst hk0
      simp only [topK, mostK]
      rw [outK_get os v (show 0 < n by omega)]
      have := h (os.getD 0 0).toNat
      omega
    · rw [ih (by omega) (by omega)]
end Go.Proofs.Ytbmjepmlalfpgaa

/- Chapter 8 in the model: values, outputs, depths, as the laws meet them. -/
namespace Go.Proofs.Ytbmjepmlalfpgaa
open Go.RowKit
set_option maxRecDepth 100000

def R_CircuitValues_0 (d : Int × List (Int × Int × Int) × List Int) (ins : List Int) : List Int := if fitsB d ins then tellK (valG ins) d.2.1 d.2.1.length else []
def R_CircuitRun_0 (d : Int × List (Int × Int × Int) × List Int) (ins : List Int) : List Int := if fitsB d ins then outK d.2.2 (tellK (valG ins) d.2.1 d.2.1.length) d.2.2.length else []
theorem fits_iff {d : Int × List (Int × Int × Int) × List Int} {ins : List Int} (h : fitsB d ins = true) : circB d = true ∧ (ins.length : Int) = d.1 ∧ Nums ins := by
  unfold fitsB at h
  simp only [Bool.and_eq_true, decide_eq_true_eq] at h
  exact ⟨h.1, h.2.1, nums_of_B h.2.2⟩

set_option maxHeartbeats 4000000 in
theorem X_s_CircuitValues (v v' : Value) (d : Int × List (Int × Int × Int) × List Int) (ins : List Int) (w : World) (h : RdCircuit w w.heap.size v d) (h' : RdIntS w w.heap.size v' ins) (hs : szCircuit d ≤ 1048576) (hs' : szIntS ins ≤ 1048576) :
    Calls Try.prog 34 #[v, v'] w fun e w' => ∃ g, e = .returned (.tuple #[g, .bool (fitsB d ins)]) ∧ OwIntS w' w.heap.size w'.heap.size g (R_CircuitValues_0 d ins) ∧ Below w.heap.size w w' := by
  obtain ⟨A1, n1, c1, A2, n2, c2, rfl, h1, h2⟩ := h
  obtain ⟨A3, n3, c3, rfl, _, h3⟩ := h'
  have m1 : n1 ≤ 1048576 := by have := szC1 hs; have := h1.n.2; omega
  have m2 : n2 ≤ 1048576 := by have := szC2 hs; have := h2.n.2; omega
  have m3 : n3 ≤ 1048576 := by have := h3.len; unfold szIntS at hs'; omega
  have l1 := Lib.hid h1.n.2
  have l2 := Lib.hid h2.n.2
  have l3 := Lib.hid h3.len
  have H1 := Lib.hid h1.n.1
  have H2 := Lib.hid h2.n.1
  have H3 := Lib.hid h3
  clear h1 h2 h3 hs hs'
  obtain ⟨z, d1, d2⟩ := d
  have HX0 : Hid (Bx (w.alloc (.cells #[.int .i64 z, .slice A1 n1 c1, .slice A2 n2 c2] 26)) w.heap.size #[.int .i64 z, .slice A1 n1 c1, .slice A2 n2 c2] 26) := Lib.hid (Bx.new _ _ _)
  have HB0 : Hid (Below w.heap.size w (w.alloc (.cells #[.int .i64 z, .slice A1 n1 c1, .slice A2 n2 c2] 26))) := Lib.hid ((Below.refl _ _).alloc (Nat.le_refl _) _)
  go_enter Try.func34, Try.ntmps34
  go_wp2_with fail
  refine (s_l8Fits A1 n1 c1 A2 n2 c2 A3 n3 c3 z d1 d2 ins _ ((H1.out.below HB0.out).more (by simp)) ((H2.out.below HB0.out).more (by simp)) ((H3.out.below HB0.out).more (by simp)) m1 m2 m3).mono ?_
  rintro e w2 ⟨rfl, hb⟩
  have HX1 := Lib.hid (HX0.out.below hb HX0.out.lt)
  have HB1 : Hid (Below w.heap.size w w2) := Lib.hid (HB0.out.trans (hb.mono HB0.out.size))
  clear hb HB0 HX0
  cases ef : fitsB (z, d1, d2) ins
  · have HF := Lib.hid ef
    have HR : Hid (R_CircuitValues_0 (z, d1, d2) ins = []) := Lib.hid (by simp [R_CircuitValues_0, ef])
    go_wp2
    go_ret2
    exact ⟨_, ret_vb HF.out.symm, by rw [HR.out]; exact OwIntS.nil_ _ _ _, HB1.out⟩
  · have HF := Lib.hid ef
    have HR : Hid (R_CircuitValues_0 (z, d1, d2) ins = tellK (valG ins) d1 n1) := Lib.hid (by simp [R_CircuitValues_0, ef, l1.out])
    obtain ⟨f1, f2, f3⟩ := fits_iff ef
    obtain ⟨c0, c1', c2', c3', c4'⟩ := circB_iff f1
    simp only at c0 c1' c2' c3' c4' f2
    have q1 : n1 ≤ 16 := by have := l1.out; omega
    have G1 : Hid (gatesK d1 z n1 = true) := Lib.hid (by have := l1.out; rw [this]; exact c3')
    have G2 : Hid (z = n3) := Lib.hid (by have := l3.out; omega)
    have G3 := Lib.hid f3
    have b0 : w2.cell? ⟨w.heap.size, 0, none⟩ = some (.int .i64 z) := HX1.out.cell 0
    have b1 : w2.cell? ⟨w.heap.size, 1, none⟩ = some (.slice A1 n1 c1) := HX1.out.cell 1
    have b2 : w2.cell? ⟨w.heap.size, 2, none⟩ = some (.slice A2 n2 c2) := HX1.out.cell 2
    clear f1 f2 f3 c0 c1' c2' c3' c4'
    go_wp2_with fail
    refine (s_l8Values A1 n1 c1 A2 n2 c2 A3 n3 c3 z d1 ins _ ((H1.out.below HB1.out).more HB1.out.size) ((H3.out.below HB1.out).more HB1.out.size) q1 G1.out G3.out G2.out).mono ?_
    rintro e w3 ⟨A, c, rfl, ho, hb⟩
    have HO := Lib.hid (ho.widen HB1.out.size (Nat.le_refl _))
    have HB2 : Hid (Below w.heap.size w w3) := Lib.hid (HB1.out.trans (hb.mono HB1.out.size))
    clear ho hb b0 b1 b2
    go_wp2
    go_ret2
    exact ⟨_, ret_vb HF.out.symm, by rw [HR.out]; exact HO.out, HB2.out⟩

set_option maxHeartbeats 8000000 in
theorem X_s_CircuitRun (v v' : Value) (d : Int × List (Int × Int × Int) × List Int) (ins : List Int) (w : World) (h : RdCircuit w w.heap.size v d) (h' : RdIntS w w.heap.size v' ins) (hs : szCircuit d ≤ 1048576) (hs' : szIntS ins ≤ 1048576) :
    Calls Try.prog 41 #[v, v'] w fun e w' => ∃ g, e = .returned (.tuple #[g, .bool (fitsB d ins)]) ∧ OwIntS w' w.heap.size w'.heap.size g (R_CircuitRun_0 d ins) ∧ Below w.heap.size w w' := by
  obtain ⟨A1, n1, c1, A2, n2, c2, rfl, h1, h2⟩ := h
  obtain ⟨A3, n3, c3, rfl, _, h3⟩ := h'
  have m1 : n1 ≤ 1048576 := by have := szC1 hs; have := h1.n.2; omega
  have m2 : n2 ≤ 1048576 := by have := szC2 hs; have := h2.n.2; omega
  have m3 : n3 ≤ 1048576 := by have := h3.len; unfold szIntS at hs'; omega
  have l1 := Lib.hid h1.n.2
  have l2 := Lib.hid h2.n.2
  have l3 := Lib.hid h3.len
  have H1 := Lib.hid h1.n.1
  have H2 := Lib.hid h2.n.1
  have H3 := Lib.hid h3
  clear h1 h2 h3 hs hs'
  obtain ⟨z, d1, d2⟩ := d
  have HX0 : Hid (Bx (w.alloc (.cells #[.int .i64 z, .slice A1 n1 c1, .slice A2 n2 c2] 26)) w.heap.size #[.int .i64 z, .slice A1 n1 c1, .slice A2 n2 c2] 26) := Lib.hid (Bx.new _ _ _)
  have HB0 : Hid (Below w.heap.size w (w.alloc (.cells #[.int .i64 z, .slice A1 n1 c1, .slice A2 n2 c2] 26))) := Lib.hid ((Below.refl _ _).alloc (Nat.le_refl _) _)
  go_enter Try.func41, Try.ntmps41
  go_wp2_with fail
  refine (s_l8Fits A1 n1 c1 A2 n2 c2 A3 n3 c3 z d1 d2 ins _ ((H1.out.below HB0.out).more (by simp)) ((H2.out.below HB0.out).more (by simp)) ((H3.out.below HB0.out).more (by simp)) m1 m2 m3).mono ?_
  rintro e w2 ⟨rfl, hb⟩
  have HX1 := Lib.hid (HX0.out.below hb HX0.out.lt)
  have HB1 : Hid (Below w.heap.size w w2) := Lib.hid (HB0.out.trans (hb.mono HB0.out.size))
  clear hb HB0 HX0
  cases ef : fitsB (z, d1, d2) ins
  · have HF := Lib.hid ef
    have HR : Hid (R_CircuitRun_0 (z, d1, d2) ins = []) := Lib.hid (by simp [R_CircuitRun_0, ef])
    go_wp2
    go_ret2
    exact ⟨_, ret_vb HF.out.symm, by rw [HR.out]; exact OwIntS.nil_ _ _ _, HB1.out⟩
  · have HF := Lib.hid ef
    have HR : Hid (R_CircuitRun_0 (z, d1, d2) ins = outK d2 (tellK (valG ins) d1 n1) n2) := Lib.hid (by simp [R_CircuitRun_0, ef, l1.out, l2.out])
    obtain ⟨f1, f2, f3⟩ := fits_iff ef
    obtain ⟨c0, c1', c2', c3', c4'⟩ := circB_iff f1
    simp only at c0 c1' c2' c3' c4' f2
    have q1 : n1 ≤ 16 := by have := l1.out; omega
    have q2 : n2 ≤ 16 := by have := l2.out; omega
    have G1 : Hid (gatesK d1 z n1 = true) := Lib.hid (by have := l1.out; rw [this]; exact c3')
    have G2 : Hid (z = n3) := Lib.hid (by have := l3.out; omega)
    have G4 : Hid (outsK d2 n1 n2 = true) := Lib.hid (by have e1 := l1.out; have e2 := l2.out; rw [e1, e2]; exact c4')
    have G3 := Lib.hid f3
    have hx := HX1.out
    have hb := HB1.out
    have hc0 : w2.cell? ⟨w.heap.size, 0, none⟩ = some (.int .i64 z) := HX1.out.cell 0
    have hc1 : w2.cell? ⟨w.heap.size, 1, none⟩ = some (.slice A1 n1 c1) := HX1.out.cell 1
    have hc2 : w2.cell? ⟨w.heap.size, 2, none⟩ = some (.slice A2 n2 c2) := HX1.out.cell 2
    clear f1 f2 f3 c0 c1' c2' c3' c4'
    go_wp2
    have hs0 := And.intro hb (And.intro hx (And.intro hc0 (And.intro hc1 hc2)))
    go_region_held3 (fun w' => Below w.heap.size w w' ∧ Bx w' w.heap.size #[.int .i64 z, .slice A1 n1 c1, .slice A2 n2 c2] 26 ∧ w'.cell? ⟨w.heap.size, 0, none⟩ = some (.int .i64 z) ∧ w'.cell? ⟨w.heap.size, 1, none⟩ = some (.slice A1 n1 c1) ∧ w'.cell? ⟨w.heap.size, 2, none⟩ = some (.slice A2 n2 c2))
      (first | exact ⟨hb, hx, hc0, hc1, hc2⟩ | exact ⟨hb.drew, hx, hc0, hc1, hc2⟩)
      (first
        | (go_at_call 81
           refine (s_l8Values A1 n1 c1 A2 n2 c2 A3 n3 c3 z d1 ins _ ((H1.out.below (by first | exact hb | exact hb.drew)).more (by exact hb.size)) ((H3.out.below (by first | exact hb | exact hb.drew)).more (by exact hb.size)) q1 G1.out G3.out G2.out).mono ?_
           rintro e w3 ⟨A, c, rfl, ho, hb3⟩
           have hn := upd3 (by first | exact hb | exact hb.drew) (by exact hx) hb3
           clear hb hx hc0 hc1 hc2 hb3
           obtain ⟨hb, hx, hc0, hc1, hc2⟩ := hn)
        | (go_at_call 86
           refine (s_l8Outs A1 n1 c1 A2 n2 c2 A n1 c z d2 (tellK (valG ins) d1 n1) _ ((H2.out.below (by first | exact hb | exact hb.drew)).more (by exact hb.size)) (by exact ho.rdw) q2 G4.out q1).mono ?_
           rintro e w4 ⟨A4, n4, c4, rfl, ho4, hb4⟩
           have ho5 := ho4.widen (lo' := w.heap.size) (by exact hb.size) (Nat.le_refl _)
           have hn := upd3 (by first | exact hb | exact hb.drew) (by exact hx) hb4
           clear hb hx hc0 hc1 hc2 hb4 ho ho4
           obtain ⟨hb, hx, hc0, hc1, hc2⟩ := hn))
    all_goals (
      have HO := Lib.hid ho5
      have HBB := Lib.hid hb
      clear hb hx hc0 hc1 hc2 hs0 ho5
      go_wp2
      go_ret2
      exact ⟨_, ret_vb HF.out.symm, by rw [HR.out]; exact HO.out, HBB.out⟩)
end Go.Proofs.Ytbmjepmlalfpgaa

/- Chapter 8 in the model: depths and degrees. -/
namespace Go.Proofs.Ytbmjepmlalfpgaa
open Go.RowKit
set_option maxRecDepth 100000

/-- what both sides tell -/
def depV (d : Int × List (Int × Int × Int) × List Int) : Int := if circB d then mostK d.2.2 (tellK depG d.2.1 d.2.1.length) d.2.2.length else -1
def degV (d : Int × List (Int × Int × Int) × List Int) : Int := if circB d then min 1000 (mostK d.2.2 (tellK dcutG d.2.1 d.2.1.length) d.2.2.length) else -1

set_option maxHeartbeats 16000000 in
theorem X_s_CircuitDepth (v : Value) (d : Int × List (Int × Int × Int) × List Int) (w : World) (h : RdCircuit w w.heap.size v d) (hs : szCircuit d ≤ 1048576) :
    Calls Try.prog 17 #[v] w fun e w' => e = .returned (.int .i64 (depV d)) ∧ Below w.heap.size w w' := by
  obtain ⟨A1, n1, c1, A2, n2, c2, rfl, h1, h2⟩ := h
  have m1 : n1 ≤ 1048576 := by have := szC1 hs; have := h1.n.2; omega
  have m2 : n2 ≤ 1048576 := by have := szC2 hs; have := h2.n.2; omega
  have l1 := Lib.hid h1.n.2
  have l2 := Lib.hid h2.n.2
  have H1 := Lib.hid h1.n.1
  have H2 := Lib.hid h2.n.1
  clear h1 h2 hs
  obtain ⟨z, d1, d2⟩ := d
  have HX0 : Hid (Bx (w.alloc (.cells #[.int .i64 z, .slice A1 n1 c1, .slice A2 n2 c2] 26)) w.heap.size #[.int .i64 z, .slice A1 n1 c1, .slice A2 n2 c2] 26) := Lib.hid (Bx.new _ _ _)
  have HB0 : Hid (Below w.heap.size w (w.alloc (.cells #[.int .i64 z, .slice A1 n1 c1, .slice A2 n2 c2] 26))) := Lib.hid ((Below.refl _ _).alloc (Nat.le_refl _) _)
  go_enter Try.func17, Try.ntmps17
  go_wp2_with fail
  refine (s_CircuitOk A1 n1 c1 A2 n2 c2 z d1 d2 _ ((H1.out.below HB0.out).more (by simp)) ((H2.out.below HB0.out).more (by simp)) m1 m2).mono ?_
  rintro e w2 ⟨rfl, hb⟩
  have HX1 := Lib.hid (HX0.out.below hb HX0.out.lt)
  have HB1 : Hid (Below w.heap.size w w2) := Lib.hid (HB0.out.trans (hb.mono HB0.out.size))
  have hz0 := HX1.out.lt
  clear hb HB0 HX0
  cases ef : circB (z, d1, d2)
  · have HR : Hid (depV (z, d1, d2) = -1) := Lib.hid (by simp [depV, ef])
    go_wp2
    go_ret
    exact ⟨ret_i HR.out.symm, HB1.out⟩
  obtain ⟨c0, c1', c2', c3', c4'⟩ := circB_iff ef
  simp only at c0 c1' c2' c3' c4'
  have q1 : n1 ≤ 16 := by have := l1.out; omega
  have q2 : n2 ≤ 16 := by have := l2.out; omega
  have HG : Hid (gatesK d1 z n1 = true) := Lib.hid (by have := l1.out; rw [this]; exact c3')
  have G4 : Hid (outsK d2 n1 n2 = true) := Lib.hid (by have e1 := l1.out; have e2 := l2.out; rw [e1, e2]; exact c4')
  have HR : Hid (depV (z, d1, d2) = mostK d2 (tellK depG d1 n1) n2) := Lib.hid (by simp [depV, ef, l1.out, l2.out])
  have hmk := fun W => run_make1 (P := Try.prog) Try.underlying24 info_int rfl n1 (by omega) (by omega) W
  have b1 : w2.cell? ⟨w.heap.size, 1, none⟩ = some (.slice A1 n1 c1) := HX1.out.cell 1
  have HX2 := Lib.hid (HX1.out.alloc (.cells (Array.replicate n1 (.int .i64 0)) 3))
  have HO0 : Hid (Ow (w2.alloc (.cells (Array.replicate n1 (.int .i64 0)) 3)) w2.heap.size (w2.heap.size + 1) 3 1 (some ⟨w2.heap.size, 0, none⟩) n1 n1 (cI (tellK depG d1 0 ++ List.replicate (n1 - 0) 0))) := Lib.hid (by
    have := Ow.zeros w2 (.int .i64 0) 3 n1
    rw [cI_zeros] at this; exact this)
  have HB2 := Lib.hid (HB1.out.alloc (Nat.le_of_lt hz0) (.cells (Array.replicate n1 (.int .i64 0)) 3))
  have HS2 : Hid (w2.heap.size < (w2.alloc (.cells (Array.replicate n1 (.int .i64 0)) 3)).heap.size) := Lib.hid (by simp)
  clear c0 c1' c2' c3' c4' ef HX1 HB1
  go_wp2
  go_loopw [4] (fun i wr => ∃ k : Nat, k ≤ n1 ∧ i = .int .i64 k ∧ Hid (Ow wr w2.heap.size (w2.heap.size + 1) 3 1 (some ⟨w2.heap.size, 0, none⟩) n1 n1 (cI (tellK depG d1 k ++ List.replicate (n1 - k) 0))) ∧ Hid (Bx wr w.heap.size #[.int .i64 z, .slice A1 n1 c1, .slice A2 n2 c2] 26) ∧ Hid (Below w.heap.size w wr) ∧ Hid (w2.heap.size < wr.heap.size)) (fun i _ => n1 - (intOf i).toNat)
  case atStart => exact ⟨0, Nat.zero_le _, rfl, HO0, HX2, HB2, HS2⟩
  case round =>
    clear HX2 HO0 HB2 HS2 b1
    obtain ⟨k, hk, rfl, HO, HX, HB, HS⟩ := hrel
    have b0 : wr.cell? ⟨w.heap.size, 0, none⟩ = some (.int .i64 z) := HX.out.cell 0
    have b1 : wr.cell? ⟨w.heap.size, 1, none⟩ = some (.slice A1 n1 c1) := HX.out.cell 1
    have b2 : wr.cell? ⟨w.heap.size, 2, none⟩ = some (.slice A2 n2 c2) := HX.out.cell 2
    by_cases hlt : k < n1
    · obtain ⟨a, x, y, u, hA, hab, hx0, hy0, hu0, HP⟩ := H1.out.GateAt hlt
      have hx := (HB.out.cell (p := a.add (k * 3)) (by rw [add_block]; exact hab)).trans hx0
      have hy := (HB.out.cell (p := ⟨(a.add (k * 3)).block, (a.add (k * 3)).off + 1, none⟩) (by rw [add_block]; exact hab)).trans hy0
      have hu := (HB.out.cell (p := ⟨(a.add (k * 3)).block, (a.add (k * 3)).off + 2, none⟩) (by rw [add_block]; exact hab)).trans hu0
      have i0 : (0 : Int) ≤ (k : Int) := by omega
      have i1 : (k : Int) < (n1 : Int) := by omega
      have HQ : Hid (gt d1 k = (x, y, u)) := Lib.hid HP.out
      have hkd := gateB_kind (gatesK_at HG.out hlt)
      rw [HQ.out] at hkd
      simp only at hkd
      have HV := Lib.hid (fun j => dep_bd HG.out k (by omega) j)
      subst hA
      clear hx0 hy0 hu0 HP b0 b2
      have hal : Below wr.heap.size wr (wr.alloc (.cells #[.int .i64 x, .int .i64 y, .int .i64 u] 30)) := (Below.refl _ _).alloc (Nat.le_refl _) _
      have HO1 := Lib.hid (HO.out.below hal HS.out)
      have HX1 := Lib.hid (HX.out.alloc (.cells #[.int .i64 x, .int .i64 y, .int .i64 u] 30))
      have HB1 := Lib.hid (HB.out.alloc HB.out.size (.cells #[.int .i64 x, .int .i64 y, .int .i64 u] 30))
      have HS1 : Hid (w2.heap.size < (wr.alloc (.cells #[.int .i64 x, .int .i64 y, .int .i64 u] 30)).heap.size) := Lib.hid (by have := HS.out; simp; omega)
      have HY : Hid (Bx (wr.alloc (.cells #[.int .i64 x, .int .i64 y, .int .i64 u] 30)) wr.heap.size #[.int .i64 x, .int .i64 y, .int .i64 u] 30) := Lib.hid (Bx.new _ _ _)
      have hf := HO1.out.free (by omega) k
      have HST : Hid (depG (x, y, u) (tellK depG d1 k) = depG (gt d1 k) (tellK depG d1 k)) := Lib.hid (by rw [HQ.out])
      have HZ0 : Hid (depG (x, y, u) (tellK depG d1 k) = 0 → tellK depG d1 (k + 1) ++ List.replicate (n1 - (k + 1)) 0 = tellK depG d1 k ++ List.replicate (n1 - k) 0) := Lib.hid (fun h0 => by
        rw [tellK, ← HST.out, h0, List.append_assoc, show n1 - k = (n1 - (k + 1)) + 1 by omega, List.replicate_succ, List.singleton_append])
      obtain ⟨v0, hv0, HV0⟩ := HO1.out.intAt (k := k) hlt
      have HSET : ∀ v : Int, v = depG (x, y, u) (tellK depG d1 k) → Hid (Ow ((wr.alloc (.cells #[.int .i64 x, .int .i64 y, .int .i64 u] 30)).setCell ⟨w2.heap.size, k, none⟩ (.int .i64 v)) w2.heap.size (w2.heap.size + 1) 3 1 (some ⟨w2.heap.size, 0, none⟩) n1 n1 (cI (tellK depG d1 (k + 1) ++ List.replicate (n1 - (k + 1)) 0))) ∧ Hid (Bx ((wr.alloc (.cells #[.int .i64 x, .int .i64 y, .int .i64 u] 30)).setCell ⟨w2.heap.size, k, none⟩ (.int .i64 v)) w.heap.size #[.int .i64 z, .slice (some a) n1 c1, .slice A2 n2 c2] 26) ∧ Hid (Below w.heap.size w ((wr.alloc (.cells #[.int .i64 x, .int .i64 y, .int .i64 u] 30)).setCell ⟨w2.heap.size, k, none⟩ (.int .i64 v))) ∧ Hid (w2.heap.size < ((wr.alloc (.cells #[.int .i64 x, .int .i64 y, .int .i64 u] 30)).setCell ⟨w2.heap.size, k, none⟩ (.int .i64 v)).heap.size) := fun v hv => by
        refine ⟨Lib.hid ?_, Lib.hid (HX1.out.other ⟨w2.heap.size, k, none⟩ _ (by simp; omega)), Lib.hid (HB1.out.setCell (p := ⟨w2.heap.size, k, none⟩) (by simp; omega) _), Lib.hid (by rw [World.size_setCell]; exact HS1.out)⟩
        have := HO1.out.set k (.int .i64 v)
        rw [cI_set] at this
        rw [← tell_step depG d1 hlt, HQ.out, ← hv]
        exact this
      clear hal
      rcases hkd with ⟨rfl, y0, y1, rfl⟩ | ⟨rfl, y0, y1, rfl⟩ | ⟨hk3, y0, y1, u0, u1⟩
      · have HE := HZ0.out (by simp [depG])
        have HO2 := Lib.hid HO1.out
        rw [← HE] at HO2
        have HX2 := Lib.hid HX1.out
        have HB2 := Lib.hid HB1.out
        have HS2 := Lib.hid HS1.out
        clear HO HX HB HS HO1 HX1 HB1 HS1 HSET HZ0 HST HE
        go_wp2
        go_roundw
        case rel => exact ⟨k + 1, by omega, by go_num, HO2, HX2, HB2, HS2⟩
        case measure => simp [intOf] <;> omega
      · have HE := HZ0.out (by simp [depG])
        have HO2 := Lib.hid HO1.out
        rw [← HE] at HO2
        have HX2 := Lib.hid HX1.out
        have HB2 := Lib.hid HB1.out
        have HS2 := Lib.hid HS1.out
        clear HO HX HB HS HO1 HX1 HB1 HS1 HSET HZ0 HST HE
        go_wp2
        go_roundw
        case rel => exact ⟨k + 1, by omega, by go_num, HO2, HX2, HB2, HS2⟩
        case measure => simp [intOf] <;> omega
      · obtain ⟨m1, rfl⟩ : ∃ m : Nat, y = m := ⟨y.toNat, by omega⟩
        obtain ⟨m2, rfl⟩ : ∃ m : Nat, u = m := ⟨u.toNat, by omega⟩
        obtain ⟨p, hp, HP0⟩ := HO1.out.intAt (k := m1) (by omega)
        obtain ⟨q, hq, HQ0⟩ := HO1.out.intAt (k := m2) (by omega)
        have HPP : Hid (p = (tellK depG d1 k).getD m1 0) := Lib.hid (by rw [HP0.out, tell_get _ _ (by omega)])
        have HQQ : Hid (q = (tellK depG d1 k).getD m2 0) := Lib.hid (by rw [HQ0.out, tell_get _ _ (by omega)])
        have p0 := (HV.out m1).1
        have p1 := (HV.out m1).2
        have q0 := (HV.out m2).1
        have q1' := (HV.out m2).2
        rw [← HPP.out] at p0 p1
        rw [← HQQ.out] at q0 q1'
        have j0 : (m1 : Int) < (n1 : Int) := by omega
        have j1 : (m2 : Int) < (n1 : Int) := by omega
        clear HP0 HQ0
        rcases hk3 with rfl | rfl | rfl
        · obtain ⟨HO2, HX2, HB2, HS2⟩ := HSET (if p < q then q else p) (by rw [if_max, HPP.out, HQQ.out]; simp [depG])
          clear HO HX HB HS HO1 HX1 HB1 HS1 HSET HPP HQQ HZ0 HST
          go_wp2
          obtain ⟨wo, hwo⟩ : ∃ wo, Hid (wr.alloc (.cells #[.int .i64 2, .int .i64 m1, .int .i64 m2] 30) = wo) := ⟨_, Lib.hid rfl⟩
          rw [hwo.out] at hf hv0 hp hq HY HO2 HX2 HB2 HS2 ⊢
          have g0 : wo.cell? ⟨wr.heap.size, 0, none⟩ = some (.int .i64 2) := HY.out.cell 0
          have g1 : wo.cell? ⟨wr.heap.size, 1, none⟩ = some (.int .i64 m1) := HY.out.cell 1
          have g2 : wo.cell? ⟨wr.heap.size, 2, none⟩ = some (.int .i64 m2) := HY.out.cell 2
          replace HO2 := Lib.hid (HO2.out.drewN 1)
          replace HX2 : Hid (Bx ((wo.setCell ⟨w2.heap.size, k, none⟩ (.int .i64 (if p < q then q else p))).drewN 1) w.heap.size _ _) := Lib.hid HX2.out
          replace HB2 := Lib.hid (below_drewN HB2.out 1)
          replace HS2 : Hid (w2.heap.size < ((wo.setCell ⟨w2.heap.size, k, none⟩ (.int .i64 (if p < q then q else p))).drewN 1).heap.size) := Lib.hid HS2.out
          clear hwo
          go_still_tail 13, (by kernel_rfl)
          change wpList _ _ _ _ _ wo.drew
          go_wp2
          go_roundw
          case rel => exact ⟨k + 1, by omega, by go_num, HO2, HX2, HB2, HS2⟩
          case measure => simp [intOf] <;> omega
        · obtain ⟨HO2, HX2, HB2, HS2⟩ := HSET (if p < q then q else p) (by rw [if_max, HPP.out, HQQ.out]; simp [depG])
          clear HO HX HB HS HO1 HX1 HB1 HS1 HSET HPP HQQ HZ0 HST
          go_wp2
          obtain ⟨wo, hwo⟩ : ∃ wo, Hid (wr.alloc (.cells #[.int .i64 3, .int .i64 m1, .int .i64 m2] 30) = wo) := ⟨_, Lib.hid rfl⟩
          rw [hwo.out] at hf hv0 hp hq HY HO2 HX2 HB2 HS2 ⊢
          have g0 : wo.cell? ⟨wr.heap.size, 0, none⟩ = some (.int .i64 3) := HY.out.cell 0
          have g1 : wo.cell? ⟨wr.heap.size, 1, none⟩ = some (.int .i64 m1) := HY.out.cell 1
          have g2 : wo.cell? ⟨wr.heap.size, 2, none⟩ = some (.int .i64 m2) := HY.out.cell 2
          replace HO2 := Lib.hid (HO2.out.drewN 1)
          replace HX2 : Hid (Bx ((wo.setCell ⟨w2.heap.size, k, none⟩ (.int .i64 (if p < q then q else p))).drewN 1) w.heap.size _ _) := Lib.hid HX2.out
          replace HB2 := Lib.hid (below_drewN HB2.out 1)
          replace HS2 : Hid (w2.heap.size < ((wo.setCell ⟨w2.heap.size, k, none⟩ (.int .i64 (if p < q then q else p))).drewN 1).heap.size) := Lib.hid HS2.out
          clear hwo
          go_still_tail 13, (by kernel_rfl)
          change wpList _ _ _ _ _ wo.drew
          go_wp2
          go_roundw
          case rel => exact ⟨k + 1, by omega, by go_num, HO2, HX2, HB2, HS2⟩
          case measure => simp [intOf] <;> omega
        · have HMX : Hid ((if p < q then q else p) + 1 = depG (gt d1 k) (tellK depG d1 k)) := Lib.hid (by rw [if_max, HPP.out, HQQ.out, HQ.out]; simp [depG])
          have mx0 : 0 ≤ (if p < q then q else p) ∧ (if p < q then q else p) ≤ 16 := by split <;> omega
          obtain ⟨wo, hwo⟩ : ∃ wo, Hid (wr.alloc (.cells #[.int .i64 4, .int .i64 m1, .int .i64 m2] 30) = wo) := ⟨_, Lib.hid rfl⟩
          rw [hwo.out] at hf hv0 hp hq HY HO1 HX1 HB1 HS1
          have g0 : wo.cell? ⟨wr.heap.size, 0, none⟩ = some (.int .i64 4) := HY.out.cell 0
          have g1 : wo.cell? ⟨wr.heap.size, 1, none⟩ = some (.int .i64 m1) := HY.out.cell 1
          have g2 : wo.cell? ⟨wr.heap.size, 2, none⟩ = some (.int .i64 m2) := HY.out.cell 2
          clear HO HX HB HSET HPP HQQ HZ0 HST
          go_wp2
          rw [hwo.out]
          clear hwo
          go_still_tail 13, (by kernel_rfl)
          change wpList _ _ _ _ _ wo.drew
          generalize hmx : (if p < q then q else p) = mx at HMX mx0
          have HO2 : Hid (Ow ((wo.drew.setCell ⟨w2.heap.size, k, none⟩ (.int .i64 mx)).setCell ⟨w2.heap.size, k, none⟩ (.int .i64 (mx + 1))) w2.heap.size (w2.heap.size + 1) 3 1 (some ⟨w2.heap.size, 0, none⟩) n1 n1 (cI (tellK depG d1 (k + 1) ++ List.replicate (n1 - (k + 1)) 0))) := Lib.hid (by
            have h1 : Ow wo.drew w2.heap.size (w2.heap.size + 1) 3 1 (some ⟨w2.heap.size, 0, none⟩) n1 n1 (cI (tellK depG d1 k ++ List.replicate (n1 - k) 0)) := HO1.out
            have := (h1.set k (.int .i64 mx)).set k (.int .i64 (mx + 1))
            rw [cI_set, cI_set, List.set_set, HMX.out, tell_step depG d1 hlt] at this; rw [HMX.out]; exact this)
          have HX2 : Hid (Bx ((wo.drew.setCell ⟨w2.heap.size, k, none⟩ (.int .i64 mx)).setCell ⟨w2.heap.size, k, none⟩ (.int .i64 (mx + 1))) w.heap.size #[.int .i64 z, .slice (some a) n1 c1, .slice A2 n2 c2] 26) := Lib.hid (Bx.other (Bx.other (w := wo.drew) HX1.out ⟨w2.heap.size, k, none⟩ (.int .i64 mx) (by simp; omega)) ⟨w2.heap.size, k, none⟩ (.int .i64 (mx + 1)) (by simp; omega))
          have HB2 : Hid (Below w.heap.size w ((wo.drew.setCell ⟨w2.heap.size, k, none⟩ (.int .i64 mx)).setCell ⟨w2.heap.size, k, none⟩ (.int .i64 (mx + 1)))) := Lib.hid ((HB1.out.drew.setCell (p := ⟨w2.heap.size, k, none⟩) (by simp; omega) _).setCell (p := ⟨w2.heap.size, k, none⟩) (by simp; omega) _)
          have HS2 : Hid (w2.heap.size < ((wo.drew.setCell ⟨w2.heap.size, k, none⟩ (.int .i64 mx)).setCell ⟨w2.heap.size, k, none⟩ (.int .i64 (mx + 1))).heap.size) := Lib.hid (by rw [World.size_setCell, World.size_setCell]; exact HS1.out)
          have hne : wr.heap.size ≠ w2.heap.size := by have := HS.out; omega
          clear HO1 HX1 HB1 HS1
          go_wp2
          go_roundw
          case rel => exact ⟨k + 1, by omega, by go_num, HO2, HX2, HB2, HS2⟩
          case measure => simp [intOf] <;> omega
    · have hkn : k = n1 := by omega
      have HRD : Hid (Rd wr wr.heap.size 1 (some ⟨w2.heap.size, 0, none⟩) n1 (cI (tellK depG d1 n1))) := Lib.hid (by
        have := HO.out
        rw [hkn, Nat.sub_self, List.replicate_zero, List.append_nil] at this
        exact this.rd.more HS.out)
      have HM := Lib.hid (most_bd (os := d2) (v := tellK depG d1 n1) (t := 16) (by omega) (fun j => by have := dep_bd HG.out n1 (Nat.le_refl _) j; omega) n2)
      clear HO hkn
      go_wp2_with fail
      refine (s_l8Most A1 n1 c1 A2 n2 c2 (some ⟨w2.heap.size, 0, none⟩) n1 n1 z d2 (tellK depG d1 n1) _ ((H2.out.below HB.out).more HB.out.size) HRD.out q2 G4.out q1).mono ?_
      rintro e w3 ⟨rfl, hb⟩
      have HB3 : Hid (Below w.heap.size w w3) := Lib.hid (HB.out.trans (hb.mono HB.out.size))
      clear hb HRD HX HB b0 b1 b2
      go_wp2
      go_ret
      exact ⟨ret_i HR.out.symm, HB3.out⟩

set_option maxHeartbeats 16000000 in
theorem X_s_CircuitDegree (v : Value) (d : Int × List (Int × Int × Int) × List Int) (w : World) (h : RdCircuit w w.heap.size v d) (hs : szCircuit d ≤ 1048576) :
    Calls Try.prog 43 #[v] w fun e w' => e = .returned (.int .i64 (degV d)) ∧ Below w.heap.size w w' := by
  obtain ⟨A1, n1, c1, A2, n2, c2, rfl, h1, h2⟩ := h
  have m1 : n1 ≤ 1048576 := by have := szC1 hs; have := h1.n.2; omega
  have m2 : n2 ≤ 1048576 := by have := szC2 hs; have := h2.n.2; omega
  have l1 := Lib.hid h1.n.2
  have l2 := Lib.hid h2.n.2
  have H1 := Lib.hid h1.n.1
  have H2 := Lib.hid h2.n.1
  clear h1 h2 hs
  obtain ⟨z, d1, d2⟩ := d
  have HX0 : Hid (Bx (w.alloc (.cells #[.int .i64 z, .slice A1 n1 c1, .slice A2 n2 c2] 26)) w.heap.size #[.int .i64 z, .slice A1 n1 c1, .slice A2 n2 c2] 26) := Lib.hid (Bx.new _ _ _)
  have HB0 : Hid (Below w.heap.size w (w.alloc (.cells #[.int .i64 z, .slice A1 n1 c1, .slice A2 n2 c2] 26))) := Lib.hid ((Below.refl _ _).alloc (Nat.le_refl _) _)
  go_enter Try.func43, Try.ntmps43
  go_wp2_with fail
  refine (s_CircuitOk A1 n1 c1 A2 n2 c2 z d1 d2 _ ((H1.out.below HB0.out).more (by simp)) ((H2.out.below HB0.out).more (by simp)) m1 m2).mono ?_
  rintro e w2 ⟨rfl, hb⟩
  have HX1 := Lib.hid (HX0.out.below hb HX0.out.lt)
  have HB1 : Hid (Below w.heap.size w w2) := Lib.hid (HB0.out.trans (hb.mono HB0.out.size))
  have hz0 := HX1.out.lt
  clear hb HB0 HX0
  cases ef : circB (z, d1, d2)
  · have HR : Hid (degV (z, d1, d2) = -1) := Lib.hid (by simp [degV, ef])
    go_wp2
    go_ret
    exact ⟨ret_i HR.out.symm, HB1.out⟩
  obtain ⟨c0, c1', c2', c3', c4'⟩ := circB_iff ef
  simp only at c0 c1' c2' c3' c4'
  have q1 : n1 ≤ 16 := by have := l1.out; omega
  have q2 : n2 ≤ 16 := by have := l2.out; omega
  have HG : Hid (gatesK d1 z n1 = true) := Lib.hid (by have := l1.out; rw [this]; exact c3')
  have G4 : Hid (outsK d2 n1 n2 = true) := Lib.hid (by have e1 := l1.out; have e2 := l2.out; rw [e1, e2]; exact c4')
  have HR : Hid (degV (z, d1, d2) = min 1000 (mostK d2 (tellK dcutG d1 n1) n2)) := Lib.hid (by simp [degV, ef, l1.out, l2.out])
  have hmk := fun W => run_make1 (P := Try.prog) Try.underlying24 info_int rfl n1 (by omega) (by omega) W
  have b1 : w2.cell? ⟨w.heap.size, 1, none⟩ = some (.slice A1 n1 c1) := HX1.out.cell 1
  have HX2 := Lib.hid (HX1.out.alloc (.cells (Array.replicate n1 (.int .i64 0)) 3))
  have HO0 : Hid (Ow (w2.alloc (.cells (Array.replicate n1 (.int .i64 0)) 3)) w2.heap.size (w2.heap.size + 1) 3 1 (some ⟨w2.heap.size, 0, none⟩) n1 n1 (cI (tellK dcutG d1 0 ++ List.replicate (n1 - 0) 0))) := Lib.hid (by
    have := Ow.zeros w2 (.int .i64 0) 3 n1
    rw [cI_zeros] at this; exact this)
  have HB2 := Lib.hid (HB1.out.alloc (Nat.le_of_lt hz0) (.cells (Array.replicate n1 (.int .i64 0)) 3))
  have HS2 : Hid (w2.heap.size < (w2.alloc (.cells (Array.replicate n1 (.int .i64 0)) 3)).heap.size) := Lib.hid (by simp)
  clear c0 c1' c2' c3' c4' ef HX1 HB1
  go_wp2
  go_loopw [4] (fun i wr => ∃ k : Nat, k ≤ n1 ∧ i = .int .i64 k ∧ Hid (Ow wr w2.heap.size (w2.heap.size + 1) 3 1 (some ⟨w2.heap.size, 0, none⟩) n1 n1 (cI (tellK dcutG d1 k ++ List.replicate (n1 - k) 0))) ∧ Hid (Bx wr w.heap.size #[.int .i64 z, .slice A1 n1 c1, .slice A2 n2 c2] 26) ∧ Hid (Below w.heap.size w wr) ∧ Hid (w2.heap.size < wr.heap.size)) (fun i _ => n1 - (intOf i).toNat)
  case atStart => exact ⟨0, Nat.zero_le _, rfl, HO0, HX2, HB2, HS2⟩
  case round =>
    clear HX2 HO0 HB2 HS2 b1
    obtain ⟨k, hk, rfl, HO, HX, HB, HS⟩ := hrel
    have b0 : wr.cell? ⟨w.heap.size, 0, none⟩ = some (.int .i64 z) := HX.out.cell 0
    have b1 : wr.cell? ⟨w.heap.size, 1, none⟩ = some (.slice A1 n1 c1) := HX.out.cell 1
    have b2 : wr.cell? ⟨w.heap.size, 2, none⟩ = some (.slice A2 n2 c2) := HX.out.cell 2
    by_cases hlt : k < n1
    · obtain ⟨a, x, y, u, hA, hab, hx0, hy0, hu0, HP⟩ := H1.out.GateAt hlt
      have hx := (HB.out.cell (p := a.add (k * 3)) (by rw [add_block]; exact hab)).trans hx0
      have hy := (HB.out.cell (p := ⟨(a.add (k * 3)).block, (a.add (k * 3)).off + 1, none⟩) (by rw [add_block]; exact hab)).trans hy0
      have hu := (HB.out.cell (p := ⟨(a.add (k * 3)).block, (a.add (k * 3)).off + 2, none⟩) (by rw [add_block]; exact hab)).trans hu0
      have i0 : (0 : Int) ≤ (k : Int) := by omega
      have i1 : (k : Int) < (n1 : Int) := by omega
      have HQ : Hid (gt d1 k = (x, y, u)) := Lib.hid HP.out
      have hkd := gateB_kind (gatesK_at HG.out hlt)
      rw [HQ.out] at hkd
      simp only at hkd
      have HV := Lib.hid (fun j => dcut_bd HG.out k (by omega) j)
      subst hA
      clear hx0 hy0 hu0 HP b0 b2
      have hal : Below wr.heap.size wr (wr.alloc (.cells #[.int .i64 x, .int .i64 y, .int .i64 u] 30)) := (Below.refl _ _).alloc (Nat.le_refl _) _
      have HO1 := Lib.hid (HO.out.below hal HS.out)
      have HX1 := Lib.hid (HX.out.alloc (.cells #[.int .i64 x, .int .i64 y, .int .i64 u] 30))
      have HB1 := Lib.hid (HB.out.alloc HB.out.size (.cells #[.int .i64 x, .int .i64 y, .int .i64 u] 30))
      have HS1 : Hid (w2.heap.size < (wr.alloc (.cells #[.int .i64 x, .int .i64 y, .int .i64 u] 30)).heap.size) := Lib.hid (by have := HS.out; simp; omega)
      have HY : Hid (Bx (wr.alloc (.cells #[.int .i64 x, .int .i64 y, .int .i64 u] 30)) wr.heap.size #[.int .i64 x, .int .i64 y, .int .i64 u] 30) := Lib.hid (Bx.new _ _ _)
      have hf := HO1.out.free (by omega) k
      have HST : Hid (dcutG (x, y, u) (tellK dcutG d1 k) = dcutG (gt d1 k) (tellK dcutG d1 k)) := Lib.hid (by rw [HQ.out])
      have HZ0 : Hid (dcutG (x, y, u) (tellK dcutG d1 k) = 0 → tellK dcutG d1 (k + 1) ++ List.replicate (n1 - (k + 1)) 0 = tellK dcutG d1 k ++ List.replicate (n1 - k) 0) := Lib.hid (fun h0 => by
        rw [tellK, ← HST.out, h0, List.append_assoc, show n1 - k = (n1 - (k + 1)) + 1 by omega, List.replicate_succ, List.singleton_append])
      obtain ⟨v0, hv0, HV0⟩ := HO1.out.intAt (k := k) hlt
      have HSET : ∀ v : Int, v = dcutG (x, y, u) (tellK dcutG d1 k) → Hid (Ow ((wr.alloc (.cells #[.int .i64 x, .int .i64 y, .int .i64 u] 30)).setCell ⟨w2.heap.size, k, none⟩ (.int .i64 v)) w2.heap.size (w2.heap.size + 1) 3 1 (some ⟨w2.heap.size, 0, none⟩) n1 n1 (cI (tellK dcutG d1 (k + 1) ++ List.replicate (n1 - (k + 1)) 0))) ∧ Hid (Bx ((wr.alloc (.cells #[.int .i64 x, .int .i64 y, .int .i64 u] 30)).setCell ⟨w2.heap.size, k, none⟩ (.int .i64 v)) w.heap.size #[.int .i64 z, .slice (some a) n1 c1, .slice A2 n2 c2] 26) ∧ Hid (Below w.heap.size w ((wr.alloc (.cells #[.int .i64 x, .int .i64 y, .int .i64 u] 30)).setCell ⟨w2.heap.size, k, none⟩ (.int .i64 v))) ∧ Hid (w2.heap.size < ((wr.alloc (.cells #[.int .i64 x, .int .i64 y, .int .i64 u] 30)).setCell ⟨w2.heap.size, k, none⟩ (.int .i64 v)).heap.size) := fun v hv => by
        refine ⟨Lib.hid ?_, Lib.hid (HX1.out.other ⟨w2.heap.size, k, none⟩ _ (by simp; omega)), Lib.hid (HB1.out.setCell (p := ⟨w2.heap.size, k, none⟩) (by simp; omega) _), Lib.hid (by rw [World.size_setCell]; exact HS1.out)⟩
        have := HO1.out.set k (.int .i64 v)
        rw [cI_set] at this
        rw [← tell_step dcutG d1 hlt, HQ.out, ← hv]
        exact this
      clear hal
      rcases hkd with ⟨rfl, y0, y1, rfl⟩ | ⟨rfl, y0, y1, rfl⟩ | ⟨hk3, y0, y1, u0, u1⟩
      · obtain ⟨HO2, HX2, HB2, HS2⟩ := HSET 1 (by simp [dcutG])
        clear HO HX HB HS HO1 HX1 HB1 HS1 HSET HZ0 HST
        go_wp2
        go_roundw
        case rel => exact ⟨k + 1, by omega, by go_num, HO2, HX2, HB2, HS2⟩
        case measure => simp [intOf] <;> omega
      · have HE := HZ0.out (by simp [dcutG])
        have HO2 := Lib.hid HO1.out
        rw [← HE] at HO2
        have HX2 := Lib.hid HX1.out
        have HB2 := Lib.hid HB1.out
        have HS2 := Lib.hid HS1.out
        clear HO HX HB HS HO1 HX1 HB1 HS1 HSET HZ0 HST HE
        go_wp2
        go_roundw
        case rel => exact ⟨k + 1, by omega, by go_num, HO2, HX2, HB2, HS2⟩
        case measure => simp [intOf] <;> omega
      · obtain ⟨m1, rfl⟩ : ∃ m : Nat, y = m := ⟨y.toNat, by omega⟩
        obtain ⟨m2, rfl⟩ : ∃ m : Nat, u = m := ⟨u.toNat, by omega⟩
        obtain ⟨p, hp, HP0⟩ := HO1.out.intAt (k := m1) (by omega)
        obtain ⟨q, hq, HQ0⟩ := HO1.out.intAt (k := m2) (by omega)
        have HPP : Hid (p = (tellK dcutG d1 k).getD m1 0) := Lib.hid (by rw [HP0.out, tell_get _ _ (by omega)])
        have HQQ : Hid (q = (tellK dcutG d1 k).getD m2 0) := Lib.hid (by rw [HQ0.out, tell_get _ _ (by omega)])
        have p0 := (HV.out m1).1
        have p1 := (HV.out m1).2
        have q0 := (HV.out m2).1
        have q1' := (HV.out m2).2
        rw [← HPP.out] at p0 p1
        rw [← HQQ.out] at q0 q1'
        have j0 : (m1 : Int) < (n1 : Int) := by omega
        have j1 : (m2 : Int) < (n1 : Int) := by omega
        clear HP0 HQ0
        rcases hk3 with rfl | rfl | rfl
        · obtain ⟨HO2, HX2, HB2, HS2⟩ := HSET (if p < q then q else p) (by rw [if_max, HPP.out, HQQ.out]; simp [dcutG])
          clear HO HX HB HS HO1 HX1 HB1 HS1 HSET HPP HQQ HZ0 HST
          go_wp2
          obtain ⟨wo, hwo⟩ : ∃ wo, Hid (wr.alloc (.cells #[.int .i64 2, .int .i64 m1, .int .i64 m2] 30) = wo) := ⟨_, Lib.hid rfl⟩
          rw [hwo.out] at hf hv0 hp hq HY HO2 HX2 HB2 HS2 ⊢
          have g0 : wo.cell? ⟨wr.heap.size, 0, none⟩ = some (.int .i64 2) := HY.out.cell 0
          have g1 : wo.cell? ⟨wr.heap.size, 1, none⟩ = some (.int .i64 m1) := HY.out.cell 1
          have g2 : wo.cell? ⟨wr.heap.size, 2, none⟩ = some (.int .i64 m2) := HY.out.cell 2
          replace HO2 := Lib.hid (HO2.out.drewN 1)
          replace HX2 : Hid (Bx ((wo.setCell ⟨w2.heap.size, k, none⟩ (.int .i64 (if p < q then q else p))).drewN 1) w.heap.size _ _) := Lib.hid HX2.out
          replace HB2 := Lib.hid (below_drewN HB2.out 1)
          replace HS2 : Hid (w2.heap.size < ((wo.setCell ⟨w2.heap.size, k, none⟩ (.int .i64 (if p < q then q else p))).drewN 1).heap.size) := Lib.hid HS2.out
          clear hwo
          go_still_tail 13, (by kernel_rfl)
          change wpList _ _ _ _ _ wo.drew
          go_wp2
          go_roundw
          case rel => exact ⟨k + 1, by omega, by go_num, HO2, HX2, HB2, HS2⟩
          case measure => simp [intOf] <;> omega
        · obtain ⟨HO2, HX2, HB2, HS2⟩ := HSET (if p < q then q else p) (by rw [if_max, HPP.out, HQQ.out]; simp [dcutG])
          clear HO HX HB HS HO1 HX1 HB1 HS1 HSET HPP HQQ HZ0 HST
          go_wp2
          obtain ⟨wo, hwo⟩ : ∃ wo, Hid (wr.alloc (.cells #[.int .i64 3, .int .i64 m1, .int .i64 m2] 30) = wo) := ⟨_, Lib.hid rfl⟩
          rw [hwo.out] at hf hv0 hp hq HY HO2 HX2 HB2 HS2 ⊢
          have g0 : wo.cell? ⟨wr.heap.size, 0, none⟩ = some (.int .i64 3) := HY.out.cell 0
          have g1 : wo.cell? ⟨wr.heap.size, 1, none⟩ = some (.int .i64 m1) := HY.out.cell 1
          have g2 : wo.cell? ⟨wr.heap.size, 2, none⟩ = some (.int .i64 m2) := HY.out.cell 2
          replace HO2 := Lib.hid (HO2.out.drewN 1)
          replace HX2 : Hid (Bx ((wo.setCell ⟨w2.heap.size, k, none⟩ (.int .i64 (if p < q then q else p))).drewN 1) w.heap.size _ _) := Lib.hid HX2.out
          replace HB2 := Lib.hid (below_drewN HB2.out 1)
          replace HS2 : Hid (w2.heap.size < ((wo.setCell ⟨w2.heap.size, k, none⟩ (.int .i64 (if p < q then q else p))).drewN 1).heap.size) := Lib.hid HS2.out
          clear hwo
          go_still_tail 13, (by kernel_rfl)
          change wpList _ _ _ _ _ wo.drew
          go_wp2
          go_roundw
          case rel => exact ⟨k + 1, by omega, by go_num, HO2, HX2, HB2, HS2⟩
          case measure => simp [intOf] <;> omega
        · obtain ⟨HO2, HX2, HB2, HS2⟩ := HSET (if p + q < 1000 then p + q else 1000) (by rw [if_min, HPP.out, HQQ.out]; simp [dcutG])
          have im : IntKind.i64.wrap (p + q) = p + q := IntWalk.i64_in _ (by omega)
          clear HO HX HB HS HO1 HX1 HB1 HS1 HSET HPP HQQ HZ0 HST
          go_wp2
          obtain ⟨wo, hwo⟩ : ∃ wo, Hid (wr.alloc (.cells #[.int .i64 4, .int .i64 m1, .int .i64 m2] 30) = wo) := ⟨_, Lib.hid rfl⟩
          rw [hwo.out] at hf hv0 hp hq HY HO2 HX2 HB2 HS2 ⊢
          have g0 : wo.cell? ⟨wr.heap.size, 0, none⟩ = some (.int .i64 4) := HY.out.cell 0
          have g1 : wo.cell? ⟨wr.heap.size, 1, none⟩ = some (.int .i64 m1) := HY.out.cell 1
          have g2 : wo.cell? ⟨wr.heap.size, 2, none⟩ = some (.int .i64 m2) := HY.out.cell 2
          replace HO2 := Lib.hid (HO2.out.drewN 1)
          replace HX2 : Hid (Bx ((wo.setCell ⟨w2.heap.size, k, none⟩ (.int .i64 (if p + q < 1000 then p + q else 1000))).drewN 1) w.heap.size _ _) := Lib.hid HX2.out
          replace HB2 := Lib.hid (below_drewN HB2.out 1)
          replace HS2 : Hid (w2.heap.size < ((wo.setCell ⟨w2.heap.size, k, none⟩ (.int .i64 (if p + q < 1000 then p + q else 1000))).drewN 1).heap.size) := Lib.hid HS2.out
          clear hwo
          go_still_tail 14, (by kernel_rfl)
          change wpList _ _ _ _ _ wo.drew
          go_wp2
          go_roundw
          case rel => exact ⟨k + 1, by omega, by go_num, HO2, HX2, HB2, HS2⟩
          case measure => simp [intOf] <;> omega
    · have hkn : k = n1 := by omega
      have HRD : Hid (Rd wr wr.heap.size 1 (some ⟨w2.heap.size, 0, none⟩) n1 (cI (tellK dcutG d1 n1))) := Lib.hid (by
        have := HO.out
        rw [hkn, Nat.sub_self, List.replicate_zero, List.append_nil] at this
        exact this.rd.more HS.out)
      have HM := Lib.hid (most_bd (os := d2) (v := tellK dcutG d1 n1) (t := 1000) (by omega) (fun j => by have := dcut_bd HG.out n1 (Nat.le_refl _) j; omega) n2)
      clear HO hkn
      go_wp2_with fail
      refine (s_l8Most A1 n1 c1 A2 n2 c2 (some ⟨w2.heap.size, 0, none⟩) n1 n1 z d2 (tellK dcutG d1 n1) _ ((H2.out.below HB.out).more HB.out.size) HRD.out q2 G4.out q1).mono ?_
      rintro e w3 ⟨rfl, hb⟩
      have HB3 : Hid (Below w.heap.size w w3) := Lib.hid (HB.out.trans (hb.mono HB.out.size))
      clear hb HRD HX HB b0 b1 b2
      by_cases hM : mostK d2 (tellK dcutG d1 n1) n2 < 1000
      · have HR2 : Hid (mostK d2 (tellK dcutG d1 n1) n2 = degV (z, d1, d2)) := Lib.hid (by rw [HR.out]; omega)
        go_wp2
        go_ret
        exact ⟨ret_i HR2.out, HB3.out⟩
      · have HR2 : Hid (1000 = degV (z, d1, d2)) := Lib.hid (by rw [HR.out]; omega)
        go_wp2
        go_ret
        exact ⟨ret_i HR2.out, HB3.out⟩
end Go.Proofs.Ytbmjepmlalfpgaa

/- Chapter 8: depth is at most the number of products, degree at most two to the depth. -/
namespace Go.Proofs.Ytbmjepmlalfpgaa
open Go.RowKit
set_option maxRecDepth 100000

/-- the products among the first k gates -/
def mulsK (gs : List (Int × Int × Int)) : Nat → Nat
  | 0 => 0
  | k + 1 => mulsK gs k + (if (gt gs k).1 = 4 then 1 else 0)
theorem muls_le (gs : List (Int × Int × Int)) (k : Nat) : mulsK gs k ≤ k := by
  induction k with
  | zero => exact Nat.le_refl _
  | succ k ih => rw [mulsK]; split <;> omega
theorem dep_muls {gs : List (Int × Int × Int)} {m : Int} {n : Nat} (hg : gatesK gs m n = true) (k : Nat) (hk : k ≤ n) (j : Nat) : 0 ≤ (tellK depG gs k).getD j 0 ∧ (tellK depG gs k).getD j 0 ≤ mulsK gs k := by
  refine tell_all hg (fun k x => 0 ≤ x ∧ x ≤ (mulsK gs k : Int)) (fun k => by omega) (fun k x h => by have : mulsK gs k ≤ mulsK gs (k + 1) := Nat.le_add_right _ _
                                                                                                      omega) (fun k v _ hB h => ?_) k hk j
  have h1 := h (gt gs k).2.1.toNat
  have h2 := h (gt gs k).2.2.toNat
  simp only [depG, mulsK]
  split
  · split <;> omega
  · split
    · omega
    · omega
def pw (x : Int) : Int := ((2 ^ x.toNat : Nat) : Int)
theorem pw_pos (x : Int) : 1 ≤ pw x := by
  unfold pw
  have : 0 < 2 ^ x.toNat := Nat.pow_pos (by omega)
  omega
theorem pw_mono {x y : Int} (h : x ≤ y) : pw x ≤ pw y := by
  unfold pw
  have : 2 ^ x.toNat ≤ 2 ^ y.toNat := Nat.pow_le_pow_right (by omega) (by omega)
  omega
theorem pw_succ {x : Int} (h : 0 ≤ x) : pw (x + 1) = 2 * pw x := by
  unfold pw
  rw [show (x + 1).toNat = x.toNat + 1 by omega, Nat.pow_succ]
  omega
theorem dcut_pow {gs : List (Int × Int × Int)} {m : Int} {n : Nat} (hg : gatesK gs m n = true) (k : Nat) (hk : k ≤ n) : ∀ j : Nat, (tellK dcutG gs k).getD j 0 ≤ pw ((tellK depG gs k).getD j 0) := by
  induction k with
  | zero => intro j; simp only [tellK, List.getD_nil]; have := pw_pos 0; omega
  | succ k ih =>
    intro j
    have ih := ih (by omega)
    by_cases hj : j < k
    · rw [tellK_old dcutG gs (Nat.le_succ k) hj, tellK_old depG gs (Nat.le_succ k) hj]; exact ih j
    · by_cases hj2 : j = k
      · subst hj2
        rw [tell_last, tell_last]
        have d1 := (dep_bd hg j (by omega) (gt gs j).2.1.toNat).1
        have d2 := (dep_bd hg j (by omega) (gt gs j).2.2.toNat).1
        have a1 := ih (gt gs j).2.1.toNat
        have a2 := ih (gt gs j).2.2.toNat
        generalize hx : (tellK depG gs j).getD (gt gs j).2.1.toNat 0 = x at *
        generalize hy : (tellK depG gs j).getD (gt gs j).2.2.toNat 0 = y at *
        have m1 : pw x ≤ pw (max x y) := pw_mono (by omega)
        have m2 : pw y ≤ pw (max x y) := pw_mono (by omega)
        have m3 := pw_succ (x := max x y) (by omega)
        have p0 := pw_pos 0
        rw [dcutG, depG]
        rw [hx, hy]
        by_cases k0 : (gt gs j).1 = 0
        · rw [if_pos k0, if_pos (.inl k0)]; exact p0
        · rw [if_neg k0]
          by_cases k1 : (gt gs j).1 = 1
          · rw [if_pos k1, if_pos (.inr k1)]; omega
          · have k01 : ¬ ((gt gs j).1 = 0 ∨ (gt gs j).1 = 1) := fun h => h.elim k0 k1
            rw [if_neg k1, if_neg k01]
            by_cases k4 : (gt gs j).1 = 4
            · rw [if_pos k4, if_pos k4]; omega
            · rw [if_neg k4, if_neg k4]; omega
      · rw [tell_past dcutG gs (by omega)]; have := pw_pos ((tellK depG gs (k + 1)).getD j 0); omega
theorem most_pow {os v u : List Int} (h : ∀ j : Nat, v.getD j 0 ≤ pw (u.getD j 0)) (k : Nat) : mostK os v k ≤ pw (mostK os u k) := by
  induction k with
  | zero => have := pw_pos 0; rw [mostK, mostK]; omega
  | succ k ih =>
    rw [mostK, mostK]
    have h1 := h (os.getD k 0).toNat
    generalize u.getD (os.getD k 0).toNat 0 = x at *
    generalize v.getD (os.getD k 0).toNat 0 = y at *
    have m1 : pw (mostK os u k) ≤ pw (max (mostK os u k) x) := pw_mono (by omega)
    have m2 : pw x ≤ pw (max (mostK os u k) x) := pw_mono (by omega)
    omega
theorem dep_law {d : Int × List (Int × Int × Int) × List Int} (h : 0 ≤ depV d) (hl : d.2.1.length ≤ 10) : depV d ≤ mulsK d.2.1 d.2.1.length ∧ depV d ≤ 10 ∧ degV d ≤ pw (depV d) := by
  unfold depV degV at *
  by_cases ok : circB d = true
  · rw [if_pos ok, if_pos ok]
    have hg : gatesK d.2.1 d.1 d.2.1.length = true := by
      unfold circB at ok
      simp only [Bool.and_eq_true] at ok
      exact ok.2.1
    have h1 := most_bd (os := d.2.2) (v := tellK depG d.2.1 d.2.1.length) (t := mulsK d.2.1 d.2.1.length) (by omega) (fun j => dep_muls hg _ (Nat.le_refl _) j) d.2.2.length
    have h2 := muls_le d.2.1 d.2.1.length
    have h3 := most_pow (os := d.2.2) (dcut_pow hg _ (Nat.le_refl _)) d.2.2.length
    omega
  · rw [if_neg ok] at h; omega
end Go.Proofs.Ytbmjepmlalfpgaa

/- Chapter 4: the program's closures and its iterator over shares. -/
namespace Go.Proofs.Ytbmjepmlalfpgaa
open Go.RowKit Go.Shelf
theorem i_shares (cnt : Nat) (fn : Fn) (bs lb : Array Value) (w : World) :
    Calls Try.prog 113 #[.int .i64 cnt, .func fn bs lb] w fun e w' => e = .returned (.func (.func 119) #[] #[.pointer (some ⟨w.heap.size, 0, none⟩), .pointer (some ⟨w.heap.size + 1, 0, none⟩)]) ∧ w' = (w.alloc (.cells #[.int .i64 cnt] 3)).alloc (.cells #[.func fn bs lb] 133) := by
  go_enter Try.func113, Try.ntmps113
  go_wp2
  go_ret
  exact ⟨rfl, rfl⟩

/-- what a round keeps -/
def KpS (n₀ Bs : Nat) (sv : Value) (W W' : World) : Prop := Below n₀ W W' ∧ (Boxed W Bs 133 sv → Boxed W' Bs 133 sv)
theorem KpS_t {n₀ Bs : Nat} {sv : Value} {A B C : World} (h : KpS n₀ Bs sv A B) (k : KpS n₀ Bs sv B C) : KpS n₀ Bs sv A C := ⟨h.1.trans k.1, fun x => k.2 (h.2 x)⟩
theorem KpS_b {n₀ Bs : Nat} {sv : Value} {w : World} (hn : n₀ ≤ w.heap.size) (W : World) (l : Nat) (o o' : Obj) (hl : w.heap.size ≤ l) (h : W.heap[l]? = some o) (hc : o.isCells = false) (hw : o.isWalk = false) : KpS n₀ Bs sv W (W.putObj l o') :=
  ⟨belowK_b hn W l o o' hl h hc hw, fun hb => by
    by_cases e : Bs = l
    · subst e; rw [show W.heap[Bs]? = _ from hb] at h; cases h; cases hc
    · exact (World.putObj_heap_other (fun e' => e e')).trans hb⟩
def uptoF (f : Nat → Int × Int) (k : Nat) : List (Int × Int) := (List.range k).map f
theorem uptoF_succ (f : Nat → Int × Int) (k : Nat) : uptoF f (k + 1) = uptoF f k ++ [f k] := by simp [uptoF, List.range_succ]
theorem uptoF_length (f : Nat → Int × Int) (k : Nat) : (uptoF f k).length = k := by simp [uptoF]
theorem grown_of_below {w w' : World} (h : Below w.heap.size w w') : w.grownBy w' none := ⟨h.os, h.tape, h.output, h.size, fun k hk _ => h.block k hk⟩
def encP (p : Int × Int) : Array Value := #[.agg #[.int .i64 p.1, .int .i64 p.2]]
end Go.Proofs.Ytbmjepmlalfpgaa

/- Chapter 4: the iterator and what lists it, over SharesScale's closure. -/
namespace Go.Proofs.Ytbmjepmlalfpgaa
open Go.RowKit Go.Shelf
end Go.Proofs.Ytbmjepmlalfpgaa

/- Chapter 4: the list of what an iterator over shares gives, over SharesScale's closure. -/
namespace Go.Proofs.Ytbmjepmlalfpgaa
open Go.RowKit Go.Shelf
set_option maxRecDepth 100000
attribute [local go_sem] Oper.semAt_some

theorem run_make0 {P : Program} {t e : TypeId} {z : Value} {bytes size : Nat} (ht : P.underlying t = some (.slice e)) (hi : (P.info? e).map (fun i => (i.zero, i.size, i.bytes)) = some (some z, size, bytes))
    (n : Nat) (hb : bytes * n ≤ 281474976710656) (hn : n ≤ 9223372036854775807) (w : World) :
    (Instr.makeSlice t (.int .i64 0) (.int .i64 (n : Int))).run P w = .ok (.slice (some ⟨w.heap.size, 0, none⟩) 0 n) (w.alloc (.cells (madeCells z.cells (n * size)) e)) := by
  obtain ⟨i, hi, hz0, hz1, hz2⟩ := info_parts hi
  have hb' : (i.bytes : Int) * (n : Int) ≤ 281474976710656 := by
    have h : ((i.bytes * n : Nat) : Int) ≤ 281474976710656 := by rw [hz2]; omega
    rwa [Int.natCast_mul] at h
  have hr := run_make (P := P) w t e i z ht hi hz0 .i64 .i64 0 n (by omega) (by omega) hb' (by omega)
  simp only [Int.toNat_natCast, hz1] at hr
  exact hr
theorem own_make0 (w : World) (cs : Array Value) (e size n : Nat) (hs : cs.size = n * size) (hn : n ≤ maxLen) : (w.alloc (.cells cs e)).ownsRow w.heap.size e size (.slice (some ⟨w.heap.size, 0, none⟩) 0 n) 0 [] :=
  ⟨by simp, .inr ⟨w.heap.size, n, cs, rfl, Nat.le_refl _, heap_alloc_new _ _, Nat.zero_le _, hn, hs, by simp⟩⟩
theorem cell_two_new (w : World) (x y : Value) (t : TypeId) : ∀ j u, [x, y][j]? = some u → (w.alloc (.cells #[x, y] t)).cell? ((⟨w.heap.size, 0, none⟩ : Addr).add j) = some u := by
  intro j u hj
  rw [addr_add, Nat.zero_add, World.cell?_alloc_new]
  simpa using hj
theorem madeCells_size (z : Array Value) (n : Nat) : (madeCells z n).size = n := by simp [madeCells]

end Go.Proofs.Ytbmjepmlalfpgaa

/- Chapter 8 in the program: gate by gate. -/
namespace Go.Proofs.Ytbmjepmlalfpgaa
open Go.RowKit
set_option maxRecDepth 100000

theorem own_val {w1 : World} {B k : Nat} {v : Value} {ys : List Int} (h : w1.ownsRow B 3 1 v k (cI ys)) : ∃ A c, v = .slice A k c ∧ Ow w1 B w1.heap.size 3 1 A k c (cI ys) := by
  obtain ⟨A, c, rfl, ho⟩ := Ow.of_own h
  exact ⟨A, c, rfl, ho⟩

set_option maxHeartbeats 8000000 in
theorem i_gateByGate (F : FuncId) (caps : Array Value) (f : Int × Int × Int → List Int → Int) (Ag : Option Addr) (ng cg : Nat) (gs : List (Int × Int × Int)) (w : World) (hg : Rd w w.heap.size 1 Ag ng (gs.map gI)) (hn : ng ≤ 16)
    (eg : ∀ args W, (callFunc F args).run Try.prog W = .ok (.enter F args) W)
    (hS : ∀ W k A c, Below w.heap.size w W → k < ng → Rd W W.heap.size 1 A k (cI (tellK f gs k)) → Calls Try.prog F (#[gI (gt gs k), .slice A k c] ++ caps) W fun e W' => e = .returned (.int .i64 (f (gt gs k) (tellK f gs k))) ∧ Below W.heap.size W W') :
    Calls Try.prog 60 #[.slice Ag ng cg, .func (.func F) #[] caps] w fun e w' => ∃ A c, e = .returned (.slice A ng c) ∧ OwIntS w' w.heap.size w'.heap.size (.slice A ng c) (tellK f gs ng) ∧ Below w.heap.size w w' := by
  have hl : gs.length = ng := by have := hg.1; rw [List.length_map] at this; omega
  have HL := Lib.hid hl
  have HG := Lib.hid hg
  have HS := Lib.hid hS
  clear hg hS hl
  have hmk := fun W => run_make0 (P := Try.prog) Try.underlying24 info_int ng (by omega) (by omega) W
  have hcap : (madeCells (Value.int .i64 0).cells (ng * 1)).size = ng * 1 := madeCells_size _ _
  obtain ⟨cs, hcs⟩ : ∃ cs, madeCells (Value.int .i64 0).cells (ng * 1) = cs := ⟨_, rfl⟩
  rw [hcs] at hmk hcap
  clear hcs
  have HO0 : Hid ((w.alloc (.cells cs 3)).ownsRow w.heap.size 3 1 (.slice (some ⟨w.heap.size, 0, none⟩) 0 ng) 0 (cI [])) := Lib.hid (own_make0 w cs 3 1 ng hcap (by unfold maxLen; omega))
  have HB0 : Hid (Below w.heap.size w (w.alloc (.cells cs 3))) := Lib.hid ((Below.refl _ _).alloc (Nat.le_refl _) _)
  clear hcap
  have c0 : (0 : Int) ≤ (ng : Int) := by omega
  go_enter Try.func60, Try.ntmps60
  go_wp2
  go_loopw [5, 13] (fun o i wr => ∃ k : Nat, k ≤ ng ∧ i = .int .i64 k ∧ Hid (wr.ownsRow w.heap.size 3 1 o k (cI (tellK f gs k))) ∧ Hid (Below w.heap.size w wr)) (fun _ i _ => ng - (intOf i).toNat)
  case atStart => exact ⟨0, Nat.zero_le _, rfl, HO0, HB0⟩
  case round =>
    clear HO0 HB0
    obtain ⟨k, hk, rfl, HO, HB⟩ := hrel
    obtain ⟨A, c, rfl, ho⟩ := own_val HO.out
    have HRD := Lib.hid ho.rd
    clear ho
    by_cases hlt : k < ng
    · obtain ⟨a, hA, hab, hc⟩ := HG.out.2 (by omega)
      have hck0 := hc k (gI (gt gs k)) (by have := HL.out; simp [gt, show k < gs.length by omega])
      have hck := (HB.out.cell (p := a.add k) (by rw [add_block]; exact hab)).trans hck0
      have i0 : (0 : Int) ≤ (k : Int) := by omega
      have i1 : (k : Int) < (ng : Int) := by omega
      clear hc hck0
      subst hA
      go_wp2_with fail
      refine (HS.out wr k A c HB.out hlt HRD.out).mono ?_
      rintro e w2 ⟨rfl, hb⟩
      generalize hfv : f (gt gs k) (tellK f gs k) = fv
      have HE : Hid (tellK f gs (k + 1) = tellK f gs k ++ [fv]) := Lib.hid (by rw [tellK, hfv])
      have HB2 : Hid (Below w.heap.size w w2) := Lib.hid (HB.out.trans (hb.mono HB.out.size))
      have HO2 := Lib.hid (ownsRow_below HO.out hb)
      have HOa := Lib.hid (HO2.out.alloc (.cells #[.int .i64 fv] 3))
      have HBa := Lib.hid (HB2.out.alloc HB2.out.size (.cells #[.int .i64 fv] 3))
      have HRa : Hid (Rd (w2.alloc (.cells #[.int .i64 fv] 3)) (w2.heap.size + 1) 1 (some ⟨w2.heap.size, 0, none⟩) 1 (cI [fv])) := Lib.hid (by
        have := (Ow.new w2 #[.int .i64 fv] 3 1 1 rfl).rd; exact this)
      clear HO HB hb HRD hfv
      go_wp2_with (at_builtin; refine wpList_append_rd rfl (.tmp 17) (.tmp 22) _ rfl w.heap.size 3 _ 1 8 Try.underlying24 info_int rfl (by decide) (.slice A k c) k (cI (tellK f gs k)) rfl HOa.out _ _ 1 1 (cI [fv]) rfl HRa.out (cI_one _) (by unfold maxLen; omega) (by omega) (by have := HBa.out.size; omega) ?_; intro v1 w3 hown hg hat; have HOWN := Lib.hid hown; have HG2 := Lib.hid hg; clear hown hg hat)
      have HO3 : Hid (w3.ownsRow w.heap.size 3 1 v1 (k + 1) (cI (tellK f gs (k + 1)))) := Lib.hid (by
        rw [HE.out, cI_append]; exact HOWN.out)
      have HB3 : Hid (Below w.heap.size w w3) := Lib.hid (below_append HBa.out HG2.out (own_block HOa.out) HBa.out.size)
      clear HOWN HG2 HOa HRa HBa
      go_roundw
      case rel => exact ⟨k + 1, by omega, by go_num, HO3, HB3⟩
      case measure => simp [intOf] <;> omega
    · have hkn : k = ng := by omega
      subst hkn
      have HOF : Hid (OwIntS wr w.heap.size wr.heap.size (.slice A k c) (tellK f gs k)) := Lib.hid (own_done rfl HO.out (by omega))
      clear HO
      go_wp2
      go_ret
      exact ⟨_, _, rfl, HOF.out, HB.out⟩
end Go.Proofs.Ytbmjepmlalfpgaa

/- Chapter 8 in the program: what is told of a gate. -/
namespace Go.Proofs.Ytbmjepmlalfpgaa
open Go.RowKit
set_option maxRecDepth 100000

theorem ta_input_input (v0 : Value) (W : World) : (Instr.typeAssert (.iface 128 (.agg #[v0])) 91 128 true).run Try.prog W = .ok (.tuple #[.agg #[v0], .bool true]) W := by kernel_rfl
theorem ta_input_const (v0 : Value) (W : World) : (Instr.typeAssert (.iface 128 (.agg #[v0])) 91 139 true).run Try.prog W = .ok (.tuple #[.agg #[.int .i64 0], .bool false]) W := by kernel_rfl
theorem ta_input_linear (v0 : Value) (W : World) : (Instr.typeAssert (.iface 128 (.agg #[v0])) 91 124 true).run Try.prog W = .ok (.tuple #[.agg #[.int .i64 0, .int .i64 0, .int .i64 0], .bool false]) W := by kernel_rfl
theorem ta_input_product (v0 : Value) (W : World) : (Instr.typeAssert (.iface 128 (.agg #[v0])) 91 126 true).run Try.prog W = .ok (.tuple #[.agg #[.int .i64 0, .int .i64 0], .bool false]) W := by kernel_rfl
theorem ta_const_input (v0 : Value) (W : World) : (Instr.typeAssert (.iface 139 (.agg #[v0])) 91 128 true).run Try.prog W = .ok (.tuple #[.agg #[.int .i64 0], .bool false]) W := by kernel_rfl
theorem ta_const_const (v0 : Value) (W : World) : (Instr.typeAssert (.iface 139 (.agg #[v0])) 91 139 true).run Try.prog W = .ok (.tuple #[.agg #[v0], .bool true]) W := by kernel_rfl
theorem ta_const_linear (v0 : Value) (W : World) : (Instr.typeAssert (.iface 139 (.agg #[v0])) 91 124 true).run Try.prog W = .ok (.tuple #[.agg #[.int .i64 0, .int .i64 0, .int .i64 0], .bool false]) W := by kernel_rfl
theorem ta_const_product (v0 : Value) (W : World) : (Instr.typeAssert (.iface 139 (.agg #[v0])) 91 126 true).run Try.prog W = .ok (.tuple #[.agg #[.int .i64 0, .int .i64 0], .bool false]) W := by kernel_rfl
theorem ta_linear_input (v0 v1 v2 : Value) (W : World) : (Instr.typeAssert (.iface 124 (.agg #[v0, v1, v2])) 91 128 true).run Try.prog W = .ok (.tuple #[.agg #[.int .i64 0], .bool false]) W := by kernel_rfl
theorem ta_linear_const (v0 v1 v2 : Value) (W : World) : (Instr.typeAssert (.iface 124 (.agg #[v0, v1, v2])) 91 139 true).run Try.prog W = .ok (.tuple #[.agg #[.int .i64 0], .bool false]) W := by kernel_rfl
theorem ta_linear_linear (v0 v1 v2 : Value) (W : World) : (Instr.typeAssert (.iface 124 (.agg #[v0, v1, v2])) 91 124 true).run Try.prog W = .ok (.tuple #[.agg #[v0, v1, v2], .bool true]) W := by kernel_rfl
theorem ta_linear_product (v0 v1 v2 : Value) (W : World) : (Instr.typeAssert (.iface 124 (.agg #[v0, v1, v2])) 91 126 true).run Try.prog W = .ok (.tuple #[.agg #[.int .i64 0, .int .i64 0], .bool false]) W := by kernel_rfl
theorem ta_product_input (v0 v1 : Value) (W : World) : (Instr.typeAssert (.iface 126 (.agg #[v0, v1])) 91 128 true).run Try.prog W = .ok (.tuple #[.agg #[.int .i64 0], .bool false]) W := by kernel_rfl
theorem ta_product_const (v0 v1 : Value) (W : World) : (Instr.typeAssert (.iface 126 (.agg #[v0, v1])) 91 139 true).run Try.prog W = .ok (.tuple #[.agg #[.int .i64 0], .bool false]) W := by kernel_rfl
theorem ta_product_linear (v0 v1 : Value) (W : World) : (Instr.typeAssert (.iface 126 (.agg #[v0, v1])) 91 124 true).run Try.prog W = .ok (.tuple #[.agg #[.int .i64 0, .int .i64 0, .int .i64 0], .bool false]) W := by kernel_rfl
theorem ta_product_product (v0 v1 : Value) (W : World) : (Instr.typeAssert (.iface 126 (.agg #[v0, v1])) 91 126 true).run Try.prog W = .ok (.tuple #[.agg #[v0, v1], .bool true]) W := by kernel_rfl

set_option maxHeartbeats 8000000 in
theorem i_depthOf (g : Int × Int × Int) (m t : Int) (A : Option Addr) (n c : Nat) (vs : List Int) (w : World) (h : Rd w w.heap.size 1 A n (cI vs)) (hg : gateB g t m = true) (ht : t = n) (_hn : n ≤ 16) (hv : ∀ j : Nat, 0 ≤ vs.getD j 0 ∧ vs.getD j 0 ≤ 16) :
    Calls Try.prog 61 #[gI g, .slice A n c] w fun e w' => e = .returned (.int .i64 (depG g vs)) ∧ Below w.heap.size w w' := by
  obtain ⟨x, y, u⟩ := g
  have H := Lib.hid h
  have HV := Lib.hid hv
  have hkd := gateB_kind hg
  simp only at hkd
  subst ht
  clear h hg hv
  rcases hkd with ⟨rfl, y0, y1, rfl⟩ | ⟨rfl, y0, y1, rfl⟩ | ⟨hk3, y0, y1, u0, u1⟩
  · have HE : Hid (depG (0, y, 0) vs = 0) := Lib.hid (by simp [depG])
    simp only [gI]
    have t0 := fun W => ta_input_linear (.int .i64 y) W
    have t1 := fun W => ta_input_product (.int .i64 y) W
    go_enter Try.func61, Try.ntmps61
    go_wp2
    go_ret
    exact ⟨ret_i HE.out.symm, Below.refl _ _⟩
  · have HE : Hid (depG (1, y, 0) vs = 0) := Lib.hid (by simp [depG])
    simp only [gI]
    have t0 := fun W => ta_const_linear (.int .i64 y) W
    have t1 := fun W => ta_const_product (.int .i64 y) W
    go_enter Try.func61, Try.ntmps61
    go_wp2
    go_ret
    exact ⟨ret_i HE.out.symm, Below.refl _ _⟩
  · obtain ⟨m1, rfl⟩ : ∃ m : Nat, y = m := ⟨y.toNat, by omega⟩
    obtain ⟨m2, rfl⟩ : ∃ m : Nat, u = m := ⟨u.toNat, by omega⟩
    obtain ⟨a, p, hA, hab, hp, HP⟩ := H.out.intAt (k := m1) (by omega)
    obtain ⟨a', q, hA', _, hq, HQ⟩ := H.out.intAt (k := m2) (by omega)
    subst hA
    injection hA' with hA'; subst hA'
    have p0 := (HV.out m1).1
    have p1 := (HV.out m1).2
    have q0 := (HV.out m2).1
    have q1 := (HV.out m2).2
    rw [← HP.out] at p0 p1
    rw [← HQ.out] at q0 q1
    have j0 : (m1 : Int) < (n : Int) := by omega
    have j1 : (m2 : Int) < (n : Int) := by omega
    have i0 : (0 : Int) ≤ (m1 : Int) := by omega
    have i1 : (0 : Int) ≤ (m2 : Int) := by omega
    rcases hk3 with rfl | rfl | rfl
    · have HE : Hid ((if p < q then q else p) = depG (2, (m1 : Int), (m2 : Int)) vs) := Lib.hid (by rw [if_max, HP.out, HQ.out]; simp [depG])
      simp only [gI]
      have t0 := fun W => ta_linear_linear (.int .i64 m1) (.int .i64 m2) (.int .i64 1) W
      have HB0 : Hid (Below w.heap.size w (w.alloc (.cells #[.int .i64 m1, .int .i64 m2, .int .i64 1] 124))) := Lib.hid ((Below.refl _ _).alloc (Nat.le_refl _) _)
      have HX : Hid (Bx (w.alloc (.cells #[.int .i64 m1, .int .i64 m2, .int .i64 1] 124)) w.heap.size #[.int .i64 m1, .int .i64 m2, .int .i64 1] 124) := Lib.hid (Bx.new _ _ _)
      have hp2 := (HB0.out.cell (p := a.add m1) (by rw [add_block]; exact hab)).trans hp
      have hq2 := (HB0.out.cell (p := a.add m2) (by rw [add_block]; exact hab)).trans hq
      go_enter Try.func61, Try.ntmps61
      go_wp2
      obtain ⟨wo, hwo⟩ : ∃ wo, Hid (w.alloc (.cells #[.int .i64 m1, .int .i64 m2, .int .i64 1] 124) = wo) := ⟨_, Lib.hid rfl⟩
      rw [hwo.out] at hp2 hq2 HB0 HX ⊢
      clear hwo hp hq
      have g0 : wo.cell? ⟨w.heap.size, 0, none⟩ = some (.int .i64 m1) := HX.out.cell 0
      have g1 : wo.cell? ⟨w.heap.size, 1, none⟩ = some (.int .i64 m2) := HX.out.cell 1
      have g2 : wo.cell? ⟨w.heap.size, 2, none⟩ = some (.int .i64 1) := HX.out.cell 2
      go_still_tail 12, (by kernel_rfl)
      change wpList _ _ _ _ _ wo.drew
      go_wp2
      all_goals (
        go_ret
        first
          | exact ⟨ret_i (by have := HE.out; rw [if_pos (by omega)] at this; exact this), HB0.out.drew⟩
          | exact ⟨ret_i (by have := HE.out; rw [if_neg (by omega)] at this; exact this), HB0.out.drew⟩)
    · have HE : Hid ((if p < q then q else p) = depG (3, (m1 : Int), (m2 : Int)) vs) := Lib.hid (by rw [if_max, HP.out, HQ.out]; simp [depG])
      simp only [gI]
      have t0 := fun W => ta_linear_linear (.int .i64 m1) (.int .i64 m2) (.int .i64 112) W
      have HB0 : Hid (Below w.heap.size w (w.alloc (.cells #[.int .i64 m1, .int .i64 m2, .int .i64 112] 124))) := Lib.hid ((Below.refl _ _).alloc (Nat.le_refl _) _)
      have HX : Hid (Bx (w.alloc (.cells #[.int .i64 m1, .int .i64 m2, .int .i64 112] 124)) w.heap.size #[.int .i64 m1, .int .i64 m2, .int .i64 112] 124) := Lib.hid (Bx.new _ _ _)
      have hp2 := (HB0.out.cell (p := a.add m1) (by rw [add_block]; exact hab)).trans hp
      have hq2 := (HB0.out.cell (p := a.add m2) (by rw [add_block]; exact hab)).trans hq
      go_enter Try.func61, Try.ntmps61
      go_wp2
      obtain ⟨wo, hwo⟩ : ∃ wo, Hid (w.alloc (.cells #[.int .i64 m1, .int .i64 m2, .int .i64 112] 124) = wo) := ⟨_, Lib.hid rfl⟩
      rw [hwo.out] at hp2 hq2 HB0 HX ⊢
      clear hwo hp hq
      have g0 : wo.cell? ⟨w.heap.size, 0, none⟩ = some (.int .i64 m1) := HX.out.cell 0
      have g1 : wo.cell? ⟨w.heap.size, 1, none⟩ = some (.int .i64 m2) := HX.out.cell 1
      have g2 : wo.cell? ⟨w.heap.size, 2, none⟩ = some (.int .i64 112) := HX.out.cell 2
      go_still_tail 12, (by kernel_rfl)
      change wpList _ _ _ _ _ wo.drew
      go_wp2
      all_goals (
        go_ret
        first
          | exact ⟨ret_i (by have := HE.out; rw [if_pos (by omega)] at this; exact this), HB0.out.drew⟩
          | exact ⟨ret_i (by have := HE.out; rw [if_neg (by omega)] at this; exact this), HB0.out.drew⟩)
    · have HE : Hid ((if p < q then q else p) + 1 = depG (4, (m1 : Int), (m2 : Int)) vs) := Lib.hid (by rw [if_max, HP.out, HQ.out]; simp [depG])
      have im : IntKind.i64.wrap (p + 1) = p + 1 := IntWalk.i64_in _ (by omega)
      have im2 : IntKind.i64.wrap (q + 1) = q + 1 := IntWalk.i64_in _ (by omega)
      simp only [gI]
      have t0 := fun W => ta_product_linear (.int .i64 m1) (.int .i64 m2) W
      have t1 := fun W => ta_product_product (.int .i64 m1) (.int .i64 m2) W
      have HB0 : Hid (Below w.heap.size w (w.alloc (.cells #[.int .i64 m1, .int .i64 m2] 126))) := Lib.hid ((Below.refl _ _).alloc (Nat.le_refl _) _)
      have HX : Hid (Bx (w.alloc (.cells #[.int .i64 m1, .int .i64 m2] 126)) w.heap.size #[.int .i64 m1, .int .i64 m2] 126) := Lib.hid (Bx.new _ _ _)
      have hp2 := (HB0.out.cell (p := a.add m1) (by rw [add_block]; exact hab)).trans hp
      have hq2 := (HB0.out.cell (p := a.add m2) (by rw [add_block]; exact hab)).trans hq
      go_enter Try.func61, Try.ntmps61
      go_wp2
      obtain ⟨wo, hwo⟩ : ∃ wo, Hid (w.alloc (.cells #[.int .i64 m1, .int .i64 m2] 126) = wo) := ⟨_, Lib.hid rfl⟩
      rw [hwo.out] at hp2 hq2 HB0 HX ⊢
      clear hwo hp hq
      have g0 : wo.cell? ⟨w.heap.size, 0, none⟩ = some (.int .i64 m1) := HX.out.cell 0
      have g1 : wo.cell? ⟨w.heap.size, 1, none⟩ = some (.int .i64 m2) := HX.out.cell 1
      go_still_tail 12, (by kernel_rfl)
      change wpList _ _ _ _ _ wo.drew
      go_wp2
      all_goals (
        go_ret
        first
          | exact ⟨ret_i (by have := HE.out; rw [if_pos (by omega)] at this; exact this), HB0.out.drew⟩
          | exact ⟨ret_i (by have := HE.out; rw [if_neg (by omega)] at this; exact this), HB0.out.drew⟩)

set_option maxHeartbeats 8000000 in
theorem i_degreeOf (g : Int × Int × Int) (m t : Int) (A : Option Addr) (n c : Nat) (vs : List Int) (w : World) (h : Rd w w.heap.size 1 A n (cI vs)) (hg : gateB g t m = true) (ht : t = n) (_hn : n ≤ 16) (hv : ∀ j : Nat, 0 ≤ vs.getD j 0 ∧ vs.getD j 0 ≤ 65536) :
    Calls Try.prog 63 #[gI g, .slice A n c] w fun e w' => e = .returned (.int .i64 (degG g vs)) ∧ Below w.heap.size w w' := by
  obtain ⟨x, y, u⟩ := g
  have H := Lib.hid h
  have HV := Lib.hid hv
  have hkd := gateB_kind hg
  simp only at hkd
  subst ht
  clear h hg hv
  rcases hkd with ⟨rfl, y0, y1, rfl⟩ | ⟨rfl, y0, y1, rfl⟩ | ⟨hk3, y0, y1, u0, u1⟩
  · have HE : Hid (degG (0, y, 0) vs = 1) := Lib.hid (by simp [degG])
    simp only [gI]
    have t0 := fun W => ta_input_input (.int .i64 y) W
    go_enter Try.func63, Try.ntmps63
    go_wp2
    go_ret
    exact ⟨ret_i HE.out.symm, by first | exact Below.refl _ _ | exact (Below.refl _ _).alloc (Nat.le_refl _) _⟩
  · have HE : Hid (degG (1, y, 0) vs = 0) := Lib.hid (by simp [degG])
    simp only [gI]
    have t0 := fun W => ta_const_input (.int .i64 y) W
    have t1 := fun W => ta_const_linear (.int .i64 y) W
    have t2 := fun W => ta_const_product (.int .i64 y) W
    go_enter Try.func63, Try.ntmps63
    go_wp2
    go_ret
    exact ⟨ret_i HE.out.symm, Below.refl _ _⟩
  · obtain ⟨m1, rfl⟩ : ∃ m : Nat, y = m := ⟨y.toNat, by omega⟩
    obtain ⟨m2, rfl⟩ : ∃ m : Nat, u = m := ⟨u.toNat, by omega⟩
    obtain ⟨a, p, hA, hab, hp, HP⟩ := H.out.intAt (k := m1) (by omega)
    obtain ⟨a', q, hA', _, hq, HQ⟩ := H.out.intAt (k := m2) (by omega)
    subst hA
    injection hA' with hA'; subst hA'
    have p0 := (HV.out m1).1
    have p1 := (HV.out m1).2
    have q0 := (HV.out m2).1
    have q1 := (HV.out m2).2
    rw [← HP.out] at p0 p1
    rw [← HQ.out] at q0 q1
    have j0 : (m1 : Int) < (n : Int) := by omega
    have j1 : (m2 : Int) < (n : Int) := by omega
    have i0 : (0 : Int) ≤ (m1 : Int) := by omega
    have i1 : (0 : Int) ≤ (m2 : Int) := by omega
    rcases hk3 with rfl | rfl | rfl
    · have HE : Hid ((if p < q then q else p) = degG (2, (m1 : Int), (m2 : Int)) vs) := Lib.hid (by rw [if_max, HP.out, HQ.out]; simp [degG])
      simp only [gI]
      have t0 := fun W => ta_linear_input (.int .i64 m1) (.int .i64 m2) (.int .i64 1) W
      have t1 := fun W => ta_linear_linear (.int .i64 m1) (.int .i64 m2) (.int .i64 1) W
      have HB0 : Hid (Below w.heap.size w (w.alloc (.cells #[.int .i64 m1, .int .i64 m2, .int .i64 1] 124))) := Lib.hid ((Below.refl _ _).alloc (Nat.le_refl _) _)
      have HX : Hid (Bx (w.alloc (.cells #[.int .i64 m1, .int .i64 m2, .int .i64 1] 124)) w.heap.size #[.int .i64 m1, .int .i64 m2, .int .i64 1] 124) := Lib.hid (Bx.new _ _ _)
      have hp2 := (HB0.out.cell (p := a.add m1) (by rw [add_block]; exact hab)).trans hp
      have hq2 := (HB0.out.cell (p := a.add m2) (by rw [add_block]; exact hab)).trans hq
      go_enter Try.func63, Try.ntmps63
      go_wp2
      obtain ⟨wo, hwo⟩ : ∃ wo, Hid (w.alloc (.cells #[.int .i64 m1, .int .i64 m2, .int .i64 1] 124) = wo) := ⟨_, Lib.hid rfl⟩
      rw [hwo.out] at hp2 hq2 HB0 HX ⊢
      clear hwo hp hq
      have g0 : wo.cell? ⟨w.heap.size, 0, none⟩ = some (.int .i64 m1) := HX.out.cell 0
      have g1 : wo.cell? ⟨w.heap.size, 1, none⟩ = some (.int .i64 m2) := HX.out.cell 1
      have g2 : wo.cell? ⟨w.heap.size, 2, none⟩ = some (.int .i64 1) := HX.out.cell 2
      go_still_tail 12, (by kernel_rfl)
      change wpList _ _ _ _ _ wo.drew
      go_wp2
      all_goals (
        go_ret
        first
          | exact ⟨ret_i (by have := HE.out; rw [if_pos (by omega)] at this; exact this), HB0.out.drew⟩
          | exact ⟨ret_i (by have := HE.out; rw [if_neg (by omega)] at this; exact this), HB0.out.drew⟩)
    · have HE : Hid ((if p < q then q else p) = degG (3, (m1 : Int), (m2 : Int)) vs) := Lib.hid (by rw [if_max, HP.out, HQ.out]; simp [degG])
      simp only [gI]
      have t0 := fun W => ta_linear_input (.int .i64 m1) (.int .i64 m2) (.int .i64 112) W
      have t1 := fun W => ta_linear_linear (.int .i64 m1) (.int .i64 m2) (.int .i64 112) W
      have HB0 : Hid (Below w.heap.size w (w.alloc (.cells #[.int .i64 m1, .int .i64 m2, .int .i64 112] 124))) := Lib.hid ((Below.refl _ _).alloc (Nat.le_refl _) _)
      have HX : Hid (Bx (w.alloc (.cells #[.int .i64 m1, .int .i64 m2, .int .i64 112] 124)) w.heap.size #[.int .i64 m1, .int .i64 m2, .int .i64 112] 124) := Lib.hid (Bx.new _ _ _)
      have hp2 := (HB0.out.cell (p := a.add m1) (by rw [add_block]; exact hab)).trans hp
      have hq2 := (HB0.out.cell (p := a.add m2) (by rw [add_block]; exact hab)).trans hq
      go_enter Try.func63, Try.ntmps63
      go_wp2
      obtain ⟨wo, hwo⟩ : ∃ wo, Hid (w.alloc (.cells #[.int .i64 m1, .int .i64 m2, .int .i64 112] 124) = wo) := ⟨_, Lib.hid rfl⟩
      rw [hwo.out] at hp2 hq2 HB0 HX ⊢
      clear hwo hp hq
      have g0 : wo.cell? ⟨w.heap.size, 0, none⟩ = some (.int .i64 m1) := HX.out.cell 0
      have g1 : wo.cell? ⟨w.heap.size, 1, none⟩ = some (.int .i64 m2) := HX.out.cell 1
      have g2 : wo.cell? ⟨w.heap.size, 2, none⟩ = some (.int .i64 112) := HX.out.cell 2
      go_still_tail 12, (by kernel_rfl)
      change wpList _ _ _ _ _ wo.drew
      go_wp2
      all_goals (
        go_ret
        first
          | exact ⟨ret_i (by have := HE.out; rw [if_pos (by omega)] at this; exact this), HB0.out.drew⟩
          | exact ⟨ret_i (by have := HE.out; rw [if_neg (by omega)] at this; exact this), HB0.out.drew⟩)
    · have HE : Hid (p + q = degG (4, (m1 : Int), (m2 : Int)) vs) := Lib.hid (by rw [HP.out, HQ.out]; simp [degG])
      have im : IntKind.i64.wrap (p + q) = p + q := IntWalk.i64_in _ (by omega)
      simp only [gI]
      have t0 := fun W => ta_product_input (.int .i64 m1) (.int .i64 m2) W
      have t1 := fun W => ta_product_linear (.int .i64 m1) (.int .i64 m2) W
      have t2 := fun W => ta_product_product (.int .i64 m1) (.int .i64 m2) W
      have HB0 : Hid (Below w.heap.size w (w.alloc (.cells #[.int .i64 m1, .int .i64 m2] 126))) := Lib.hid ((Below.refl _ _).alloc (Nat.le_refl _) _)
      have HX : Hid (Bx (w.alloc (.cells #[.int .i64 m1, .int .i64 m2] 126)) w.heap.size #[.int .i64 m1, .int .i64 m2] 126) := Lib.hid (Bx.new _ _ _)
      have hp2 := (HB0.out.cell (p := a.add m1) (by rw [add_block]; exact hab)).trans hp
      have hq2 := (HB0.out.cell (p := a.add m2) (by rw [add_block]; exact hab)).trans hq
      go_enter Try.func63, Try.ntmps63
      go_wp2
      obtain ⟨wo, hwo⟩ : ∃ wo, Hid (w.alloc (.cells #[.int .i64 m1, .int .i64 m2] 126) = wo) := ⟨_, Lib.hid rfl⟩
      rw [hwo.out] at hp2 hq2 HB0 HX ⊢
      clear hwo hp hq
      have g0 : wo.cell? ⟨w.heap.size, 0, none⟩ = some (.int .i64 m1) := HX.out.cell 0
      have g1 : wo.cell? ⟨w.heap.size, 1, none⟩ = some (.int .i64 m2) := HX.out.cell 1
      go_quiet (fail)
      go_wp2
      go_ret
      exact ⟨ret_i HE.out, below_drewN HB0.out _⟩

set_option maxHeartbeats 8000000 in
theorem i_valueOf (g : Int × Int × Int) (m t : Int) (A3 : Option Addr) (n3 c3 : Nat) (ins : List Int) (A : Option Addr) (n c : Nat) (vs : List Int) (w : World) (h : Rd w w.heap.size 1 A n (cI vs)) (h3 : Rd w w.heap.size 1 A3 n3 (cI ins)) (hm : m = n3) (hg : gateB g t m = true) (ht : t = n) (_hn : n ≤ 16) (hv : ∀ j : Nat, 0 ≤ vs.getD j 0 ∧ vs.getD j 0 ≤ 112) :
    Calls Try.prog 84 #[gI g, .slice A3 n3 c3, .slice A n c] w fun e w' => e = .returned (.int .i64 (valG ins g vs)) ∧ Below w.heap.size w w' := by
  obtain ⟨x, y, u⟩ := g
  have H := Lib.hid h
  have HV := Lib.hid hv
  have H3 := Lib.hid h3
  clear h3
  have hkd := gateB_kind hg
  simp only at hkd
  subst ht
  clear h hg hv
  rcases hkd with ⟨rfl, y0, y1, rfl⟩ | ⟨rfl, y0, y1, rfl⟩ | ⟨hk3, y0, y1, u0, u1⟩
  · obtain ⟨k, rfl⟩ : ∃ k : Nat, y = k := ⟨y.toNat, by omega⟩
    obtain ⟨a3, v, hA3, hab3, hv3, HV3⟩ := H3.out.intAt (k := k) (by omega)
    subst hA3
    have HE : Hid (v = valG ins (0, (k : Int), 0) vs) := Lib.hid (by rw [HV3.out]; simp [valG])
    have HB0 : Hid (Below w.heap.size w (w.alloc (.cells #[.int .i64 k] 128))) := Lib.hid ((Below.refl _ _).alloc (Nat.le_refl _) _)
    have hv4 := (HB0.out.cell (p := a3.add k) (by rw [add_block]; exact hab3)).trans hv3
    have j0 : (k : Int) < (n3 : Int) := by omega
    have i0 : (0 : Int) ≤ (k : Int) := by omega
    simp only [gI]
    have t0 := fun W => ta_input_input (.int .i64 k) W
    go_enter Try.func84, Try.ntmps84
    go_wp2
    go_ret
    exact ⟨ret_i HE.out, HB0.out⟩
  · have HE : Hid (y = valG ins (1, y, 0) vs) := Lib.hid (by simp [valG])
    simp only [gI]
    have t0 := fun W => ta_const_input (.int .i64 y) W
    have t1 := fun W => ta_const_const (.int .i64 y) W
    go_enter Try.func84, Try.ntmps84
    go_wp2
    go_ret
    exact ⟨ret_i HE.out, (Below.refl _ _).alloc (Nat.le_refl _) _⟩
  · obtain ⟨m1, rfl⟩ : ∃ m : Nat, y = m := ⟨y.toNat, by omega⟩
    obtain ⟨m2, rfl⟩ : ∃ m : Nat, u = m := ⟨u.toNat, by omega⟩
    obtain ⟨a, p, hA, hab, hp, HP⟩ := H.out.intAt (k := m1) (by omega)
    obtain ⟨a', q, hA', _, hq, HQ⟩ := H.out.intAt (k := m2) (by omega)
    subst hA
    injection hA' with hA'; subst hA'
    have p0 := (HV.out m1).1
    have p1 := (HV.out m1).2
    have q0 := (HV.out m2).1
    have q1 := (HV.out m2).2
    rw [← HP.out] at p0 p1
    rw [← HQ.out] at q0 q1
    have j0 : (m1 : Int) < (n : Int) := by omega
    have j1 : (m2 : Int) < (n : Int) := by omega
    have i0 : (0 : Int) ≤ (m1 : Int) := by omega
    have i1 : (0 : Int) ≤ (m2 : Int) := by omega
    rcases hk3 with rfl | rfl | rfl
    · have HE : Hid ((p + q % 113) % 113 = valG ins (2, (m1 : Int), (m2 : Int)) vs) := Lib.hid (by rw [HP.out, HQ.out]; simp only [valG]; first | (simp; done) | (simp; omega))
      have s0 : 0 ≤ q % 113 := by omega
      have s1 : q % 113 ≤ 112 := by omega
      simp only [gI]
      have t0 := fun W => ta_linear_input (.int .i64 m1) (.int .i64 m2) (.int .i64 1) W
      have t1 := fun W => ta_linear_const (.int .i64 m1) (.int .i64 m2) (.int .i64 1) W
      have t2 := fun W => ta_linear_linear (.int .i64 m1) (.int .i64 m2) (.int .i64 1) W
      have HB0 : Hid (Below w.heap.size w (w.alloc (.cells #[.int .i64 m1, .int .i64 m2, .int .i64 1] 124))) := Lib.hid ((Below.refl _ _).alloc (Nat.le_refl _) _)
      have HX : Hid (Bx (w.alloc (.cells #[.int .i64 m1, .int .i64 m2, .int .i64 1] 124)) w.heap.size #[.int .i64 m1, .int .i64 m2, .int .i64 1] 124) := Lib.hid (Bx.new _ _ _)
      have hp2 := (HB0.out.cell (p := a.add m1) (by rw [add_block]; exact hab)).trans hp
      have hq2 := (HB0.out.cell (p := a.add m2) (by rw [add_block]; exact hab)).trans hq
      go_enter Try.func84, Try.ntmps84
      go_wp2
      obtain ⟨wo, hwo⟩ : ∃ wo, Hid (w.alloc (.cells #[.int .i64 m1, .int .i64 m2, .int .i64 1] 124) = wo) := ⟨_, Lib.hid rfl⟩
      rw [hwo.out] at hp2 hq2 HB0 HX ⊢
      clear hwo hp hq
      have g0 : wo.cell? ⟨w.heap.size, 0, none⟩ = some (.int .i64 m1) := HX.out.cell 0
      have g1 : wo.cell? ⟨w.heap.size, 1, none⟩ = some (.int .i64 m2) := HX.out.cell 1
      have g2 : wo.cell? ⟨w.heap.size, 2, none⟩ = some (.int .i64 1) := HX.out.cell 2
      go_quiet ((first
        | (go_at_call 102; exact quiet_drewN (i_times q 1 _ q0 q1 (by omega) (by omega)))
        | (go_at_call 101; exact quiet_drewN (i_plus p _ _ p0 p1 s0 s1))))
      go_wp2
      go_ret
      exact ⟨ret_i HE.out, below_drewN HB0.out _⟩
    · have HE : Hid ((p + q * 112 % 113) % 113 = valG ins (3, (m1 : Int), (m2 : Int)) vs) := Lib.hid (by rw [HP.out, HQ.out]; simp only [valG]; first | (simp; done) | (simp; omega))
      have s0 : 0 ≤ q * 112 % 113 := by omega
      have s1 : q * 112 % 113 ≤ 112 := by omega
      simp only [gI]
      have t0 := fun W => ta_linear_input (.int .i64 m1) (.int .i64 m2) (.int .i64 112) W
      have t1 := fun W => ta_linear_const (.int .i64 m1) (.int .i64 m2) (.int .i64 112) W
      have t2 := fun W => ta_linear_linear (.int .i64 m1) (.int .i64 m2) (.int .i64 112) W
      have HB0 : Hid (Below w.heap.size w (w.alloc (.cells #[.int .i64 m1, .int .i64 m2, .int .i64 112] 124))) := Lib.hid ((Below.refl _ _).alloc (Nat.le_refl _) _)
      have HX : Hid (Bx (w.alloc (.cells #[.int .i64 m1, .int .i64 m2, .int .i64 112] 124)) w.heap.size #[.int .i64 m1, .int .i64 m2, .int .i64 112] 124) := Lib.hid (Bx.new _ _ _)
      have hp2 := (HB0.out.cell (p := a.add m1) (by rw [add_block]; exact hab)).trans hp
      have hq2 := (HB0.out.cell (p := a.add m2) (by rw [add_block]; exact hab)).trans hq
      go_enter Try.func84, Try.ntmps84
      go_wp2
      obtain ⟨wo, hwo⟩ : ∃ wo, Hid (w.alloc (.cells #[.int .i64 m1, .int .i64 m2, .int .i64 112] 124) = wo) := ⟨_, Lib.hid rfl⟩
      rw [hwo.out] at hp2 hq2 HB0 HX ⊢
      clear hwo hp hq
      have g0 : wo.cell? ⟨w.heap.size, 0, none⟩ = some (.int .i64 m1) := HX.out.cell 0
      have g1 : wo.cell? ⟨w.heap.size, 1, none⟩ = some (.int .i64 m2) := HX.out.cell 1
      have g2 : wo.cell? ⟨w.heap.size, 2, none⟩ = some (.int .i64 112) := HX.out.cell 2
      go_quiet ((first
        | (go_at_call 102; exact quiet_drewN (i_times q 112 _ q0 q1 (by omega) (by omega)))
        | (go_at_call 101; exact quiet_drewN (i_plus p _ _ p0 p1 s0 s1))))
      go_wp2
      go_ret
      exact ⟨ret_i HE.out, below_drewN HB0.out _⟩
    · have HE : Hid (p * q % 113 = valG ins (4, (m1 : Int), (m2 : Int)) vs) := Lib.hid (by rw [HP.out, HQ.out]; simp [valG])
      simp only [gI]
      have t0 := fun W => ta_product_input (.int .i64 m1) (.int .i64 m2) W
      have t1 := fun W => ta_product_const (.int .i64 m1) (.int .i64 m2) W
      have t2 := fun W => ta_product_linear (.int .i64 m1) (.int .i64 m2) W
      have t3 := fun W => ta_product_product (.int .i64 m1) (.int .i64 m2) W
      have HB0 : Hid (Below w.heap.size w (w.alloc (.cells #[.int .i64 m1, .int .i64 m2] 126))) := Lib.hid ((Below.refl _ _).alloc (Nat.le_refl _) _)
      have HX : Hid (Bx (w.alloc (.cells #[.int .i64 m1, .int .i64 m2] 126)) w.heap.size #[.int .i64 m1, .int .i64 m2] 126) := Lib.hid (Bx.new _ _ _)
      have hp2 := (HB0.out.cell (p := a.add m1) (by rw [add_block]; exact hab)).trans hp
      have hq2 := (HB0.out.cell (p := a.add m2) (by rw [add_block]; exact hab)).trans hq
      go_enter Try.func84, Try.ntmps84
      go_wp2
      obtain ⟨wo, hwo⟩ : ∃ wo, Hid (w.alloc (.cells #[.int .i64 m1, .int .i64 m2] 126) = wo) := ⟨_, Lib.hid rfl⟩
      rw [hwo.out] at hp2 hq2 HB0 HX ⊢
      clear hwo hp hq
      have g0 : wo.cell? ⟨w.heap.size, 0, none⟩ = some (.int .i64 m1) := HX.out.cell 0
      have g1 : wo.cell? ⟨w.heap.size, 1, none⟩ = some (.int .i64 m2) := HX.out.cell 1
      go_quiet ((first
        | (go_at_call 102; exact quiet_drewN (i_times p q _ p0 p1 q0 q1))))
      go_wp2
      go_ret
      exact ⟨ret_i HE.out, below_drewN HB0.out _⟩
end Go.Proofs.Ytbmjepmlalfpgaa

/- Chapter 8 in the program: at the outputs; the greatest of a list; the closure over inputs. -/
namespace Go.Proofs.Ytbmjepmlalfpgaa
open Go.RowKit
set_option maxRecDepth 100000

theorem out_step (os v : List Int) {k n : Nat} (hk : k < n) : (outK os v k ++ List.replicate (n - k) 0).set k (v.getD (os.getD k 0).toNat 0) = outK os v (k + 1) ++ List.replicate (n - (k + 1)) 0 := by
  have hl := outK_length os v k
  rw [List.set_append_right _ _ (by omega), hl, Nat.sub_self, show n - k = (n - (k + 1)) + 1 by omega, List.replicate_succ, List.set_cons_zero, outK, List.append_assoc, List.singleton_append]

set_option maxHeartbeats 4000000 in
theorem i_atOuts (A1 : Option Addr) (n1 c1 : Nat) (A2 : Option Addr) (n2 c2 : Nat) (A3 : Option Addr) (n3 c3 : Nat) (z : Int) (d2 vs : List Int) (w : World) (h2 : Rd w w.heap.size 1 A2 n2 (cI d2)) (h3 : Rd w w.heap.size 1 A3 n3 (cI vs)) (hn2 : n2 ≤ 16) (ho : outsK d2 n3 n2 = true) :
    Calls Try.prog 59 #[.agg #[.int .i64 z, .slice A1 n1 c1, .slice A2 n2 c2], .slice A3 n3 c3] w fun e w' => ∃ A c, e = .returned (.slice A n2 c) ∧ OwIntS w' w.heap.size w'.heap.size (.slice A n2 c) (outK d2 vs n2) ∧ Below w.heap.size w w' := by
  have H2 := Lib.hid h2
  have H3 := Lib.hid h3
  have HOK := Lib.hid ho
  clear h2 h3 ho
  have hmk := fun W => run_make1 (P := Try.prog) Try.underlying24 info_int rfl n2 (by omega) (by omega) W
  have HX0 : Hid (Bx ((w.alloc (.cells #[.int .i64 z, .slice A1 n1 c1, .slice A2 n2 c2] 26)).alloc (.cells (Array.replicate n2 (.int .i64 0)) 3)) w.heap.size #[.int .i64 z, .slice A1 n1 c1, .slice A2 n2 c2] 26) := Lib.hid ((Bx.new _ _ _).alloc _)
  have HO0 : Hid (Ow ((w.alloc (.cells #[.int .i64 z, .slice A1 n1 c1, .slice A2 n2 c2] 26)).alloc (.cells (Array.replicate n2 (.int .i64 0)) 3)) (w.heap.size + 1) (w.heap.size + 1 + 1) 3 1 (some ⟨w.heap.size + 1, 0, none⟩) n2 n2 (cI (outK d2 vs 0 ++ List.replicate (n2 - 0) 0))) := Lib.hid (by
    have := Ow.zeros (w.alloc (.cells #[.int .i64 z, .slice A1 n1 c1, .slice A2 n2 c2] 26)) (.int .i64 0) 3 n2
    rw [World.size_alloc, cI_zeros] at this; exact this)
  have HB0 : Hid (Below w.heap.size w ((w.alloc (.cells #[.int .i64 z, .slice A1 n1 c1, .slice A2 n2 c2] 26)).alloc (.cells (Array.replicate n2 (.int .i64 0)) 3))) := Lib.hid (((Below.refl _ _).alloc (Nat.le_refl _) _).alloc (by simp) _)
  have HS0 : Hid (w.heap.size + 1 < ((w.alloc (.cells #[.int .i64 z, .slice A1 n1 c1, .slice A2 n2 c2] 26)).alloc (.cells (Array.replicate n2 (.int .i64 0)) 3)).heap.size) := Lib.hid (by simp)
  have b20 : ((w.alloc (.cells #[.int .i64 z, .slice A1 n1 c1, .slice A2 n2 c2] 26)).alloc (.cells (Array.replicate n2 (.int .i64 0)) 3)).cell? ⟨w.heap.size, 2, none⟩ = some (.slice A2 n2 c2) := HX0.out.cell 2
  go_enter Try.func59, Try.ntmps59
  go_wp2
  go_loopw [15] (fun i wr => ∃ k : Nat, k ≤ n2 ∧ i = .int .i64 k ∧ Hid (Ow wr (w.heap.size + 1) (w.heap.size + 1 + 1) 3 1 (some ⟨w.heap.size + 1, 0, none⟩) n2 n2 (cI (outK d2 vs k ++ List.replicate (n2 - k) 0))) ∧ Hid (Below w.heap.size w wr) ∧ Hid (w.heap.size + 1 < wr.heap.size)) (fun i _ => n2 - (intOf i).toNat)
  case atStart => exact ⟨0, Nat.zero_le _, rfl, HO0, HB0, HS0⟩
  case round =>
    clear HX0 HO0 HB0 HS0 b20
    obtain ⟨k, hk, rfl, HO, HB, HS⟩ := hrel
    by_cases hlt : k < n2
    · obtain ⟨a, x, hA, hab, hx0, HP⟩ := H2.out.intAt hlt
      have hx := (HB.out.cell (p := a.add k) (by rw [add_block]; exact hab)).trans hx0
      obtain ⟨x0, x1⟩ := outsK_at HOK.out hlt
      rw [← HP.out] at x0 x1
      obtain ⟨m, rfl⟩ : ∃ m : Nat, x = m := ⟨x.toNat, by omega⟩
      obtain ⟨a3, v, hA3, hab3, hv3, HV⟩ := H3.out.intAt (k := m) (by omega)
      have hv := (HB.out.cell (p := a3.add m) (by rw [add_block]; exact hab3)).trans hv3
      have i0 : (0 : Int) ≤ (k : Int) := by omega
      have i1 : (k : Int) < (n2 : Int) := by omega
      have i2 : (m : Int) < (n3 : Int) := by omega
      have HE : Hid (v = vs.getD (d2.getD k 0).toNat 0) := Lib.hid (by rw [← HP.out, HV.out]; rfl)
      obtain ⟨v0, hv0⟩ : ∃ v, wr.cell? ⟨w.heap.size + 1, k, none⟩ = some v := ⟨_, HO.out.cellAt (List.getElem?_eq_getElem (by have := HO.out.1; omega))⟩
      have hf := HO.out.free (by omega) k
      have HO2 := Lib.hid (HO.out.set k (.int .i64 v))
      have HET : Hid ((outK d2 vs k ++ List.replicate (n2 - k) 0).set k v = outK d2 vs (k + 1) ++ List.replicate (n2 - (k + 1)) 0) := Lib.hid (by rw [HE.out, out_step d2 vs hlt])
      rw [cI_set, HET.out] at HO2
      have HB2 := Lib.hid (HB.out.setCell (p := ⟨w.heap.size + 1, k, none⟩) (by simp) (.int .i64 v))
      have HS2 : Hid (w.heap.size + 1 < (wr.setCell ⟨w.heap.size + 1, k, none⟩ (.int .i64 v)).heap.size) := Lib.hid (by rw [World.size_setCell]; exact HS.out)
      subst hA; subst hA3
      clear hx0 hv3 HO HB HS HE HET
      go_wp2
      go_roundw
      case rel => exact ⟨k + 1, by omega, by go_num, HO2, HB2, HS2⟩
      case measure => simp [intOf] <;> omega
    · have hkn : k = n2 := by omega
      have HOF : Hid (OwIntS wr w.heap.size wr.heap.size (.slice (some ⟨w.heap.size + 1, 0, none⟩) n2 n2) (outK d2 vs n2)) := Lib.hid (by
        have := HO.out
        rw [hkn, Nat.sub_self, List.replicate_zero, List.append_nil] at this
        exact ⟨by rw [outK_length]; omega, _, _, _, rfl, this.widen (by omega) HS.out⟩)
      clear HO hkn
      go_wp2
      go_ret
      exact ⟨_, _, rfl, HOF.out, HB.out⟩

set_option maxHeartbeats 2000000 in
theorem i_Max (A : Option Addr) (n c : Nat) (vs : List Int) (w : World) (h : Rd w w.heap.size 1 A n (cI vs)) (hn : n ≤ 1048576) (h1 : 1 ≤ n) :
    Calls Try.prog 58 #[.slice A n c] w fun e w' => e = .returned (.int .i64 (topK vs n)) ∧ w = w' := by
  have H := Lib.hid h
  clear h
  obtain ⟨a, x, hA, hab, hx, HP⟩ := H.out.intAt (k := 0) (by omega)
  subst hA
  have ha : a.add 0 = a := by unfold Addr.add; simp
  rw [ha] at hx
  have HT : Hid (x = topK vs 1) := Lib.hid (by rw [HP.out]; simp only [topK]; omega)
  have i0 : ¬ ((n : Int) < 1) := by omega
  have i1 : (0 : Int) < (n : Int) := by omega
  have i2 : 0 < n := by omega
  clear ha
  go_enter Try.func58, Try.ntmps58
  go_wp2
  go_loop [3, 4] (fun o i => ∃ (k : Nat) (M : Int), 1 ≤ k ∧ k ≤ n ∧ i = .int .i64 k ∧ o = .int .i64 M ∧ Hid (M = topK vs k)) (fun _ i => n - (intOf i).toNat)
  case atStart => exact ⟨1, x, Nat.le_refl _, h1, rfl, rfl, HT⟩
  case round =>
    clear HT
    obtain ⟨k, M, hk1, hk, rfl, rfl, HM⟩ := hrel
    by_cases hlt : k < n
    · obtain ⟨a', v, hA, hab', hv, HV⟩ := H.out.intAt hlt
      injection hA with hA; subst hA
      have j0 : (0 : Int) ≤ (k : Int) := by omega
      have j1 : (k : Int) < (n : Int) := by omega
      have HE : Hid ((if M < v then v else M) = topK vs (k + 1)) := Lib.hid (by rw [if_max, HM.out, HV.out]; rfl)
      clear HM
      go_wp2
      go_round
      case rel => exact ⟨k + 1, _, by omega, by omega, by go_num, rfl, HE⟩
      case measure => simp [intOf] <;> omega
    · have hkn : k = n := by omega
      have HF : Hid (M = topK vs n) := Lib.hid (by rw [← hkn]; exact HM.out)
      clear HM hkn
      go_wp2
      go_ret
      exact ⟨ret_i HF.out, rfl⟩

set_option maxHeartbeats 1000000 in
theorem i_values1 (g : Int × Int × Int) (m t : Int) (A3 : Option Addr) (n3 c3 : Nat) (ins : List Int) (A : Option Addr) (n c b : Nat) (vs : List Int) (w : World) (h : Rd w w.heap.size 1 A n (cI vs)) (h3 : Rd w w.heap.size 1 A3 n3 (cI ins)) (hm : m = n3) (hg : gateB g t m = true) (ht : t = n) (hn : n ≤ 16) (hv : ∀ j : Nat, 0 ≤ vs.getD j 0 ∧ vs.getD j 0 ≤ 112) (hb : w.cell? ⟨b, 0, none⟩ = some (.slice A3 n3 c3)) :
    Calls Try.prog 83 #[gI g, .slice A n c, .pointer (some ⟨b, 0, none⟩)] w fun e w' => e = .returned (.int .i64 (valG ins g vs)) ∧ Below w.heap.size w w' := by
  have HC := Lib.hid (i_valueOf g m t A3 n3 c3 ins A n c vs w h h3 hm hg ht hn hv)
  generalize gI g = gv at HC ⊢
  clear h h3 hm hg ht hv
  go_enter Try.func83, Try.ntmps83
  go_wp2_with fail
  refine HC.out.mono ?_
  rintro e w2 ⟨rfl, hbl⟩
  go_wp2
  go_ret
  exact ⟨rfl, hbl⟩
end Go.Proofs.Ytbmjepmlalfpgaa

/- Chapter 8 in the program, as the laws meet it. -/
namespace Go.Proofs.Ytbmjepmlalfpgaa
open Go.RowKit
set_option maxRecDepth 100000

theorem eg_values1 (args : Array Value) (W : World) : (callFunc 83 args).run Try.prog W = .ok (.enter 83 args) W := by kernel_rfl
theorem eg_depthOf (args : Array Value) (W : World) : (callFunc 61 args).run Try.prog W = .ok (.enter 61 args) W := by kernel_rfl
theorem eg_degreeOf (args : Array Value) (W : World) : (callFunc 63 args).run Try.prog W = .ok (.enter 63 args) W := by kernel_rfl
theorem OwGI.rdv {w : World} {lo hi : Nat} {v : Value} {d : List (Int × Int × Int)} (h : OwGI w lo hi v d) : ∃ A n c, v = .slice A n c ∧ n = d.length ∧ Rd w hi 1 A n (d.map gI) := by
  obtain ⟨A, n, c, rfl, r⟩ := h
  exact ⟨A, n, c, rfl, by have := r.1; rw [List.length_map] at this; omega, r.rd⟩
/-- a box of three cells and one of one cell, over a call that only makes -/
theorem upd31 {w0 W w' : World} {b b' e e' : Nat} {x y z u : Value} (hb : Below b w0 W) (hx : Bx W b #[x, y, z] e) (hy : Bx W b' #[u] e') (h : Below W.heap.size W w') :
    Below b w0 w' ∧ Bx w' b #[x, y, z] e ∧ Bx w' b' #[u] e' ∧ w'.cell? ⟨b, 0, none⟩ = some x ∧ w'.cell? ⟨b, 1, none⟩ = some y ∧ w'.cell? ⟨b, 2, none⟩ = some z ∧ w'.cell? ⟨b', 0, none⟩ = some u :=
  have hx2 := hx.below h hx.lt
  have hy2 := hy.below h hy.lt
  ⟨hb.trans (h.mono (Nat.le_of_lt hx.lt)), hx2, hy2, hx2.cell 0, hx2.cell 1, hx2.cell 2, hy2.cell 0⟩

set_option maxHeartbeats 8000000 in
theorem X_i_CircuitValues (v v' : Value) (d : Int × List (Int × Int × Int) × List Int) (ins : List Int) (w : World) (h : RdCircuit w w.heap.size v d) (h' : RdIntS w w.heap.size v' ins) (hs : szCircuit d ≤ 1048576) (hs' : szIntS ins ≤ 1048576) :
    Calls Try.prog 36 #[v, v'] w fun e w' => ∃ g, e = .returned (.tuple #[g, .bool (fitsB d ins)]) ∧ OwIntS w' w.heap.size w'.heap.size g (R_CircuitValues_0 d ins) ∧ Below w.heap.size w w' := by
  obtain ⟨A1, n1, c1, A2, n2, c2, rfl, h1, h2⟩ := h
  obtain ⟨A3, n3, c3, rfl, _, h3⟩ := h'
  have m1 : n1 ≤ 1048576 := by have := szC1 hs; have := h1.n.2; omega
  have m2 : n2 ≤ 1048576 := by have := szC2 hs; have := h2.n.2; omega
  have m3 : n3 ≤ 1048576 := by have := h3.len; unfold szIntS at hs'; omega
  have l1 := Lib.hid h1.n.2
  have l3 := Lib.hid h3.len
  have H1 := Lib.hid h1.n.1
  have H2 := Lib.hid h2.n.1
  have H3 := Lib.hid h3
  clear h1 h2 h3 hs hs'
  obtain ⟨z, d1, d2⟩ := d
  obtain ⟨W0, hW0⟩ : ∃ W, Hid ((w.alloc (.cells #[.int .i64 z, .slice A1 n1 c1, .slice A2 n2 c2] 26)).alloc (.cells #[.slice A3 n3 c3] 24) = W) := ⟨_, Lib.hid rfl⟩
  have HX0 : Hid (Bx W0 w.heap.size #[.int .i64 z, .slice A1 n1 c1, .slice A2 n2 c2] 26) := Lib.hid (by rw [← hW0.out]; exact (Bx.new _ _ _).alloc _)
  have HY0 : Hid (Bx W0 (w.heap.size + 1) #[.slice A3 n3 c3] 24) := Lib.hid (by rw [← hW0.out]; have := Bx.new (w.alloc (.cells #[.int .i64 z, .slice A1 n1 c1, .slice A2 n2 c2] 26)) #[.slice A3 n3 c3] 24; rw [World.size_alloc] at this; exact this)
  have HB0 : Hid (Below w.heap.size w W0) := Lib.hid (by rw [← hW0.out]; exact ((Below.refl _ _).alloc (Nat.le_refl _) _).alloc (by simp) _)
  have no : ∀ {w' : World}, fitsB (z, d1, d2) ins = false → Below w.heap.size w w' → ∃ g, Ending.returned (.tuple #[.slice none 0 0, .bool false]) = .returned (.tuple #[g, .bool (fitsB (z, d1, d2) ins)]) ∧ OwIntS w' w.heap.size w'.heap.size g (R_CircuitValues_0 (z, d1, d2) ins) ∧ Below w.heap.size w w' :=
    fun h hb => ⟨.slice none 0 0, by rw [h], by rw [R_CircuitValues_0, h]; exact OwIntS.nil_ _ _ _, hb⟩
  go_enter Try.func36, Try.ntmps36
  go_wp2_with fail
  rw [hW0.out]
  clear hW0
  refine (i_gatesOf A1 n1 c1 A2 n2 c2 z d1 d2 _ ((H1.out.below HB0.out).more HB0.out.size) ((H2.out.below HB0.out).more HB0.out.size) m1 m2).mono ?_
  rintro e w2 ⟨gv, rfl, hno, hyes, hb⟩
  have HX1 := Lib.hid (HX0.out.below hb HX0.out.lt)
  have HY1 := Lib.hid (HY0.out.below hb HY0.out.lt)
  have HB1 : Hid (Below w.heap.size w w2) := Lib.hid (HB0.out.trans (hb.mono HB0.out.size))
  have hz0 := HY1.out.lt
  clear hb
  cases eb : circB (z, d1, d2)
  · have HF : Hid (fitsB (z, d1, d2) ins = false) := Lib.hid (by simp [fitsB, eb])
    clear hno hyes
    go_wp2
    go_ret2
    exact no HF.out HB1.out
  have HO1 := Lib.hid ((hyes.out eb).rdv)
  have HEB := Lib.hid eb
  clear hno hyes eb
  have b0 : w2.cell? ⟨w.heap.size, 0, none⟩ = some (.int .i64 z) := HX1.out.cell 0
  have b1 : w2.cell? ⟨w.heap.size, 1, none⟩ = some (.slice A1 n1 c1) := HX1.out.cell 1
  have b2 : w2.cell? ⟨w.heap.size, 2, none⟩ = some (.slice A2 n2 c2) := HX1.out.cell 2
  have b3 : w2.cell? ⟨w.heap.size + 1, 0, none⟩ = some (.slice A3 n3 c3) := HY1.out.cell 0
  go_wp2_with fail
  refine (i_insFit A1 n1 c1 A2 n2 c2 A3 n3 c3 z ins _ ((H3.out.below HB1.out).more HB1.out.size) m3).mono ?_
  rintro e w3 ⟨rfl, hb⟩
  have HX2 := Lib.hid (HX1.out.below hb HX1.out.lt)
  have HY2 := Lib.hid (HY1.out.below hb HY1.out.lt)
  have HB2 : Hid (Below w.heap.size w w3) := Lib.hid (HB1.out.trans (hb.mono HB1.out.size))
  obtain ⟨Ag, ng, cg, rfl, hlg, hrg⟩ := HO1.out
  have HRG := Lib.hid ((hrg.below hb).more hb.size)
  have HLG := Lib.hid hlg
  have hz1 := HY2.out.lt
  clear hb b0 b1 b2 b3 HX1 HY1 HX0 HY0 HO1 hlg hrg
  cases ei : (decide ((ins.length : Int) = z) && numsB ins)
  · have HF : Hid (fitsB (z, d1, d2) ins = false) := Lib.hid (by simp only [fitsB, ei, Bool.and_false])
    go_wp2
    go_ret2
    exact no HF.out HB2.out
  have HF : Hid (fitsB (z, d1, d2) ins = true) := Lib.hid (by simp only [fitsB, ei, HEB.out, Bool.and_true])
  obtain ⟨f1, f2, f3⟩ := fits_iff HF.out
  obtain ⟨e0, e1, e2, e3, e4⟩ := circB_iff f1
  simp only at e0 e1 e2 e3 e4 f2
  have q1 : ng ≤ 16 := by have := HLG.out; omega
  have HG : Hid (gatesK d1 z ng = true) := Lib.hid (by rw [HLG.out]; exact e3)
  have HI := Lib.hid f3
  have HZ : Hid (z = n3) := Lib.hid (by have := l3.out; omega)
  have HR : Hid (R_CircuitValues_0 (z, d1, d2) ins = tellK (valG ins) d1 ng) := Lib.hid (by simp [R_CircuitValues_0, HF.out, HLG.out])
  have b3 : w3.cell? ⟨w.heap.size + 1, 0, none⟩ = some (.slice A3 n3 c3) := HY2.out.cell 0
  clear e0 e1 e2 e3 e4 f1 f2 f3 ei
  go_wp2_with fail
  refine (i_gateByGate 83 #[.pointer (some ⟨w.heap.size + 1, 0, none⟩)] (valG ins) Ag ng cg d1 w3 HRG.out q1 eg_values1 ?_).mono ?_
  · intro W k A c hbw hk hr
    exact i_values1 (gt d1 k) z k A3 n3 c3 ins A k c (w.heap.size + 1) (tellK (valG ins) d1 k) W hr ((H3.out.below (HB2.out.trans (hbw.mono HB2.out.size))).more (Nat.le_trans HB2.out.size hbw.size)) HZ.out (gatesK_at HG.out hk) rfl (by omega) (val_bd HG.out HI.out k (by omega)) ((hbw.cell (p := ⟨w.heap.size + 1, 0, none⟩) HY2.out.lt).trans (HY2.out.cell 0))
  rintro e w4 ⟨A, c, rfl, ho, hb⟩
  have HO := Lib.hid (ho.widen (lo' := w.heap.size) HB2.out.size (Nat.le_refl _))
  have HB3 : Hid (Below w.heap.size w w4) := Lib.hid (HB2.out.trans (hb.mono HB2.out.size))
  clear ho hb b3
  go_wp2
  go_ret2
  exact ⟨_, ret_vb HF.out.symm, by rw [HR.out]; exact HO.out, HB3.out⟩

set_option maxHeartbeats 8000000 in
theorem X_i_CircuitRun (v v' : Value) (d : Int × List (Int × Int × Int) × List Int) (ins : List Int) (w : World) (h : RdCircuit w w.heap.size v d) (h' : RdIntS w w.heap.size v' ins) (hs : szCircuit d ≤ 1048576) (hs' : szIntS ins ≤ 1048576) :
    Calls Try.prog 42 #[v, v'] w fun e w' => ∃ g, e = .returned (.tuple #[g, .bool (fitsB d ins)]) ∧ OwIntS w' w.heap.size w'.heap.size g (R_CircuitRun_0 d ins) ∧ Below w.heap.size w w' := by
  obtain ⟨A1, n1, c1, A2, n2, c2, rfl, h1, h2⟩ := h
  have l1 := Lib.hid h1.n.2
  have l2 := Lib.hid h2.n.2
  have H1 := Lib.hid h1
  have H2 := Lib.hid h2
  obtain ⟨A3, n3, c3, rfl, h30, h3⟩ := h'
  have H3 := Lib.hid h3
  clear h1 h2 h3
  obtain ⟨z, d1, d2⟩ := d
  have HX0 : Hid (Bx (w.alloc (.cells #[.int .i64 z, .slice A1 n1 c1, .slice A2 n2 c2] 26)) w.heap.size #[.int .i64 z, .slice A1 n1 c1, .slice A2 n2 c2] 26) := Lib.hid (Bx.new _ _ _)
  have HB0 : Hid (Below w.heap.size w (w.alloc (.cells #[.int .i64 z, .slice A1 n1 c1, .slice A2 n2 c2] 26))) := Lib.hid ((Below.refl _ _).alloc (Nat.le_refl _) _)
  go_enter Try.func42, Try.ntmps42
  go_wp2_with fail
  refine (X_i_CircuitValues _ _ (z, d1, d2) ins _ ⟨A1, n1, c1, A2, n2, c2, rfl, (H1.out.below HB0.out).more HB0.out.size, (H2.out.below HB0.out).more HB0.out.size⟩ ⟨A3, n3, c3, rfl, h30, (H3.out.below HB0.out).more HB0.out.size⟩ hs hs').mono ?_
  rintro e w2 ⟨gv, rfl, ho, hb⟩
  have HX1 := Lib.hid (HX0.out.below hb HX0.out.lt)
  have HB1 : Hid (Below w.heap.size w w2) := Lib.hid (HB0.out.trans (hb.mono HB0.out.size))
  have HO1 := Lib.hid ho
  obtain ⟨A, n, c, rfl, hn, _, _⟩ := HO1.out.open
  have HN := Lib.hid hn
  have b0 : w2.cell? ⟨w.heap.size, 0, none⟩ = some (.int .i64 z) := HX1.out.cell 0
  have b1 : w2.cell? ⟨w.heap.size, 1, none⟩ = some (.slice A1 n1 c1) := HX1.out.cell 1
  have b2 : w2.cell? ⟨w.heap.size, 2, none⟩ = some (.slice A2 n2 c2) := HX1.out.cell 2
  clear hb ho hn HX0 HB0
  cases ef : fitsB (z, d1, d2) ins
  · have HF := Lib.hid ef
    go_wp2
    go_ret2
    exact ⟨_, ret_vb HF.out.symm, by rw [R_CircuitRun_0, HF.out]; exact OwIntS.nil_ _ _ _, HB1.out⟩
  have HF := Lib.hid ef
  obtain ⟨f1, f2, f3⟩ := fits_iff ef
  obtain ⟨e0, e1, e2, e3, e4⟩ := circB_iff f1
  simp only at e0 e1 e2 e3 e4 f2
  have q2 : n2 ≤ 16 := by have := l2.out; omega
  have hnn : n = n1 := by have h1 := HN.out; have h2 := l1.out; simp only [R_CircuitValues_0, ef, if_true, tellK_length] at h1; omega
  subst hnn
  have HVS : Hid (R_CircuitValues_0 (z, d1, d2) ins = tellK (valG ins) d1 n) := Lib.hid (by simp [R_CircuitValues_0, ef, l1.out])
  have HR : Hid (R_CircuitRun_0 (z, d1, d2) ins = outK d2 (tellK (valG ins) d1 n) n2) := Lib.hid (by simp [R_CircuitRun_0, ef, l1.out, l2.out])
  have G4 : Hid (outsK d2 n n2 = true) := Lib.hid (by have e1 := l1.out; have e2 := l2.out; rw [e1, e2]; exact e4)
  have HRD : Hid (Rd w2 w2.heap.size 1 A n (cI (tellK (valG ins) d1 n))) := Lib.hid (by have := HO1.out.rdw; rw [HVS.out] at this; exact this)
  clear e0 e1 e2 e3 e4 f1 f2 f3 ef HN
  go_wp2_with fail
  refine (i_atOuts A1 n c1 A2 n2 c2 A n c z d2 (tellK (valG ins) d1 n) _ ((H2.out.n.1.below HB1.out).more HB1.out.size) HRD.out q2 G4.out).mono ?_
  rintro e w3 ⟨A4, c4, rfl, ho, hb⟩
  have HO := Lib.hid (ho.widen (lo' := w.heap.size) HB1.out.size (Nat.le_refl _))
  have HB2 : Hid (Below w.heap.size w w3) := Lib.hid (HB1.out.trans (hb.mono HB1.out.size))
  clear ho hb b0 b1 b2
  go_wp2
  go_ret2
  exact ⟨_, ret_vb HF.out.symm, by rw [HR.out]; exact HO.out, HB2.out⟩

set_option maxHeartbeats 8000000 in
theorem X_i_CircuitDepth (v : Value) (d : Int × List (Int × Int × Int) × List Int) (w : World) (h : RdCircuit w w.heap.size v d) (hs : szCircuit d ≤ 1048576) :
    Calls Try.prog 16 #[v] w fun e w' => e = .returned (.int .i64 (depV d)) ∧ Below w.heap.size w w' := by
  obtain ⟨A1, n1, c1, A2, n2, c2, rfl, h1, h2⟩ := h
  have m1 : n1 ≤ 1048576 := by have := szC1 hs; have := h1.n.2; omega
  have m2 : n2 ≤ 1048576 := by have := szC2 hs; have := h2.n.2; omega
  have l1 := Lib.hid h1.n.2
  have l2 := Lib.hid h2.n.2
  have H1 := Lib.hid h1.n.1
  have H2 := Lib.hid h2.n.1
  clear h1 h2 hs
  obtain ⟨z, d1, d2⟩ := d
  have HX0 : Hid (Bx (w.alloc (.cells #[.int .i64 z, .slice A1 n1 c1, .slice A2 n2 c2] 26)) w.heap.size #[.int .i64 z, .slice A1 n1 c1, .slice A2 n2 c2] 26) := Lib.hid (Bx.new _ _ _)
  have HB0 : Hid (Below w.heap.size w (w.alloc (.cells #[.int .i64 z, .slice A1 n1 c1, .slice A2 n2 c2] 26))) := Lib.hid ((Below.refl _ _).alloc (Nat.le_refl _) _)
  go_enter Try.func16, Try.ntmps16
  go_wp2_with fail
  refine (i_gatesOf A1 n1 c1 A2 n2 c2 z d1 d2 _ ((H1.out.below HB0.out).more HB0.out.size) ((H2.out.below HB0.out).more HB0.out.size) m1 m2).mono ?_
  rintro e w2 ⟨gv, rfl, hno, hyes, hb⟩
  have HX1 := Lib.hid (HX0.out.below hb HX0.out.lt)
  have HB1 : Hid (Below w.heap.size w w2) := Lib.hid (HB0.out.trans (hb.mono HB0.out.size))
  have hz0 := HX1.out.lt
  clear hb HX0 HB0
  cases eb : circB (z, d1, d2)
  · have HF : Hid (depV (z, d1, d2) = -1) := Lib.hid (by simp [depV, eb])
    clear hno hyes
    go_wp2
    go_ret
    exact ⟨ret_i HF.out.symm, HB1.out⟩
  obtain ⟨Ag, ng, cg, rfl, hlg, hrg⟩ := (hyes.out eb).rdv
  have HLG := Lib.hid hlg
  have HRG := Lib.hid hrg
  clear hno hyes hrg
  obtain ⟨e0, e1, e2, e3, e4⟩ := circB_iff eb
  simp only at e0 e1 e2 e3 e4
  obtain rfl : ng = n1 := by have := l1.out; omega
  have q1 : ng ≤ 16 := by omega
  have q2 : n2 ≤ 16 := by have := l2.out; omega
  have q3 : 1 ≤ n2 := by have := l2.out; omega
  have HG : Hid (gatesK d1 z ng = true) := Lib.hid (by rw [HLG.out]; exact e3)
  have G4 : Hid (outsK d2 ng n2 = true) := Lib.hid (by have e1 := l1.out; have e2 := l2.out; rw [e1, e2]; exact e4)
  have HR : Hid (depV (z, d1, d2) = topK (outK d2 (tellK depG d1 ng) n2) n2) := Lib.hid (by
    have hm := top_most (os := d2) (v := tellK depG d1 ng) (fun j => (dep_bd HG.out ng (Nat.le_refl _) j).1) (n := n2) n2 (Nat.le_refl _) q3
    rw [hm]
    simp only [depV, eb, if_true]
    rw [← HLG.out, ← l2.out])
  have HTB : Hid (0 ≤ topK (outK d2 (tellK depG d1 ng) n2) n2 ∧ topK (outK d2 (tellK depG d1 ng) n2) n2 ≤ 16) := Lib.hid (by
    rw [top_most (os := d2) (v := tellK depG d1 ng) (fun j => (dep_bd HG.out ng (Nat.le_refl _) j).1) (n := n2) n2 (Nat.le_refl _) q3]
    exact most_bd (by omega) (fun j => by have := dep_bd HG.out ng (Nat.le_refl _) j; omega) n2)
  clear hlg e0 e1 e2 e3 e4 eb
  have hx := HX1.out
  have hb := HB1.out
  have hr := HRG.out
  have hc0 : w2.cell? ⟨w.heap.size, 0, none⟩ = some (.int .i64 z) := HX1.out.cell 0
  have hc1 : w2.cell? ⟨w.heap.size, 1, none⟩ = some (.slice A1 ng c1) := HX1.out.cell 1
  have hc2 : w2.cell? ⟨w.heap.size, 2, none⟩ = some (.slice A2 n2 c2) := HX1.out.cell 2
  clear HX1 HB1 HRG
  go_wp2
  have hs0 := And.intro hb (And.intro hx (And.intro hc0 (And.intro hc1 hc2)))
  go_region_held3 (fun w' => Below w.heap.size w w' ∧ Bx w' w.heap.size #[.int .i64 z, .slice A1 ng c1, .slice A2 n2 c2] 26 ∧ w'.cell? ⟨w.heap.size, 0, none⟩ = some (.int .i64 z) ∧ w'.cell? ⟨w.heap.size, 1, none⟩ = some (.slice A1 ng c1) ∧ w'.cell? ⟨w.heap.size, 2, none⟩ = some (.slice A2 n2 c2))
    (first | exact ⟨hb, hx, hc0, hc1, hc2⟩ | exact ⟨hb.drew, hx, hc0, hc1, hc2⟩)
    (first
      | (go_at_call 60
         refine (i_gateByGate 61 #[] depG Ag ng cg d1 _ (by first | exact hr | exact hr.drew) q1 eg_depthOf (fun W k A c _ hk hr => i_depthOf (gt d1 k) z k A k c (tellK depG d1 k) W hr (gatesK_at HG.out hk) rfl (by omega) (fun j => by have := dep_bd HG.out k (by omega) j; omega))).mono ?_
         rintro e w3 ⟨A, c, rfl, ho, hb3⟩
         have hn := upd3 (by first | exact hb | exact hb.drew) (by exact hx) hb3
         clear hb hx hc0 hc1 hc2 hb3 hr
         obtain ⟨hb, hx, hc0, hc1, hc2⟩ := hn)
      | (go_at_call 59
         refine (i_atOuts A1 ng c1 A2 n2 c2 A ng c z d2 (tellK depG d1 ng) _ ((H2.out.below (by first | exact hb | exact hb.drew)).more (by exact hb.size)) (by exact ho.rdw) q2 G4.out).mono ?_
         rintro e w4 ⟨A4, c4, rfl, ho4, hb4⟩
         have hn := upd3 (by first | exact hb | exact hb.drew) (by exact hx) hb4
         clear hb hx hc0 hc1 hc2 hb4 ho
         obtain ⟨hb, hx, hc0, hc1, hc2⟩ := hn)
      | (go_at_call 58
         refine (i_Max A4 n2 c4 (outK d2 (tellK depG d1 ng) n2) _ (by exact ho4.rdw) (by omega) q3).mono ?_
         rintro e w5 ⟨rfl, rfl⟩))
  all_goals (
    have HBB := Lib.hid hb
    clear hb hx hc0 hc1 hc2 hs0 ho4
    go_wp2
    go_ret
    exact ⟨ret_i HR.out.symm, HBB.out⟩)

set_option maxHeartbeats 8000000 in
theorem X_i_CircuitDegree (v : Value) (d : Int × List (Int × Int × Int) × List Int) (w : World) (h : RdCircuit w w.heap.size v d) (hs : szCircuit d ≤ 1048576) :
    Calls Try.prog 18 #[v] w fun e w' => e = .returned (.int .i64 (degV d)) ∧ Below w.heap.size w w' := by
  obtain ⟨A1, n1, c1, A2, n2, c2, rfl, h1, h2⟩ := h
  have m1 : n1 ≤ 1048576 := by have := szC1 hs; have := h1.n.2; omega
  have m2 : n2 ≤ 1048576 := by have := szC2 hs; have := h2.n.2; omega
  have l1 := Lib.hid h1.n.2
  have l2 := Lib.hid h2.n.2
  have H1 := Lib.hid h1.n.1
  have H2 := Lib.hid h2.n.1
  clear h1 h2 hs
  obtain ⟨z, d1, d2⟩ := d
  have HX0 : Hid (Bx (w.alloc (.cells #[.int .i64 z, .slice A1 n1 c1, .slice A2 n2 c2] 26)) w.heap.size #[.int .i64 z, .slice A1 n1 c1, .slice A2 n2 c2] 26) := Lib.hid (Bx.new _ _ _)
  have HB0 : Hid (Below w.heap.size w (w.alloc (.cells #[.int .i64 z, .slice A1 n1 c1, .slice A2 n2 c2] 26))) := Lib.hid ((Below.refl _ _).alloc (Nat.le_refl _) _)
  go_enter Try.func18, Try.ntmps18
  go_wp2_with fail
  refine (i_gatesOf A1 n1 c1 A2 n2 c2 z d1 d2 _ ((H1.out.below HB0.out).more HB0.out.size) ((H2.out.below HB0.out).more HB0.out.size) m1 m2).mono ?_
  rintro e w2 ⟨gv, rfl, hno, hyes, hb⟩
  have HX1 := Lib.hid (HX0.out.below hb HX0.out.lt)
  have HB1 : Hid (Below w.heap.size w w2) := Lib.hid (HB0.out.trans (hb.mono HB0.out.size))
  have hz0 := HX1.out.lt
  clear hb HX0 HB0
  cases eb : circB (z, d1, d2)
  · have HF : Hid (degV (z, d1, d2) = -1) := Lib.hid (by simp [degV, eb])
    clear hno hyes
    go_wp2
    go_ret
    exact ⟨ret_i HF.out.symm, HB1.out⟩
  obtain ⟨Ag, ng, cg, rfl, hlg, hrg⟩ := (hyes.out eb).rdv
  have HLG := Lib.hid hlg
  have HRG := Lib.hid hrg
  clear hno hyes hrg
  obtain ⟨e0, e1, e2, e3, e4⟩ := circB_iff eb
  simp only at e0 e1 e2 e3 e4
  obtain rfl : ng = n1 := by have := l1.out; omega
  have q1 : ng ≤ 16 := by omega
  have q2 : n2 ≤ 16 := by have := l2.out; omega
  have q3 : 1 ≤ n2 := by have := l2.out; omega
  have HG : Hid (gatesK d1 z ng = true) := Lib.hid (by rw [HLG.out]; exact e3)
  have G4 : Hid (outsK d2 ng n2 = true) := Lib.hid (by have e1 := l1.out; have e2 := l2.out; rw [e1, e2]; exact e4)
  have HR : Hid (degV (z, d1, d2) = min 1000 (topK (outK d2 (tellK degG d1 ng) n2) n2)) := Lib.hid (by
    have hm := top_most (os := d2) (v := tellK degG d1 ng) (fun j => (deg_bd16 HG.out q1 ng (Nat.le_refl _) j).1) (n := n2) n2 (Nat.le_refl _) q3
    rw [hm]
    simp only [degV, eb, if_true]
    rw [← HLG.out, ← l2.out]
    exact most_cut (fun j => dcut_is HG.out ng (Nat.le_refl _) j) n2)
  have HTB : Hid (0 ≤ topK (outK d2 (tellK degG d1 ng) n2) n2 ∧ topK (outK d2 (tellK degG d1 ng) n2) n2 ≤ 65536) := Lib.hid (by
    rw [top_most (os := d2) (v := tellK degG d1 ng) (fun j => (deg_bd16 HG.out q1 ng (Nat.le_refl _) j).1) (n := n2) n2 (Nat.le_refl _) q3]
    exact most_bd (by omega) (fun j => by have := deg_bd16 HG.out q1 ng (Nat.le_refl _) j; omega) n2)
  clear hlg e0 e1 e2 e3 e4 eb
  have hx := HX1.out
  have hb := HB1.out
  have hr := HRG.out
  have hc0 : w2.cell? ⟨w.heap.size, 0, none⟩ = some (.int .i64 z) := HX1.out.cell 0
  have hc1 : w2.cell? ⟨w.heap.size, 1, none⟩ = some (.slice A1 ng c1) := HX1.out.cell 1
  have hc2 : w2.cell? ⟨w.heap.size, 2, none⟩ = some (.slice A2 n2 c2) := HX1.out.cell 2
  clear HX1 HB1 HRG
  go_wp2
  have hs0 := And.intro hb (And.intro hx (And.intro hc0 (And.intro hc1 hc2)))
  go_region_held3 (fun w' => Below w.heap.size w w' ∧ Bx w' w.heap.size #[.int .i64 z, .slice A1 ng c1, .slice A2 n2 c2] 26 ∧ w'.cell? ⟨w.heap.size, 0, none⟩ = some (.int .i64 z) ∧ w'.cell? ⟨w.heap.size, 1, none⟩ = some (.slice A1 ng c1) ∧ w'.cell? ⟨w.heap.size, 2, none⟩ = some (.slice A2 n2 c2))
    (first | exact ⟨hb, hx, hc0, hc1, hc2⟩ | exact ⟨hb.drew, hx, hc0, hc1, hc2⟩)
    (first
      | (go_at_call 60
         refine (i_gateByGate 63 #[] degG Ag ng cg d1 _ (by first | exact hr | exact hr.drew) q1 eg_degreeOf (fun W k A c _ hk hr => i_degreeOf (gt d1 k) z k A k c (tellK degG d1 k) W hr (gatesK_at HG.out hk) rfl (by omega) (fun j => by have := deg_bd16 HG.out q1 k (by omega) j; omega))).mono ?_
         rintro e w3 ⟨A, c, rfl, ho, hb3⟩
         have hn := upd3 (by first | exact hb | exact hb.drew) (by exact hx) hb3
         clear hb hx hc0 hc1 hc2 hb3 hr
         obtain ⟨hb, hx, hc0, hc1, hc2⟩ := hn)
      | (go_at_call 59
         refine (i_atOuts A1 ng c1 A2 n2 c2 A ng c z d2 (tellK degG d1 ng) _ ((H2.out.below (by first | exact hb | exact hb.drew)).more (by exact hb.size)) (by exact ho.rdw) q2 G4.out).mono ?_
         rintro e w4 ⟨A4, c4, rfl, ho4, hb4⟩
         have hn := upd3 (by first | exact hb | exact hb.drew) (by exact hx) hb4
         clear hb hx hc0 hc1 hc2 hb4 ho
         obtain ⟨hb, hx, hc0, hc1, hc2⟩ := hn)
      | (go_at_call 58
         refine (i_Max A4 n2 c4 (outK d2 (tellK degG d1 ng) n2) _ (by exact ho4.rdw) (by omega) q3).mono ?_
         rintro e w5 ⟨rfl, rfl⟩))
  all_goals (
    have HBB := Lib.hid hb
    clear hb hx hc0 hc1 hc2 hs0 ho4
    go_wp2
    all_goals (
      go_ret
      exact ⟨ret_i (by have := HR.out; omega), HBB.out⟩))
end Go.Proofs.Ytbmjepmlalfpgaa

/- P45: the law's walk. -/
namespace Go.Proofs.Ytbmjepmlalfpgaa
open Go.RowKit
set_option maxRecDepth 100000

theorem circ_gates {w : World} {hi n1 c1 n2 c2 : Nat} {A1 A2 : Option Addr} {z : Int} {gs : List (Int × Int × Int)} {os : List Int} (h : RdCircuit w hi (.agg #[.int .i64 z, .slice A1 n1 c1, .slice A2 n2 c2]) (z, gs, os)) : Rd w hi 3 A1 n1 (cGate gs) := by
  obtain ⟨B1, m1, e1, B2, m2, e2, he, ⟨D1, k1, f1, hv, _, hr⟩, _⟩ := h
  injection he with he
  simp at he
  obtain ⟨⟨r1, r2, r3⟩, r4, r5, r6⟩ := he
  subst r1
  subst r2
  injection hv with q1 q2 q3
  subst q1
  subst q2
  exact hr
set_option maxHeartbeats 2000000 in
theorem P45_walk (A : Option Addr) (n c : Nat) (bs : List Int) (w : World) (h : Rd w w.heap.size 1 A n (cU bs)) (hb : Byt bs) (hc : n ≤ c) (hm : n ≤ 9223372036854775807) :
    Calls Try.prog 3 #[.slice A n c] w fun e w' => e = .returned (.bool true) ∧ Below w.heap.size w w' := by
  by_cases hn : n ≤ 1048576
  · have h3 : ¬ ((1048576 : Int) < (n : Int)) := by omega
    have H := Lib.hid h
    clear h
    go_enter Try.func3, Try.ntmps3
    go_wp2_with fail
    refine (d_DrawCircuitDepth _ _ _ _ _ H.out hb hn hc).mono ?_
    rintro e w1 ⟨z, A1, n1, c1, gs, A2, n2, c2, os, rfl, hg, ho, hn1, hn2, hb1⟩
    obtain ⟨W, hW⟩ : ∃ W, Hid (w1.alloc (.cells #[.int .i64 z, .slice A1 n1 c1, .slice A2 n2 c2] 26) = W) := ⟨_, Lib.hid rfl⟩
    obtain ⟨B, hB⟩ : ∃ B, Hid (w1.heap.size = B) := ⟨_, Lib.hid rfl⟩
    have hlg : gs.length = n1 := hg.Gatelen
    have hlo : os.length = n2 := ho.len
    have HBXW : Hid (Bx W B #[.int .i64 z, .slice A1 n1 c1, .slice A2 n2 c2] 26) := Lib.hid (by rw [← hW.out, ← hB.out]; exact Bx.new _ _ _)
    have BW : Hid (Below w1.heap.size w1 W) := Lib.hid (by rw [← hW.out]; exact (Below.refl _ _).alloc (Nat.le_refl _) _)
    have HRW : Hid (RdCircuit W W.heap.size (.agg #[.int .i64 z, .slice A1 n1 c1, .slice A2 n2 c2]) (z, gs, os)) := Lib.hid ⟨A1, n1, c1, A2, n2, c2, rfl, ⟨A1, n1, c1, rfl, by omega, (hg.below BW.out).more BW.out.size⟩, ⟨A2, n2, c2, rfl, by omega, (ho.below BW.out).more BW.out.size⟩⟩
    have HS : Hid (szCircuit (z, gs, os) ≤ 1048576) := Lib.hid (by unfold szCircuit szGateS szIntS; simp only; omega)
    have BW1 : Hid (Below w.heap.size w W) := Lib.hid (hb1.trans (BW.out.mono hb1.size))
    obtain ⟨d, hd⟩ : ∃ d, Hid ((z, gs, os) = d) := ⟨_, Lib.hid rfl⟩
    rw [hd.out] at HRW HS
    have HLG : Hid (gs.length = n1) := Lib.hid hlg
    have HRG : Hid (Rd W W.heap.size 3 A1 n1 (cGate gs)) := Lib.hid ((hg.below BW.out).more BW.out.size)
    clear hg ho hb1 hlg hlo BW
    have BW := BW1
    have c0 : W.cell? ⟨B, 0, none⟩ = some (.int .i64 z) := HBXW.out.cell 0
    have c1' : W.cell? ⟨B, 1, none⟩ = some (.slice A1 n1 c1) := HBXW.out.cell 1
    have c2' : W.cell? ⟨B, 2, none⟩ = some (.slice A2 n2 c2) := HBXW.out.cell 2
    go_wp2_with fail
    rw [hW.out, hB.out]
    refine (X_i_CircuitDepth _ d W HRW.out HS.out).mono ?_
    rintro e w2 ⟨rfl, hb2⟩
    have HBXw2 : Hid (Bx w2 B #[.int .i64 z, .slice A1 n1 c1, .slice A2 n2 c2] 26) := Lib.hid (HBXW.out.below hb2 HBXW.out.lt)
    have HRw2 : Hid (RdCircuit w2 w2.heap.size (.agg #[.int .i64 z, .slice A1 n1 c1, .slice A2 n2 c2]) d) := Lib.hid ((HRW.out.below hb2).more hb2.size)
    have Bw2 := Lib.hid (BW.out.trans (hb2.mono BW.out.size))
    clear hb2 HBXW HRW BW
    have c0w2 : w2.cell? ⟨B, 0, none⟩ = some (.int .i64 z) := HBXw2.out.cell 0
    have c1w2 : w2.cell? ⟨B, 1, none⟩ = some (.slice A1 n1 c1) := HBXw2.out.cell 1
    have c2w2 : w2.cell? ⟨B, 2, none⟩ = some (.slice A2 n2 c2) := HBXw2.out.cell 2
    clear c0 c1' c2'
    go_wp2_with fail
    refine (X_s_CircuitDepth _ d w2 HRw2.out HS.out).mono ?_
    rintro e w3 ⟨rfl, hb3⟩
    have HBXw3 : Hid (Bx w3 B #[.int .i64 z, .slice A1 n1 c1, .slice A2 n2 c2] 26) := Lib.hid (HBXw2.out.below hb3 HBXw2.out.lt)
    have HRw3 : Hid (RdCircuit w3 w3.heap.size (.agg #[.int .i64 z, .slice A1 n1 c1, .slice A2 n2 c2]) d) := Lib.hid ((HRw2.out.below hb3).more hb3.size)
    have Bw3 := Lib.hid (Bw2.out.trans (hb3.mono Bw2.out.size))
    clear hb3 HBXw2 HRw2 Bw2
    have c0w3 : w3.cell? ⟨B, 0, none⟩ = some (.int .i64 z) := HBXw3.out.cell 0
    have c1w3 : w3.cell? ⟨B, 1, none⟩ = some (.slice A1 n1 c1) := HBXw3.out.cell 1
    have c2w3 : w3.cell? ⟨B, 2, none⟩ = some (.slice A2 n2 c2) := HBXw3.out.cell 2
    clear c0w2 c1w2 c2w2
    obtain ⟨N, hN⟩ : ∃ N, Hid (depV d = N) := ⟨_, Lib.hid rfl⟩
    have HL : Hid (0 ≤ N → N ≤ mulsK gs n1 ∧ N ≤ 10 ∧ degV d ≤ pw N) := Lib.hid (by rw [← hN.out]; intro h0; have := dep_law h0 (by rw [← hd.out]; have := HLG.out; simp only; omega); rw [← hd.out] at this; rw [← hd.out, ← HLG.out]; exact this)
    rw [hN.out]
    by_cases hx : 0 ≤ N
    · obtain ⟨l1, l2, l3⟩ := HL.out hx
      have L1 := Lib.hid l1
      have L3 := Lib.hid l3
      clear l1 l3
      go_wp2
      have HRG3 : Hid (Rd w3 w3.heap.size 3 A1 n1 (cGate gs)) := Lib.hid (circ_gates (by rw [hd.out]; exact HRw3.out))
      go_loopw [7, 8] (fun m i wr => ∃ k : Nat, k ≤ n1 ∧ i = .int .i64 k ∧ m = .int .i64 (mulsK gs k) ∧ wr = w3) (fun _ i _ => n1 - (intOf i).toNat)
      case atStart => exact ⟨0, Nat.zero_le _, rfl, rfl, rfl⟩
      case round =>
        obtain ⟨k, hk, rfl, rfl, rfl⟩ := hrel
        by_cases hlt : k < n1
        · obtain ⟨a, x, y, t, rfl, hab, hcx, hcy, hcz, HP⟩ := HRG3.out.GateAt hlt
          have i0 : (0 : Int) ≤ (k : Int) := by omega
          have i1 : (k : Int) < (n1 : Int) := by omega
          have hMS : mulsK gs (k + 1) = mulsK gs k + (if x = 4 then 1 else 0) := by rw [mulsK]; have := HP.out; unfold gt; rw [this]
          have hML := muls_le gs k
          obtain ⟨M, hM⟩ : ∃ M, mulsK gs k = M := ⟨_, rfl⟩
          rw [hM] at hMS hML ⊢
          by_cases hx4 : x = 4
          · have b4 : (x == 4) = true := by simp [hx4]
            rw [if_pos hx4] at hMS
            have HMS := Lib.hid hMS
            clear hMS hM hx4
            go_wp2
            go_roundw
            case rel => exact ⟨k + 1, by omega, by go_num, by rw [HMS.out]; go_num, trivial⟩
            case measure => simp [intOf] <;> omega
          · have b4 : (x == 4) = false := by rw [beq_eq_false_iff_ne]; exact hx4
            rw [if_neg hx4] at hMS
            have HMS := Lib.hid hMS
            clear hMS hM hx4
            go_wp2
            go_roundw
            case rel => exact ⟨k + 1, by omega, by go_num, by rw [HMS.out]; go_num, trivial⟩
            case measure => simp [intOf] <;> omega
        · have i1 : ¬ ((k : Int) < (n1 : Int)) := by omega
          obtain rfl : k = n1 := by omega
          have g1 : decide (N ≤ (mulsK gs k : Int)) = true := decide_eq_true L1.out
          have HRD : Hid (RdCircuit wr.drew wr.drew.heap.size (.agg #[.int .i64 z, .slice A1 k c1, .slice A2 n2 c2]) d) := Lib.hid (HRw3.out.below (below_drew (Below.refl _ _)))
          have HP : Hid (decide (degV d ≤ IntKind.i64.wrap ((2 : Int) ^ N.toNat)) = true) := Lib.hid (by
              have e : (2 : Int) ^ N.toNat = pw N := by unfold pw; simp
              have q1 := pw_pos N
              have q2 : pw N ≤ pw 10 := pw_mono l2
              have q3 : pw 10 = 1024 := rfl
              have ew : IntKind.i64.wrap (pw N) = pw N := IntWalk.i64_in _ (by omega)
              rw [e, ew]; exact decide_eq_true L3.out)
          go_wp2_with fail
          go_region_with (go_at_call 18; refine (X_i_CircuitDegree _ d _ HRD.out HS.out).mono ?_; rintro e w4 ⟨rfl, hb4⟩; have B4 := Lib.hid ((below_drew Bw3.out).trans (hb4.mono Bw3.out.size)); clear hb4)
          rw [HP.out]
          go_wp2
          go_ret
          exact ⟨rfl, B4.out⟩
    · have hq : decide (0 ≤ N) = false := decide_eq_false hx
      go_wp2
      go_ret
      exact ⟨rfl, Bw3.out⟩
  · have h3 : (1048576 : Int) < (n : Int) := by omega
    go_enter Try.func3, Try.ntmps3
    go_wp2
    go_ret
    exact ⟨rfl, Below.refl _ _⟩
end Go.Proofs.Ytbmjepmlalfpgaa

/- An argument of type []byte, opened. -/
namespace Go.Proofs.Ytbmjepmlalfpgaa
open Go.RowKit
set_option maxRecDepth 100000

section
open Go.ChangeShapes Go.WideShapes Go.ChangeAt Go.RowKit
/-- an argument of type []byte: a list of bytes that reads -/
theorem open_byteS {H : Type} {enc : TypeId × Value → H} {P : Program} {w : World} {b0 : Nat} {t e : TypeId} {r : Reach} {v : Value} {d : DataW H} {ps : List MemPlace} (ht : P.underlying t = some (.slice e)) (he : P.underlying e = some (.int .u8)) (hc : P.cellsOf e = 1)
    (hv : Value.okWide P w r b0 t v) (h : DataW.Trod enc P w 0 (fun _ => true) true t v d ps) :
    ∃ A n c zs, v = .slice A n c ∧ n ≤ 9223372036854775807 ∧ n ≤ c ∧ Rd w w.heap.size 1 A n (cU zs) ∧ Byt zs := by
  obtain ⟨A, n, c, rfl⟩ : ∃ A n c, v = .slice A n c := by
    cases v <;> simp [Value.okWide, ht, Cell.okWide, Cell.ok] at hv
    exact ⟨_, _, _, rfl⟩
  obtain ⟨fuel, hf⟩ := h
  rcases open_ints ht he hc hf with ⟨hn, _⟩ | ⟨a, len, cap, zs, hs, _, hlc, hm, hlen, _, hcell, hwz⟩
  · simp [Value.cells] at hn
    obtain ⟨rfl, rfl, rfl⟩ := hn
    exact ⟨_, _, _, [], rfl, by omega, Nat.le_refl _, ⟨by simp [cU], fun h => by omega⟩, fun j => by simp⟩
  · simp [Value.cells] at hs
    obtain ⟨rfl, rfl, rfl⟩ := hs
    simp only [if_true] at hlen
    unfold maxLen at hm
    have hby : Byt zs := fun j => by
      by_cases hj : j < zs.length
      · have hw := hwz zs[j] (List.getElem_mem hj)
        simp only [Lit.wf, IntKind.min, IntKind.max, IntKind.signed, IntKind.bits, Bool.and_eq_true] at hw
        simp [hj]
        simp at hw
        omega
      · simp [List.getElem?_eq_none (show zs.length ≤ j by omega)]
    refine ⟨_, _, _, zs.take n, rfl, by omega, by omega, ⟨by rw [cU_length, List.length_take]; omega, fun hn => ⟨a, rfl, ?_, fun j u hu => ?_⟩⟩, hby.take _⟩
    · have := hcell 0 (by omega)
      exact World.block_lt_of_cell? (a := a.add 0) _ this
    · have hj : j < n := by
        have := (List.getElem?_eq_some_iff.1 hu).1
        rw [cU_length, List.length_take] at this; omega
      simp only [cU, List.map_take, List.getElem?_take, if_pos hj, List.getElem?_map, List.getElem?_eq_getElem (show j < zs.length by omega), Option.map_some, Option.some.injEq] at hu
      rw [← hu, hcell j (by omega)]
      simp [show j < zs.length by omega]
end
end Go.Proofs.Ytbmjepmlalfpgaa
