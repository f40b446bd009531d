/- The struct Circuit: what reads, what is owned; the laws' helpers. Made by tools/gencomp.py. -/
import Derived.Test.YtipdflbnnmghdaaBx
namespace Go.Proofs.Ytipdflbnnmghdaa
open Go.RowKit
set_option maxRecDepth 100000
def RdCircuit (w : World) (hi : Nat) (v : Value) (d : Int × List (Int × Int × Int) × List Int) : Prop :=
  ∃ A1 n1 c1 A2 n2 c2, v = .agg #[.int .i64 (d.1), .slice A1 n1 c1, .slice A2 n2 c2] ∧ RdGateS w hi (.slice A1 n1 c1) (d.2.1) ∧ RdIntS w hi (.slice A2 n2 c2) (d.2.2)
def szCircuit (d : Int × List (Int × Int × Int) × List Int) : Nat := szGateS (d.2.1) + szIntS (d.2.2)
def cntCircuit (d : Int × List (Int × Int × Int) × List Int) : Nat := 3 * szGateS (d.2.1) + szIntS (d.2.2)
def OwCircuit (w : World) (lo hi : Nat) (v : Value) (d : Int × List (Int × Int × Int) × List Int) : Prop :=
  szCircuit d ≤ 1048576 ∧ ∃ A1 n1 c1 A2 n2 c2 s1 t1 s2 t2, v = .agg #[.int .i64 (d.1), .slice A1 n1 c1, .slice A2 n2 c2] ∧ lo ≤ s1 ∧ lo ≤ s2 ∧ t1 ≤ hi ∧ t2 ≤ hi ∧ (t1 ≤ s2 ∨ t2 ≤ s1) ∧ OwGateS w s1 t1 (.slice A1 n1 c1) (d.2.1) ∧ OwIntS w s2 t2 (.slice A2 n2 c2) (d.2.2)
def mkCircuit (K : Int) (d : Int × List (Int × Int × Int) × List Int) : Int × List (Int × Int × Int) × List Int := (d.1, mkGateS (K) (d.2.1), mkIntS (K + (3 * szGateS (d.2.1) : Nat)) (d.2.2))
section
variable {w w' : World} {lo hi lo' hi' B mid : Nat} {v : Value} {d : Int × List (Int × Int × Int) × List Int}
theorem RdCircuit.below (h : RdCircuit w hi v d) (hb : Below hi w w') : RdCircuit w' hi v d := by
  obtain ⟨A1, n1, c1, A2, n2, c2, rfl, h1, h2⟩ := h; exact ⟨A1, n1, c1, A2, n2, c2, rfl, h1.below hb, h2.below hb⟩
theorem RdCircuit.more (h : RdCircuit w hi v d) (hh : hi ≤ hi') : RdCircuit w hi' v d := by
  obtain ⟨A1, n1, c1, A2, n2, c2, rfl, h1, h2⟩ := h; exact ⟨A1, n1, c1, A2, n2, c2, rfl, h1.more hh, h2.more hh⟩
theorem OwCircuit.small (h : OwCircuit w lo hi v d) : szCircuit d ≤ 1048576 := h.1
theorem OwCircuit.rd (h : OwCircuit w lo hi v d) : RdCircuit w hi v d := by
  obtain ⟨_, A1, n1, c1, A2, n2, c2, s1, t1, s2, t2, rfl, l0, l1, l2, l3, l4, h1, h2⟩ := h; exact ⟨A1, n1, c1, A2, n2, c2, rfl, h1.rd.more (by omega), h2.rd.more (by omega)⟩
theorem OwCircuit.below (h : OwCircuit w lo hi v d) (hb : Below B w w') (hz : hi ≤ B) : OwCircuit w' lo hi v d := by
  obtain ⟨hsz, A1, n1, c1, A2, n2, c2, s1, t1, s2, t2, rfl, l0, l1, l2, l3, l4, h1, h2⟩ := h; exact ⟨hsz, A1, n1, c1, A2, n2, c2, s1, t1, s2, t2, rfl, l0, l1, l2, l3, l4, h1.below hb (by omega), h2.below hb (by omega)⟩
theorem OwCircuit.kept (h : OwCircuit w lo hi v d) (hk : Kept lo' mid w w') (hz : hi ≤ w.heap.size) (hd : mid ≤ lo ∨ hi ≤ lo') : OwCircuit w' lo hi v d := by
  obtain ⟨hsz, A1, n1, c1, A2, n2, c2, s1, t1, s2, t2, rfl, l0, l1, l2, l3, l4, h1, h2⟩ := h; exact ⟨hsz, A1, n1, c1, A2, n2, c2, s1, t1, s2, t2, rfl, l0, l1, l2, l3, l4, h1.kept hk (by omega) (by omega), h2.kept hk (by omega) (by omega)⟩
theorem OwCircuit.widen (h : OwCircuit w lo hi v d) (h1 : lo' ≤ lo) (h2 : hi ≤ hi') : OwCircuit w lo' hi' v d := by
  obtain ⟨hsz, A1, n1, c1, A2, n2, c2, s1, t1, s2, t2, rfl, l0, l1, l2, l3, l4, r1, r2⟩ := h; exact ⟨hsz, A1, n1, c1, A2, n2, c2, s1, t1, s2, t2, rfl, by omega, by omega, by omega, by omega, by omega, r1, r2⟩
end

set_option maxHeartbeats 2000000 in
theorem L_toCircuit (hi : Nat) (v : Value) (d : Int × List (Int × Int × Int) × List Int) (w : World) (h : RdCircuit w hi v d) (hh : hi ≤ w.heap.size) (hs : szCircuit d ≤ 1048576) :
    Calls Try.prog 58 #[v] w fun e w' => ∃ v', e = .returned v' ∧ OwCircuit w' w.heap.size w'.heap.size v' d ∧ Below w.heap.size w w' := by
  obtain ⟨A1, n1, c1, A2, n2, c2, rfl, h1, h2⟩ := h
  obtain ⟨z0, d1, d2⟩ := d
  have hs1 : szGateS d1 ≤ 1048576 := by unfold szCircuit at hs; simp only at hs; omega
  have hs2 : szIntS d2 ≤ 1048576 := by unfold szCircuit at hs; simp only at hs; omega
  have H1 := Lib.hid h1
  clear h1
  have H2 := Lib.hid h2
  clear h2
  go_enter Try.func58, Try.ntmps58
  go_wp2_with fail
  obtain ⟨W0, hW0⟩ : ∃ W, Hid ((((w.alloc (.cells #[Value.int .i64 z0, Value.slice A1 n1 c1, Value.slice A2 n2 c2] 86)).alloc (.cells #[Value.int .i64 0, Value.slice none 0 0, Value.slice none 0 0] 90)).alloc (.cells #[Value.int .i64 z0, Value.slice none 0 0, Value.slice none 0 0] 90)) = W) := ⟨_, Lib.hid rfl⟩
  have HB0 : Hid (Below w.heap.size w W0) := Lib.hid (by rw [← hW0.out]; exact (((Below.refl _ _).alloc (Nat.le_refl _) _).alloc (by simp) _).alloc (by simp; omega) _)
  have Z0 : W0.heap.size = w.heap.size + 1 + 1 + 1 := by rw [← hW0.out]; simp only [World.size_alloc]
  have X0 : Hid (Bx W0 (w.heap.size) #[Value.int .i64 z0, Value.slice A1 n1 c1, Value.slice A2 n2 c2] 86) := Lib.hid (by rw [← hW0.out]; exact ((Bx.new w _ _).alloc _).alloc _)
  have X1 : Hid (Bx W0 (w.heap.size + 1) #[Value.int .i64 0, Value.slice none 0 0, Value.slice none 0 0] 90) := Lib.hid (by rw [← hW0.out]; have := (Bx.new (w.alloc (.cells #[Value.int .i64 z0, Value.slice A1 n1 c1, Value.slice A2 n2 c2] 86)) #[Value.int .i64 0, Value.slice none 0 0, Value.slice none 0 0] 90); rw [World.size_alloc] at this; exact this.alloc _)
  have X2 : Hid (Bx W0 (w.heap.size + 1 + 1) #[Value.int .i64 z0, Value.slice none 0 0, Value.slice none 0 0] 90) := Lib.hid (by rw [← hW0.out]; have := (Bx.new ((w.alloc (.cells #[Value.int .i64 z0, Value.slice A1 n1 c1, Value.slice A2 n2 c2] 86)).alloc (.cells #[Value.int .i64 0, Value.slice none 0 0, Value.slice none 0 0] 90)) #[Value.int .i64 z0, Value.slice none 0 0, Value.slice none 0 0] 90); rw [World.size_alloc, World.size_alloc] at this; exact this)
  rw [hW0.out]
  clear hW0
  refine (L_toGateS hi _ d1 W0 (H1.out.below (HB0.out.mono hh)) (by have := HB0.out.size; omega) hs1).mono ?_
  rintro e w1 ⟨v1, rfl, ho, hb⟩
  obtain ⟨B1, k1, q1, hv⟩ : ∃ B k q, v1 = .slice B k q := by obtain ⟨_, B, k, q, rfl, _⟩ := ho; exact ⟨_, _, _, rfl⟩
  subst hv
  have O1 := Lib.hid ho
  have HB1 : Hid (Below w.heap.size w w1) := Lib.hid (HB0.out.trans (hb.mono HB0.out.size))
  have Z1 := hb.size
  replace X0 := Lib.hid (X0.out.below hb X0.out.lt)
  replace X1 := Lib.hid (X1.out.below hb X1.out.lt)
  replace X2 := Lib.hid (X2.out.below hb X2.out.lt)
  clear ho hb
  have g1 : w1.cell? ⟨w.heap.size + 1 + 1, 1, none⟩ = some (Value.slice none 0 0) := X2.out.cell 1
  have f1 : w1.frozen? ⟨w.heap.size + 1 + 1, 1, none⟩ = false := X2.out.free 1
  replace X0 := Lib.hid (X0.out.other ⟨w.heap.size + 1 + 1, 1, none⟩ (Value.slice B1 k1 q1) (by simp; omega))
  replace X1 := Lib.hid (X1.out.other ⟨w.heap.size + 1 + 1, 1, none⟩ (Value.slice B1 k1 q1) (by simp))
  replace X2 := Lib.hid (X2.out.set 1 (Value.slice B1 k1 q1))
  have l2 : (w1.setCell ⟨w.heap.size + 1 + 1, 1, none⟩ (Value.slice B1 k1 q1)).cell? ⟨w.heap.size, 2, none⟩ = some (Value.slice A2 n2 c2) := X0.out.cell 2
  obtain ⟨W1, hW⟩ : ∃ W, Hid ((w1.setCell ⟨w.heap.size + 1 + 1, 1, none⟩ (Value.slice B1 k1 q1)) = W) := ⟨_, Lib.hid rfl⟩
  have hk : Kept (w.heap.size + 1 + 1) (w.heap.size + 1 + 1 + 1) w1 W1 := by rw [← hW.out]; exact ((Kept.refl (w.heap.size + 1 + 1) (w.heap.size + 1 + 1 + 1) w1).setCell (p := ⟨w.heap.size + 1 + 1, 1, none⟩) (Nat.le_refl _) (Nat.lt_succ_self _) (Value.slice B1 k1 q1))
  have HB2 : Hid (Below w.heap.size w W1) := Lib.hid (HB1.out.trans ((hk.to_below (by omega)).mono (by omega)))
  have Z2 := hk.size
  replace O1 := Lib.hid (O1.out.kept hk (by omega) (by omega))
  rw [hW.out] at X0
  rw [hW.out] at X1
  rw [hW.out] at X2
  clear hk
  go_wp2_with fail
  rw [hW.out]
  clear hW g1 f1 l2
  refine (L_toIntS hi _ d2 W1 (H2.out.below (HB2.out.mono hh)) (by have := HB2.out.size; omega) hs2).mono ?_
  rintro e w2 ⟨v2, rfl, ho, hb⟩
  obtain ⟨B2, k2, q2, hv⟩ : ∃ B k q, v2 = .slice B k q := by obtain ⟨_, B, k, q, rfl, _⟩ := ho; exact ⟨_, _, _, rfl⟩
  subst hv
  have O2 := Lib.hid ho
  have HB3 : Hid (Below w.heap.size w w2) := Lib.hid (HB2.out.trans (hb.mono HB2.out.size))
  have Z3 := hb.size
  replace X0 := Lib.hid (X0.out.below hb X0.out.lt)
  replace X1 := Lib.hid (X1.out.below hb X1.out.lt)
  replace X2 := Lib.hid (X2.out.below hb X2.out.lt)
  replace O1 := Lib.hid (O1.out.below hb (by omega))
  clear ho hb
  have Y1 := Lib.hid X1.out
  have g2 : w2.cell? ⟨w.heap.size + 1 + 1, 2, none⟩ = some (Value.slice none 0 0) := X2.out.cell 2
  have f2 : w2.frozen? ⟨w.heap.size + 1 + 1, 2, none⟩ = false := X2.out.free 2
  replace X0 := Lib.hid (X0.out.other ⟨w.heap.size + 1 + 1, 2, none⟩ (Value.slice B2 k2 q2) (by simp; omega))
  replace X1 := Lib.hid (X1.out.other ⟨w.heap.size + 1 + 1, 2, none⟩ (Value.slice B2 k2 q2) (by simp))
  replace X2 := Lib.hid (X2.out.set 2 (Value.slice B2 k2 q2))
  obtain ⟨W2, hW⟩ : ∃ W, Hid ((w2.setCell ⟨w.heap.size + 1 + 1, 2, none⟩ (Value.slice B2 k2 q2)) = W) := ⟨_, Lib.hid rfl⟩
  have hk : Kept (w.heap.size + 1 + 1) (w.heap.size + 1 + 1 + 1) w2 W2 := by rw [← hW.out]; exact ((Kept.refl (w.heap.size + 1 + 1) (w.heap.size + 1 + 1 + 1) w2).setCell (p := ⟨w.heap.size + 1 + 1, 2, none⟩) (Nat.le_refl _) (Nat.lt_succ_self _) (Value.slice B2 k2 q2))
  have HB4 : Hid (Below w.heap.size w W2) := Lib.hid (HB3.out.trans ((hk.to_below (by omega)).mono (by omega)))
  have Z4 := hk.size
  replace O1 := Lib.hid (O1.out.kept hk (by omega) (by omega))
  replace O2 := Lib.hid (O2.out.kept hk (by omega) (by omega))
  rw [hW.out] at X0
  rw [hW.out] at X1
  rw [hW.out] at X2
  have y0 : w2.cell? ⟨w.heap.size + 1, 0, none⟩ = some (Value.int .i64 0) := Y1.out.cell 0
  have v0 : w2.frozen? ⟨w.heap.size + 1, 0, none⟩ = false := Y1.out.free 0
  have y1 : w2.cell? ⟨w.heap.size + 1, 1, none⟩ = some (Value.slice none 0 0) := Y1.out.cell 1
  have v1 : w2.frozen? ⟨w.heap.size + 1, 1, none⟩ = false := Y1.out.free 1
  have y2 : w2.cell? ⟨w.heap.size + 1, 2, none⟩ = some (Value.slice none 0 0) := Y1.out.cell 2
  have v2 : w2.frozen? ⟨w.heap.size + 1, 2, none⟩ = false := Y1.out.free 2
  have r0 : (w2.setCell ⟨w.heap.size + 1 + 1, 2, none⟩ (Value.slice B2 k2 q2)).cell? ⟨w.heap.size + 1 + 1, 0, none⟩ = some (Value.int .i64 z0) := by rw [hW.out]; exact X2.out.cell 0
  have r1 : (w2.setCell ⟨w.heap.size + 1 + 1, 2, none⟩ (Value.slice B2 k2 q2)).cell? ⟨w.heap.size + 1 + 1, 1, none⟩ = some (Value.slice B1 k1 q1) := by rw [hW.out]; exact X2.out.cell 1
  have r2 : (w2.setCell ⟨w.heap.size + 1 + 1, 2, none⟩ (Value.slice B2 k2 q2)).cell? ⟨w.heap.size + 1 + 1, 2, none⟩ = some (Value.slice B2 k2 q2) := by rw [hW.out]; exact X2.out.cell 2
  clear hk
  go_wp2_with fail
  rw [hW.out]
  clear hW g2 f2 r0 r1 r2 y0 v0 y1 v1 y2 v2
  obtain ⟨WF, hF⟩ : ∃ W, Hid ((((W2.setCell ⟨w.heap.size + 1, 0, none⟩ (Value.int .i64 z0)).setCell ⟨w.heap.size + 1, 1, none⟩ (Value.slice B1 k1 q1)).setCell ⟨w.heap.size + 1, 2, none⟩ (Value.slice B2 k2 q2)) = W) := ⟨_, Lib.hid rfl⟩
  have XF : Hid (Bx WF (w.heap.size + 1) (#[Value.int .i64 z0, Value.slice B1 k1 q1, Value.slice B2 k2 q2]) 90) := Lib.hid (by rw [← hF.out]; exact (((X1.out.set 0 (Value.int .i64 z0)).set 1 (Value.slice B1 k1 q1)).set 2 (Value.slice B2 k2 q2)))
  have hk : Kept (w.heap.size + 1) (w.heap.size + 1 + 1) W2 WF := by rw [← hF.out]; exact ((((Kept.refl (w.heap.size + 1) (w.heap.size + 1 + 1) W2).setCell (p := ⟨w.heap.size + 1, 0, none⟩) (Nat.le_refl _) (Nat.lt_succ_self _) (Value.int .i64 z0)).setCell (p := ⟨w.heap.size + 1, 1, none⟩) (Nat.le_refl _) (Nat.lt_succ_self _) (Value.slice B1 k1 q1)).setCell (p := ⟨w.heap.size + 1, 2, none⟩) (Nat.le_refl _) (Nat.lt_succ_self _) (Value.slice B2 k2 q2))
  have HBF : Below w.heap.size w WF := HB4.out.trans ((hk.to_below (by omega)).mono (by omega))
  have zf := hk.size
  have s0 : WF.cell? ⟨w.heap.size + 1, 0, none⟩ = some (Value.int .i64 z0) := XF.out.cell 0
  have s1 : WF.cell? ⟨w.heap.size + 1, 1, none⟩ = some (Value.slice B1 k1 q1) := XF.out.cell 1
  have s2 : WF.cell? ⟨w.heap.size + 1, 2, none⟩ = some (Value.slice B2 k2 q2) := XF.out.cell 2
  rw [hF.out]
  refine bodyPost_ret (v := .agg #[Value.int .i64 z0, Value.slice B1 k1 q1, Value.slice B2 k2 q2]) (by simp [results, Try.results58, go_sem, s0, s1, s2]) rfl ⟨_, rfl, ⟨hs, _, _, _, _, _, _, W0.heap.size, w1.heap.size, W1.heap.size, w2.heap.size, rfl, ?_⟩, HBF⟩
  exact ⟨by omega, by omega, by omega, by omega, by omega, O1.out.kept hk (by omega) (by omega), O2.out.kept hk (by omega) (by omega)⟩

set_option maxHeartbeats 2000000 in
theorem L_eqCircuit (hi hi' : Nat) (v v' : Value) (d : Int × List (Int × Int × Int) × List Int) (w : World) (h : RdCircuit w hi v d) (h' : RdCircuit w hi' v' d) (hh : hi ≤ w.heap.size) (hh' : hi' ≤ w.heap.size) (hs : szCircuit d ≤ 1048576) :
    Calls Try.prog 60 #[v, v'] w fun e w' => e = .returned (.bool true) ∧ Below w.heap.size w w' := by
  obtain ⟨A1, n1, c1, A2, n2, c2, rfl, h1, h2⟩ := h
  obtain ⟨A1', n1', c1', A2', n2', c2', rfl, j1, j2⟩ := h'
  obtain ⟨z0, d1, d2⟩ := d
  have hs1 : szGateS d1 ≤ 1048576 := by unfold szCircuit at hs; simp only at hs; omega
  have hs2 : szIntS d2 ≤ 1048576 := by unfold szCircuit at hs; simp only at hs; omega
  have H1 := Lib.hid h1
  have J1 := Lib.hid j1
  clear h1 j1
  have H2 := Lib.hid h2
  have J2 := Lib.hid j2
  clear h2 j2
  go_enter Try.func60, Try.ntmps60
  go_wp2_with fail
  obtain ⟨W0, hW0⟩ : ∃ W, Hid (((w.alloc (.cells #[Value.int .i64 z0, Value.slice A1 n1 c1, Value.slice A2 n2 c2] 90)).alloc (.cells #[Value.int .i64 z0, Value.slice A1' n1' c1', Value.slice A2' n2' c2'] 90)) = W) := ⟨_, Lib.hid rfl⟩
  have HB0 : Hid (Below w.heap.size w W0) := Lib.hid (by rw [← hW0.out]; exact ((Below.refl _ _).alloc (Nat.le_refl _) _).alloc (by simp) _)
  have Z0 : W0.heap.size = w.heap.size + 1 + 1 := by rw [← hW0.out]; simp only [World.size_alloc]
  have X0 : Hid (Bx W0 (w.heap.size) #[Value.int .i64 z0, Value.slice A1 n1 c1, Value.slice A2 n2 c2] 90) := Lib.hid (by rw [← hW0.out]; exact (Bx.new w _ _).alloc _)
  have X1 : Hid (Bx W0 (w.heap.size + 1) #[Value.int .i64 z0, Value.slice A1' n1' c1', Value.slice A2' n2' c2'] 90) := Lib.hid (by rw [← hW0.out]; have := (Bx.new (w.alloc (.cells #[Value.int .i64 z0, Value.slice A1 n1 c1, Value.slice A2 n2 c2] 90)) #[Value.int .i64 z0, Value.slice A1' n1' c1', Value.slice A2' n2' c2'] 90); rw [World.size_alloc] at this; exact this)
  rw [hW0.out]
  clear hW0
  refine (L_eqGateS hi hi' _ _ d1 _ (H1.out.below (HB0.out.mono hh)) (J1.out.below (HB0.out.mono hh')) (by have := HB0.out.size; omega) (by have := HB0.out.size; omega) hs1).mono ?_
  rintro e w1 ⟨rfl, hb⟩
  have HB1 : Hid (Below w.heap.size w w1) := Lib.hid (HB0.out.trans (hb.mono HB0.out.size))
  replace X0 := Lib.hid (X0.out.below hb X0.out.lt)
  replace X1 := Lib.hid (X1.out.below hb X1.out.lt)
  clear hb
  have l2 : w1.cell? ⟨w.heap.size, 2, none⟩ = some (Value.slice A2 n2 c2) := X0.out.cell 2
  have r2 : w1.cell? ⟨w.heap.size + 1, 2, none⟩ = some (Value.slice A2' n2' c2') := X1.out.cell 2
  go_wp2_with fail
  refine (L_eqIntS hi hi' _ _ d2 _ (H2.out.below (HB1.out.mono hh)) (J2.out.below (HB1.out.mono hh')) (by have := HB1.out.size; omega) (by have := HB1.out.size; omega) hs2).mono ?_
  rintro e w2 ⟨rfl, hb⟩
  have HB2 : Hid (Below w.heap.size w w2) := Lib.hid (HB1.out.trans (hb.mono HB1.out.size))
  replace X0 := Lib.hid (X0.out.below hb X0.out.lt)
  replace X1 := Lib.hid (X1.out.below hb X1.out.lt)
  clear hb
  go_wp2
  go_ret
  exact ⟨rfl, HB2.out⟩

set_option maxHeartbeats 2000000 in
theorem L_szCircuit_ok (hi : Nat) (v : Value) (d : Int × List (Int × Int × Int) × List Int) (left : Int) (w : World) (h : RdCircuit w hi v d) (hh : hi ≤ w.heap.size) (hl0 : 0 ≤ left) (hl1 : left ≤ 1048576) (hl : (szCircuit d : Nat) ≤ left) :
    Calls Try.prog 56 #[v, .int .i64 left] w fun e w' => ∃ L', e = .returned (.int .i64 L') ∧ Hid (L' = left - szCircuit d) ∧ 0 ≤ L' ∧ L' ≤ left ∧ Below w.heap.size w w' := by
  obtain ⟨A1, n1, c1, A2, n2, c2, rfl, h1, h2⟩ := h
  obtain ⟨z0, d1, d2⟩ := d
  have hl2 := Lib.hid hl
  clear hl
  unfold szCircuit at hl2 ⊢
  simp only at hl2 ⊢
  have H1 := Lib.hid h1
  clear h1
  have H2 := Lib.hid h2
  clear h2
  go_enter Try.func56, Try.ntmps56
  go_wp2_with fail
  obtain ⟨W0, hW0⟩ : ∃ W, Hid ((w.alloc (.cells #[Value.int .i64 z0, Value.slice A1 n1 c1, Value.slice A2 n2 c2] 86)) = W) := ⟨_, Lib.hid rfl⟩
  have HB0 : Hid (Below w.heap.size w W0) := Lib.hid (by rw [← hW0.out]; exact (Below.refl _ _).alloc (Nat.le_refl _) _)
  have Z0 : W0.heap.size = w.heap.size + 1 := by rw [← hW0.out]; simp only [World.size_alloc]
  have X0 : Hid (Bx W0 (w.heap.size) #[Value.int .i64 z0, Value.slice A1 n1 c1, Value.slice A2 n2 c2] 86) := Lib.hid (by rw [← hW0.out]; exact Bx.new w _ _)
  rw [hW0.out]
  clear hW0
  refine (L_szGateS_ok _ _ d1 left _ (H1.out.below (HB0.out.mono hh)) (by omega) (by omega) (by have := hl2.out; omega)).mono ?_
  rintro e w1 ⟨L1, rfl, hL1, p1, q1, hb⟩
  have HB1 : Hid (Below w.heap.size w w1) := Lib.hid (HB0.out.trans (hb.mono HB0.out.size))
  replace X0 := Lib.hid (X0.out.below hb X0.out.lt)
  clear hb
  have l2 : w1.cell? ⟨w.heap.size, 2, none⟩ = some (Value.slice A2 n2 c2) := X0.out.cell 2
  go_wp2_with fail
  refine (L_szIntS_ok _ _ d2 L1 _ (H2.out.below (HB1.out.mono hh)) (by omega) (by omega) (by have := hl2.out; have := hL1.out; omega)).mono ?_
  rintro e w2 ⟨L2, rfl, hL2, p2, q2, hb⟩
  have HB2 : Hid (Below w.heap.size w w2) := Lib.hid (HB1.out.trans (hb.mono HB1.out.size))
  replace X0 := Lib.hid (X0.out.below hb X0.out.lt)
  clear hb
  go_wp2
  go_ret
  exact ⟨_, rfl, Lib.hid (by have := hL1.out; have := hL2.out; omega), by omega, by omega, HB2.out⟩

set_option maxHeartbeats 4000000 in
theorem L_szCircuit_no (hi : Nat) (v : Value) (d : Int × List (Int × Int × Int) × List Int) (left : Int) (w : World) (h : RdCircuit w hi v d) (hh : hi ≤ w.heap.size) (hl0 : 0 ≤ left) (hl1 : left ≤ 1048576) (hl : left < (szCircuit d : Nat)) :
    Calls Try.prog 56 #[v, .int .i64 left] w fun e w' => e = .returned (.int .i64 (-1)) ∧ Below w.heap.size w w' := by
  obtain ⟨A1, n1, c1, A2, n2, c2, rfl, h1, h2⟩ := h
  obtain ⟨z0, d1, d2⟩ := d
  have hl2 := Lib.hid hl
  clear hl
  unfold szCircuit at hl2
  simp only at hl2
  have H1 := Lib.hid h1
  clear h1
  have H2 := Lib.hid h2
  clear h2
  by_cases hc1 : left < ((szGateS d1 : Nat) : Int)
  · go_enter Try.func56, Try.ntmps56
    go_wp2_with fail
    obtain ⟨W0, hW0⟩ : ∃ W, Hid ((w.alloc (.cells #[Value.int .i64 z0, Value.slice A1 n1 c1, Value.slice A2 n2 c2] 86)) = W) := ⟨_, Lib.hid rfl⟩
    have HB0 : Hid (Below w.heap.size w W0) := Lib.hid (by rw [← hW0.out]; exact (Below.refl _ _).alloc (Nat.le_refl _) _)
    have Z0 : W0.heap.size = w.heap.size + 1 := by rw [← hW0.out]; simp only [World.size_alloc]
    have X0 : Hid (Bx W0 (w.heap.size) #[Value.int .i64 z0, Value.slice A1 n1 c1, Value.slice A2 n2 c2] 86) := Lib.hid (by rw [← hW0.out]; exact Bx.new w _ _)
    rw [hW0.out]
    clear hW0
    refine (L_szGateS_no _ _ d1 left _ (H1.out.below (HB0.out.mono hh)) (by omega) (by omega) (by have := hl2.out; omega)).mono ?_
    rintro e w1 ⟨rfl, hb⟩
    have HB1 : Hid (Below w.heap.size w w1) := Lib.hid (HB0.out.trans (hb.mono HB0.out.size))
    clear hb
    go_wp2
    go_ret
    exact ⟨rfl, HB1.out⟩
  · go_enter Try.func56, Try.ntmps56
    go_wp2_with fail
    obtain ⟨W0, hW0⟩ : ∃ W, Hid ((w.alloc (.cells #[Value.int .i64 z0, Value.slice A1 n1 c1, Value.slice A2 n2 c2] 86)) = W) := ⟨_, Lib.hid rfl⟩
    have HB0 : Hid (Below w.heap.size w W0) := Lib.hid (by rw [← hW0.out]; exact (Below.refl _ _).alloc (Nat.le_refl _) _)
    have Z0 : W0.heap.size = w.heap.size + 1 := by rw [← hW0.out]; simp only [World.size_alloc]
    have X0 : Hid (Bx W0 (w.heap.size) #[Value.int .i64 z0, Value.slice A1 n1 c1, Value.slice A2 n2 c2] 86) := Lib.hid (by rw [← hW0.out]; exact Bx.new w _ _)
    rw [hW0.out]
    clear hW0
    refine (L_szGateS_ok _ _ d1 left _ (H1.out.below (HB0.out.mono hh)) (by omega) (by omega) (by have := hl2.out; omega)).mono ?_
    rintro e w1 ⟨L1, rfl, hL1, p1, q1, hb⟩
    have HB1 : Hid (Below w.heap.size w w1) := Lib.hid (HB0.out.trans (hb.mono HB0.out.size))
    replace X0 := Lib.hid (X0.out.below hb X0.out.lt)
    clear hb
    have l2 : w1.cell? ⟨w.heap.size, 2, none⟩ = some (Value.slice A2 n2 c2) := X0.out.cell 2
    go_wp2_with fail
    refine (L_szIntS_no _ _ d2 L1 _ (H2.out.below (HB1.out.mono hh)) (by omega) (by omega) (by have := hl2.out; have := hL1.out; omega)).mono ?_
    rintro e w2 ⟨rfl, hb⟩
    have HB2 : Hid (Below w.heap.size w w2) := Lib.hid (HB1.out.trans (hb.mono HB1.out.size))
    clear hb
    go_wp2
    go_ret
    exact ⟨rfl, HB2.out⟩

theorem sz_mkCircuit (K : Int) (d : Int × List (Int × Int × Int) × List Int) : szCircuit (mkCircuit K d) = szCircuit d := by
  simp only [szCircuit, mkCircuit, szGateS, mkGateS, szIntS, mkIntS, iotaGate_length, iota_length]
set_option maxHeartbeats 2000000 in
theorem L_markCircuit (lo hi : Nat) (v : Value) (d : Int × List (Int × Int × Int) × List Int) (K : Int) (w : World) (h : OwCircuit w lo hi v d) (_hz : hi ≤ w.heap.size) (hK : 0 ≤ K) (hK2 : K ≤ 900000000) :
    Calls Try.prog 61 #[v, .int .i64 K] w fun e w' => ∃ K', e = .returned (.int .i64 K') ∧ Hid (K' = K + cntCircuit d) ∧ 0 ≤ K' ∧ K' ≤ K + 4194304 ∧ OwCircuit w' lo hi v (mkCircuit K d) ∧ Kept lo hi w w' := by
  obtain ⟨hsz, A1, n1, c1, A2, n2, c2, s1, t1, s2, t2, rfl, l0, l1, l2, l3, l4, h1, h2⟩ := h
  obtain ⟨z0, d1, d2⟩ := d
  have H1 := Lib.hid h1
  clear h1
  have H2 := Lib.hid h2
  clear h2
  go_enter Try.func61, Try.ntmps61
  go_wp2_with fail
  obtain ⟨W0, hW0⟩ : ∃ W, Hid ((w.alloc (.cells #[Value.int .i64 z0, Value.slice A1 n1 c1, Value.slice A2 n2 c2] 90)) = W) := ⟨_, Lib.hid rfl⟩
  have HB0 : Hid (Below w.heap.size w W0) := Lib.hid (by rw [← hW0.out]; exact (Below.refl _ _).alloc (Nat.le_refl _) _)
  have Z0 : W0.heap.size = w.heap.size + 1 := by rw [← hW0.out]; simp only [World.size_alloc]
  have X0 : Hid (Bx W0 (w.heap.size) #[Value.int .i64 z0, Value.slice A1 n1 c1, Value.slice A2 n2 c2] 90) := Lib.hid (by rw [← hW0.out]; exact Bx.new w _ _)
  rw [hW0.out]
  clear hW0
  have HK0 : Hid (Kept lo hi w W0) := Lib.hid ⟨HB0.out.os, HB0.out.tape, HB0.out.output, HB0.out.size, fun k hk _ => HB0.out.block k hk⟩
  replace H1 := Lib.hid (H1.out.below HB0.out (by omega))
  replace H2 := Lib.hid (H2.out.below HB0.out (by omega))
  refine (L_markGateS _ _ _ d1 K _ H1.out (by have := HK0.out.size; omega) (by omega) (by omega)).mono ?_
  rintro e w1 ⟨K1, rfl, hK1, p1, q1, ho, hk⟩
  have HK1 : Hid (Kept lo hi w w1) := Lib.hid (HK0.out.trans ⟨hk.os, hk.tape, hk.output, hk.size, fun k h1 h2 => hk.block k h1 (by omega)⟩)
  replace X0 := Lib.hid (X0.out.kept hk (by omega))
  replace H2 := Lib.hid (H2.out.kept hk (by have := HK0.out.size; omega) (by omega))
  replace H1 := Lib.hid ho
  clear ho hk
  have l2 : w1.cell? ⟨w.heap.size, 2, none⟩ = some (Value.slice A2 n2 c2) := X0.out.cell 2
  go_wp2_with fail
  refine (L_markIntS _ _ _ d2 K1 _ H2.out (by have := HK1.out.size; omega) (by omega) (by omega)).mono ?_
  rintro e w2 ⟨K2, rfl, hK2, p2, q2, ho, hk⟩
  have HK2 : Hid (Kept lo hi w w2) := Lib.hid (HK1.out.trans ⟨hk.os, hk.tape, hk.output, hk.size, fun k h1 h2 => hk.block k h1 (by omega)⟩)
  replace X0 := Lib.hid (X0.out.kept hk (by omega))
  replace H1 := Lib.hid (H1.out.kept hk (by have := HK1.out.size; omega) (by omega))
  replace H2 := Lib.hid ho
  clear ho hk
  have e1 : Hid (K1 = K + ((3 * szGateS d1 : Nat) : Int)) := Lib.hid (by have := hK1.out; omega)
  have e2 : Hid (K2 = K + ((3 * szGateS d1 : Nat) : Int) + ((szIntS d2 : Nat) : Int)) := Lib.hid (by have := hK1.out; have := hK2.out; omega)
  go_wp2
  go_ret
  refine ⟨_, rfl, Lib.hid (by rw [e2.out]; simp only [cntCircuit]; omega), by omega, by omega, ⟨(by rw [sz_mkCircuit]; exact hsz), A1, n1, c1, A2, n2, c2, s1, t1, s2, t2, rfl, by omega, by omega, by omega, by omega, by omega, H1.out, by have := H2.out; rw [e1.out] at this; exact this⟩, HK2.out⟩

set_option maxHeartbeats 2000000 in
theorem L_heldCircuit (hi : Nat) (v : Value) (d : Int × List (Int × Int × Int) × List Int) (K q : Int) (w : World) (h : RdCircuit w hi v (mkCircuit K d)) (hz : hi ≤ w.heap.size) (hs : szCircuit d ≤ 1048576) (hq : Hid (q = K)) (hK : 0 ≤ K) (hK2 : K ≤ 900000000) :
    Calls Try.prog 62 #[v, .int .i64 q] w fun e w' => ∃ K', e = .returned (.int .i64 K') ∧ Hid (K' = K + cntCircuit d) ∧ 0 ≤ K' ∧ K' ≤ K + 4194304 ∧ Below w.heap.size w w' := by
  obtain ⟨z0, d1, d2⟩ := d
  obtain ⟨A1, n1, c1, A2, n2, c2, rfl, h1, h2⟩ := h
  obtain rfl : q = K := hq.out
  have hs1 : szGateS d1 ≤ 1048576 := by unfold szCircuit at hs; simp only at hs; omega
  have hs2 : szIntS d2 ≤ 1048576 := by unfold szCircuit at hs; simp only at hs; omega
  have H1 : Hid (RdGateS w hi (.slice A1 n1 c1) (mkGateS (q) d1)) := Lib.hid h1
  clear h1
  have H2 : Hid (RdIntS w hi (.slice A2 n2 c2) (mkIntS (q + ((3 * szGateS d1 : Nat) : Int)) d2)) := Lib.hid h2
  clear h2
  simp only [mkCircuit]
  go_enter Try.func62, Try.ntmps62
  go_wp2_with fail
  obtain ⟨W0, hW0⟩ : ∃ W, Hid ((w.alloc (.cells #[Value.int .i64 z0, Value.slice A1 n1 c1, Value.slice A2 n2 c2] 90)) = W) := ⟨_, Lib.hid rfl⟩
  have HB0 : Hid (Below w.heap.size w W0) := Lib.hid (by rw [← hW0.out]; exact (Below.refl _ _).alloc (Nat.le_refl _) _)
  have Z0 : W0.heap.size = w.heap.size + 1 := by rw [← hW0.out]; simp only [World.size_alloc]
  have X0 : Hid (Bx W0 (w.heap.size) #[Value.int .i64 z0, Value.slice A1 n1 c1, Value.slice A2 n2 c2] 90) := Lib.hid (by rw [← hW0.out]; exact Bx.new w _ _)
  rw [hW0.out]
  clear hW0
  refine (L_heldGateS hi _ d1 (q) q _ (H1.out.below (HB0.out.mono hz)) (by have := HB0.out.size; omega) hs1 (Lib.hid rfl) (by omega) (by omega)).mono ?_
  rintro e w1 ⟨K1, rfl, hK1, p1, q1, hb⟩
  have HB1 : Hid (Below w.heap.size w w1) := Lib.hid (HB0.out.trans (hb.mono HB0.out.size))
  replace X0 := Lib.hid (X0.out.below hb X0.out.lt)
  clear hb
  have e1 : Hid (K1 = q + ((3 * szGateS d1 : Nat) : Int)) := Lib.hid (by have := hK1.out; omega)
  have l2 : w1.cell? ⟨w.heap.size, 2, none⟩ = some (Value.slice A2 n2 c2) := X0.out.cell 2
  go_wp2_with fail
  refine (L_heldIntS hi _ d2 (q + ((3 * szGateS d1 : Nat) : Int)) K1 _ (H2.out.below (HB1.out.mono hz)) (by have := HB1.out.size; omega) hs2 e1 (by omega) (by have := e1.out; omega)).mono ?_
  rintro e w2 ⟨K2, rfl, hK2, p2, q2, hb⟩
  have HB2 : Hid (Below w.heap.size w w2) := Lib.hid (HB1.out.trans (hb.mono HB1.out.size))
  replace X0 := Lib.hid (X0.out.below hb X0.out.lt)
  clear hb
  have e2 : Hid (K2 = q + ((3 * szGateS d1 : Nat) : Int) + ((szIntS d2 : Nat) : Int)) := Lib.hid (by have := hK2.out; omega)
  go_wp2
  go_ret
  exact ⟨_, rfl, Lib.hid (by rw [e2.out]; simp only [cntCircuit]; omega), by omega, by have := e1.out; have := e2.out; omega, HB2.out⟩
end Go.Proofs.Ytipdflbnnmghdaa
