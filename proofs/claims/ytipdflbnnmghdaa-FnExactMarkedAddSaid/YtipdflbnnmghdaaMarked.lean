/- The struct Marked: what reads, what is owned; the laws' helpers. Made by tools/gencomp.py. -/
import Derived.Test.YtipdflbnnmghdaaBx
namespace Go.Proofs.Ytipdflbnnmghdaa
open Go.RowKit
set_option maxRecDepth 100000
def RdMarked (w : World) (hi : Nat) (v : Value) (d : List Int × List Int) : Prop :=
  ∃ A0 n0 c0 A1 n1 c1, v = .agg #[.slice A0 n0 c0, .slice A1 n1 c1] ∧ RdIntS w hi (.slice A0 n0 c0) (d.1) ∧ RdIntS w hi (.slice A1 n1 c1) (d.2)
def szMarked (d : List Int × List Int) : Nat := szIntS (d.1) + szIntS (d.2)
def cntMarked (d : List Int × List Int) : Nat := szIntS (d.1) + szIntS (d.2)
def OwMarked (w : World) (lo hi : Nat) (v : Value) (d : List Int × List Int) : Prop :=
  szMarked d ≤ 1048576 ∧ ∃ A0 n0 c0 A1 n1 c1 s0 t0 s1 t1, v = .agg #[.slice A0 n0 c0, .slice A1 n1 c1] ∧ lo ≤ s0 ∧ lo ≤ s1 ∧ t0 ≤ hi ∧ t1 ≤ hi ∧ (t0 ≤ s1 ∨ t1 ≤ s0) ∧ OwIntS w s0 t0 (.slice A0 n0 c0) (d.1) ∧ OwIntS w s1 t1 (.slice A1 n1 c1) (d.2)
def mkMarked (K : Int) (d : List Int × List Int) : List Int × List Int := (mkIntS (K) (d.1), mkIntS (K + (szIntS (d.1) : Nat)) (d.2))
section
variable {w w' : World} {lo hi lo' hi' B mid : Nat} {v : Value} {d : List Int × List Int}
theorem RdMarked.below (h : RdMarked w hi v d) (hb : Below hi w w') : RdMarked w' hi v d := by
  obtain ⟨A0, n0, c0, A1, n1, c1, rfl, h0, h1⟩ := h; exact ⟨A0, n0, c0, A1, n1, c1, rfl, h0.below hb, h1.below hb⟩
theorem RdMarked.more (h : RdMarked w hi v d) (hh : hi ≤ hi') : RdMarked w hi' v d := by
  obtain ⟨A0, n0, c0, A1, n1, c1, rfl, h0, h1⟩ := h; exact ⟨A0, n0, c0, A1, n1, c1, rfl, h0.more hh, h1.more hh⟩
theorem OwMarked.small (h : OwMarked w lo hi v d) : szMarked d ≤ 1048576 := h.1
theorem OwMarked.rd (h : OwMarked w lo hi v d) : RdMarked w hi v d := by
  obtain ⟨_, A0, n0, c0, A1, n1, c1, s0, t0, s1, t1, rfl, l0, l1, l2, l3, l4, h0, h1⟩ := h; exact ⟨A0, n0, c0, A1, n1, c1, rfl, h0.rd.more (by omega), h1.rd.more (by omega)⟩
theorem OwMarked.below (h : OwMarked w lo hi v d) (hb : Below B w w') (hz : hi ≤ B) : OwMarked w' lo hi v d := by
  obtain ⟨hsz, A0, n0, c0, A1, n1, c1, s0, t0, s1, t1, rfl, l0, l1, l2, l3, l4, h0, h1⟩ := h; exact ⟨hsz, A0, n0, c0, A1, n1, c1, s0, t0, s1, t1, rfl, l0, l1, l2, l3, l4, h0.below hb (by omega), h1.below hb (by omega)⟩
theorem OwMarked.kept (h : OwMarked w lo hi v d) (hk : Kept lo' mid w w') (hz : hi ≤ w.heap.size) (hd : mid ≤ lo ∨ hi ≤ lo') : OwMarked w' lo hi v d := by
  obtain ⟨hsz, A0, n0, c0, A1, n1, c1, s0, t0, s1, t1, rfl, l0, l1, l2, l3, l4, h0, h1⟩ := h; exact ⟨hsz, A0, n0, c0, A1, n1, c1, s0, t0, s1, t1, rfl, l0, l1, l2, l3, l4, h0.kept hk (by omega) (by omega), h1.kept hk (by omega) (by omega)⟩
theorem OwMarked.widen (h : OwMarked w lo hi v d) (h1 : lo' ≤ lo) (h2 : hi ≤ hi') : OwMarked w lo' hi' v d := by
  obtain ⟨hsz, A0, n0, c0, A1, n1, c1, s0, t0, s1, t1, rfl, l0, l1, l2, l3, l4, r0, r1⟩ := h; exact ⟨hsz, A0, n0, c0, A1, n1, c1, s0, t0, s1, t1, rfl, by omega, by omega, by omega, by omega, by omega, r0, r1⟩
end

set_option maxHeartbeats 2000000 in
theorem L_toMarked (hi : Nat) (v : Value) (d : List Int × List Int) (w : World) (h : RdMarked w hi v d) (hh : hi ≤ w.heap.size) (hs : szMarked d ≤ 1048576) :
    Calls Try.prog 41 #[v] w fun e w' => ∃ v', e = .returned v' ∧ OwMarked w' w.heap.size w'.heap.size v' d ∧ Below w.heap.size w w' := by
  obtain ⟨A0, n0, c0, A1, n1, c1, rfl, h0, h1⟩ := h
  obtain ⟨d0, d1⟩ := d
  have hs0 : szIntS d0 ≤ 1048576 := by unfold szMarked at hs; simp only at hs; omega
  have hs1 : szIntS d1 ≤ 1048576 := by unfold szMarked at hs; simp only at hs; omega
  have H0 := Lib.hid h0
  clear h0
  have H1 := Lib.hid h1
  clear h1
  go_enter Try.func41, Try.ntmps41
  go_wp2_with fail
  obtain ⟨W0, hW0⟩ : ∃ W, Hid ((((w.alloc (.cells #[Value.slice A0 n0 c0, Value.slice A1 n1 c1] 65)).alloc (.cells #[Value.slice none 0 0, Value.slice none 0 0] 67)).alloc (.cells #[Value.slice none 0 0, Value.slice none 0 0] 67)) = W) := ⟨_, Lib.hid rfl⟩
  have HB0 : Hid (Below w.heap.size w W0) := Lib.hid (by rw [← hW0.out]; exact (((Below.refl _ _).alloc (Nat.le_refl _) _).alloc (by simp) _).alloc (by simp; omega) _)
  have Z0 : W0.heap.size = w.heap.size + 1 + 1 + 1 := by rw [← hW0.out]; simp only [World.size_alloc]
  have X0 : Hid (Bx W0 (w.heap.size) #[Value.slice A0 n0 c0, Value.slice A1 n1 c1] 65) := Lib.hid (by rw [← hW0.out]; exact ((Bx.new w _ _).alloc _).alloc _)
  have X1 : Hid (Bx W0 (w.heap.size + 1) #[Value.slice none 0 0, Value.slice none 0 0] 67) := Lib.hid (by rw [← hW0.out]; have := (Bx.new (w.alloc (.cells #[Value.slice A0 n0 c0, Value.slice A1 n1 c1] 65)) #[Value.slice none 0 0, Value.slice none 0 0] 67); rw [World.size_alloc] at this; exact this.alloc _)
  have X2 : Hid (Bx W0 (w.heap.size + 1 + 1) #[Value.slice none 0 0, Value.slice none 0 0] 67) := Lib.hid (by rw [← hW0.out]; have := (Bx.new ((w.alloc (.cells #[Value.slice A0 n0 c0, Value.slice A1 n1 c1] 65)).alloc (.cells #[Value.slice none 0 0, Value.slice none 0 0] 67)) #[Value.slice none 0 0, Value.slice none 0 0] 67); rw [World.size_alloc, World.size_alloc] at this; exact this)
  rw [hW0.out]
  clear hW0
  refine (L_toIntS hi _ d0 W0 (H0.out.below (HB0.out.mono hh)) (by have := HB0.out.size; omega) hs0).mono ?_
  rintro e w1 ⟨v0, rfl, ho, hb⟩
  obtain ⟨B0, k0, q0, hv⟩ : ∃ B k q, v0 = .slice B k q := by obtain ⟨_, B, k, q, rfl, _⟩ := ho; exact ⟨_, _, _, rfl⟩
  subst hv
  have O0 := Lib.hid ho
  have HB1 : Hid (Below w.heap.size w w1) := Lib.hid (HB0.out.trans (hb.mono HB0.out.size))
  have Z1 := hb.size
  replace X0 := Lib.hid (X0.out.below hb X0.out.lt)
  replace X1 := Lib.hid (X1.out.below hb X1.out.lt)
  replace X2 := Lib.hid (X2.out.below hb X2.out.lt)
  clear ho hb
  have g0 : w1.cell? ⟨w.heap.size + 1 + 1, 0, none⟩ = some (Value.slice none 0 0) := X2.out.cell 0
  have f0 : w1.frozen? ⟨w.heap.size + 1 + 1, 0, none⟩ = false := X2.out.free 0
  replace X0 := Lib.hid (X0.out.other ⟨w.heap.size + 1 + 1, 0, none⟩ (Value.slice B0 k0 q0) (by simp; omega))
  replace X1 := Lib.hid (X1.out.other ⟨w.heap.size + 1 + 1, 0, none⟩ (Value.slice B0 k0 q0) (by simp))
  replace X2 := Lib.hid (X2.out.set 0 (Value.slice B0 k0 q0))
  have l1 : (w1.setCell ⟨w.heap.size + 1 + 1, 0, none⟩ (Value.slice B0 k0 q0)).cell? ⟨w.heap.size, 1, none⟩ = some (Value.slice A1 n1 c1) := X0.out.cell 1
  obtain ⟨W1, hW⟩ : ∃ W, Hid ((w1.setCell ⟨w.heap.size + 1 + 1, 0, none⟩ (Value.slice B0 k0 q0)) = W) := ⟨_, Lib.hid rfl⟩
  have hk : Kept (w.heap.size + 1 + 1) (w.heap.size + 1 + 1 + 1) w1 W1 := by rw [← hW.out]; exact ((Kept.refl (w.heap.size + 1 + 1) (w.heap.size + 1 + 1 + 1) w1).setCell (p := ⟨w.heap.size + 1 + 1, 0, none⟩) (Nat.le_refl _) (Nat.lt_succ_self _) (Value.slice B0 k0 q0))
  have HB2 : Hid (Below w.heap.size w W1) := Lib.hid (HB1.out.trans ((hk.to_below (by omega)).mono (by omega)))
  have Z2 := hk.size
  replace O0 := Lib.hid (O0.out.kept hk (by omega) (by omega))
  rw [hW.out] at X0
  rw [hW.out] at X1
  rw [hW.out] at X2
  clear hk
  go_wp2_with fail
  rw [hW.out]
  clear hW g0 f0 l1
  refine (L_toIntS hi _ d1 W1 (H1.out.below (HB2.out.mono hh)) (by have := HB2.out.size; omega) hs1).mono ?_
  rintro e w2 ⟨v1, rfl, ho, hb⟩
  obtain ⟨B1, k1, q1, hv⟩ : ∃ B k q, v1 = .slice B k q := by obtain ⟨_, B, k, q, rfl, _⟩ := ho; exact ⟨_, _, _, rfl⟩
  subst hv
  have O1 := Lib.hid ho
  have HB3 : Hid (Below w.heap.size w w2) := Lib.hid (HB2.out.trans (hb.mono HB2.out.size))
  have Z3 := hb.size
  replace X0 := Lib.hid (X0.out.below hb X0.out.lt)
  replace X1 := Lib.hid (X1.out.below hb X1.out.lt)
  replace X2 := Lib.hid (X2.out.below hb X2.out.lt)
  replace O0 := Lib.hid (O0.out.below hb (by omega))
  clear ho hb
  have Y1 := Lib.hid X1.out
  have g1 : w2.cell? ⟨w.heap.size + 1 + 1, 1, none⟩ = some (Value.slice none 0 0) := X2.out.cell 1
  have f1 : w2.frozen? ⟨w.heap.size + 1 + 1, 1, none⟩ = false := X2.out.free 1
  replace X0 := Lib.hid (X0.out.other ⟨w.heap.size + 1 + 1, 1, none⟩ (Value.slice B1 k1 q1) (by simp; omega))
  replace X1 := Lib.hid (X1.out.other ⟨w.heap.size + 1 + 1, 1, none⟩ (Value.slice B1 k1 q1) (by simp))
  replace X2 := Lib.hid (X2.out.set 1 (Value.slice B1 k1 q1))
  obtain ⟨W2, hW⟩ : ∃ W, Hid ((w2.setCell ⟨w.heap.size + 1 + 1, 1, none⟩ (Value.slice B1 k1 q1)) = W) := ⟨_, Lib.hid rfl⟩
  have hk : Kept (w.heap.size + 1 + 1) (w.heap.size + 1 + 1 + 1) w2 W2 := by rw [← hW.out]; exact ((Kept.refl (w.heap.size + 1 + 1) (w.heap.size + 1 + 1 + 1) w2).setCell (p := ⟨w.heap.size + 1 + 1, 1, none⟩) (Nat.le_refl _) (Nat.lt_succ_self _) (Value.slice B1 k1 q1))
  have HB4 : Hid (Below w.heap.size w W2) := Lib.hid (HB3.out.trans ((hk.to_below (by omega)).mono (by omega)))
  have Z4 := hk.size
  replace O0 := Lib.hid (O0.out.kept hk (by omega) (by omega))
  replace O1 := Lib.hid (O1.out.kept hk (by omega) (by omega))
  rw [hW.out] at X0
  rw [hW.out] at X1
  rw [hW.out] at X2
  have y0 : w2.cell? ⟨w.heap.size + 1, 0, none⟩ = some (Value.slice none 0 0) := Y1.out.cell 0
  have v0 : w2.frozen? ⟨w.heap.size + 1, 0, none⟩ = false := Y1.out.free 0
  have y1 : w2.cell? ⟨w.heap.size + 1, 1, none⟩ = some (Value.slice none 0 0) := Y1.out.cell 1
  have v1 : w2.frozen? ⟨w.heap.size + 1, 1, none⟩ = false := Y1.out.free 1
  have r0 : (w2.setCell ⟨w.heap.size + 1 + 1, 1, none⟩ (Value.slice B1 k1 q1)).cell? ⟨w.heap.size + 1 + 1, 0, none⟩ = some (Value.slice B0 k0 q0) := by rw [hW.out]; exact X2.out.cell 0
  have r1 : (w2.setCell ⟨w.heap.size + 1 + 1, 1, none⟩ (Value.slice B1 k1 q1)).cell? ⟨w.heap.size + 1 + 1, 1, none⟩ = some (Value.slice B1 k1 q1) := by rw [hW.out]; exact X2.out.cell 1
  clear hk
  go_wp2_with fail
  rw [hW.out]
  clear hW g1 f1 r0 r1 y0 v0 y1 v1
  obtain ⟨WF, hF⟩ : ∃ W, Hid (((W2.setCell ⟨w.heap.size + 1, 0, none⟩ (Value.slice B0 k0 q0)).setCell ⟨w.heap.size + 1, 1, none⟩ (Value.slice B1 k1 q1)) = W) := ⟨_, Lib.hid rfl⟩
  have XF : Hid (Bx WF (w.heap.size + 1) (#[Value.slice B0 k0 q0, Value.slice B1 k1 q1]) 67) := Lib.hid (by rw [← hF.out]; exact ((X1.out.set 0 (Value.slice B0 k0 q0)).set 1 (Value.slice B1 k1 q1)))
  have hk : Kept (w.heap.size + 1) (w.heap.size + 1 + 1) W2 WF := by rw [← hF.out]; exact (((Kept.refl (w.heap.size + 1) (w.heap.size + 1 + 1) W2).setCell (p := ⟨w.heap.size + 1, 0, none⟩) (Nat.le_refl _) (Nat.lt_succ_self _) (Value.slice B0 k0 q0)).setCell (p := ⟨w.heap.size + 1, 1, none⟩) (Nat.le_refl _) (Nat.lt_succ_self _) (Value.slice B1 k1 q1))
  have HBF : Below w.heap.size w WF := HB4.out.trans ((hk.to_below (by omega)).mono (by omega))
  have zf := hk.size
  have s0 : WF.cell? ⟨w.heap.size + 1, 0, none⟩ = some (Value.slice B0 k0 q0) := XF.out.cell 0
  have s1 : WF.cell? ⟨w.heap.size + 1, 1, none⟩ = some (Value.slice B1 k1 q1) := XF.out.cell 1
  rw [hF.out]
  refine bodyPost_ret (v := .agg #[Value.slice B0 k0 q0, Value.slice B1 k1 q1]) (by simp [results, Try.results41, go_sem, s0, s1]) rfl ⟨_, rfl, ⟨hs, _, _, _, _, _, _, W0.heap.size, w1.heap.size, W1.heap.size, w2.heap.size, rfl, ?_⟩, HBF⟩
  exact ⟨by omega, by omega, by omega, by omega, by omega, O0.out.kept hk (by omega) (by omega), O1.out.kept hk (by omega) (by omega)⟩

set_option maxHeartbeats 2000000 in
theorem L_eqMarked (hi hi' : Nat) (v v' : Value) (d : List Int × List Int) (w : World) (h : RdMarked w hi v d) (h' : RdMarked w hi' v' d) (hh : hi ≤ w.heap.size) (hh' : hi' ≤ w.heap.size) (hs : szMarked d ≤ 1048576) :
    Calls Try.prog 43 #[v, v'] w fun e w' => e = .returned (.bool true) ∧ Below w.heap.size w w' := by
  obtain ⟨A0, n0, c0, A1, n1, c1, rfl, h0, h1⟩ := h
  obtain ⟨A0', n0', c0', A1', n1', c1', rfl, j0, j1⟩ := h'
  obtain ⟨d0, d1⟩ := d
  have hs0 : szIntS d0 ≤ 1048576 := by unfold szMarked at hs; simp only at hs; omega
  have hs1 : szIntS d1 ≤ 1048576 := by unfold szMarked at hs; simp only at hs; omega
  have H0 := Lib.hid h0
  have J0 := Lib.hid j0
  clear h0 j0
  have H1 := Lib.hid h1
  have J1 := Lib.hid j1
  clear h1 j1
  go_enter Try.func43, Try.ntmps43
  go_wp2_with fail
  obtain ⟨W0, hW0⟩ : ∃ W, Hid (((w.alloc (.cells #[Value.slice A0 n0 c0, Value.slice A1 n1 c1] 67)).alloc (.cells #[Value.slice A0' n0' c0', Value.slice A1' n1' c1'] 67)) = W) := ⟨_, Lib.hid rfl⟩
  have HB0 : Hid (Below w.heap.size w W0) := Lib.hid (by rw [← hW0.out]; exact ((Below.refl _ _).alloc (Nat.le_refl _) _).alloc (by simp) _)
  have Z0 : W0.heap.size = w.heap.size + 1 + 1 := by rw [← hW0.out]; simp only [World.size_alloc]
  have X0 : Hid (Bx W0 (w.heap.size) #[Value.slice A0 n0 c0, Value.slice A1 n1 c1] 67) := Lib.hid (by rw [← hW0.out]; exact (Bx.new w _ _).alloc _)
  have X1 : Hid (Bx W0 (w.heap.size + 1) #[Value.slice A0' n0' c0', Value.slice A1' n1' c1'] 67) := Lib.hid (by rw [← hW0.out]; have := (Bx.new (w.alloc (.cells #[Value.slice A0 n0 c0, Value.slice A1 n1 c1] 67)) #[Value.slice A0' n0' c0', Value.slice A1' n1' c1'] 67); rw [World.size_alloc] at this; exact this)
  rw [hW0.out]
  clear hW0
  refine (L_eqIntS hi hi' _ _ d0 _ (H0.out.below (HB0.out.mono hh)) (J0.out.below (HB0.out.mono hh')) (by have := HB0.out.size; omega) (by have := HB0.out.size; omega) hs0).mono ?_
  rintro e w1 ⟨rfl, hb⟩
  have HB1 : Hid (Below w.heap.size w w1) := Lib.hid (HB0.out.trans (hb.mono HB0.out.size))
  replace X0 := Lib.hid (X0.out.below hb X0.out.lt)
  replace X1 := Lib.hid (X1.out.below hb X1.out.lt)
  clear hb
  have l1 : w1.cell? ⟨w.heap.size, 1, none⟩ = some (Value.slice A1 n1 c1) := X0.out.cell 1
  have r1 : w1.cell? ⟨w.heap.size + 1, 1, none⟩ = some (Value.slice A1' n1' c1') := X1.out.cell 1
  go_wp2_with fail
  refine (L_eqIntS hi hi' _ _ d1 _ (H1.out.below (HB1.out.mono hh)) (J1.out.below (HB1.out.mono hh')) (by have := HB1.out.size; omega) (by have := HB1.out.size; omega) hs1).mono ?_
  rintro e w2 ⟨rfl, hb⟩
  have HB2 : Hid (Below w.heap.size w w2) := Lib.hid (HB1.out.trans (hb.mono HB1.out.size))
  replace X0 := Lib.hid (X0.out.below hb X0.out.lt)
  replace X1 := Lib.hid (X1.out.below hb X1.out.lt)
  clear hb
  go_wp2
  go_ret
  exact ⟨rfl, HB2.out⟩

set_option maxHeartbeats 2000000 in
theorem L_szMarked_ok (hi : Nat) (v : Value) (d : List Int × List Int) (left : Int) (w : World) (h : RdMarked w hi v d) (hh : hi ≤ w.heap.size) (hl0 : 0 ≤ left) (hl1 : left ≤ 1048576) (hl : (szMarked d : Nat) ≤ left) :
    Calls Try.prog 39 #[v, .int .i64 left] w fun e w' => ∃ L', e = .returned (.int .i64 L') ∧ Hid (L' = left - szMarked d) ∧ 0 ≤ L' ∧ L' ≤ left ∧ Below w.heap.size w w' := by
  obtain ⟨A0, n0, c0, A1, n1, c1, rfl, h0, h1⟩ := h
  obtain ⟨d0, d1⟩ := d
  have hl2 := Lib.hid hl
  clear hl
  unfold szMarked at hl2 ⊢
  simp only at hl2 ⊢
  have H0 := Lib.hid h0
  clear h0
  have H1 := Lib.hid h1
  clear h1
  go_enter Try.func39, Try.ntmps39
  go_wp2_with fail
  obtain ⟨W0, hW0⟩ : ∃ W, Hid ((w.alloc (.cells #[Value.slice A0 n0 c0, Value.slice A1 n1 c1] 65)) = W) := ⟨_, Lib.hid rfl⟩
  have HB0 : Hid (Below w.heap.size w W0) := Lib.hid (by rw [← hW0.out]; exact (Below.refl _ _).alloc (Nat.le_refl _) _)
  have Z0 : W0.heap.size = w.heap.size + 1 := by rw [← hW0.out]; simp only [World.size_alloc]
  have X0 : Hid (Bx W0 (w.heap.size) #[Value.slice A0 n0 c0, Value.slice A1 n1 c1] 65) := Lib.hid (by rw [← hW0.out]; exact Bx.new w _ _)
  rw [hW0.out]
  clear hW0
  refine (L_szIntS_ok _ _ d0 left _ (H0.out.below (HB0.out.mono hh)) (by omega) (by omega) (by have := hl2.out; omega)).mono ?_
  rintro e w1 ⟨L1, rfl, hL1, p1, q1, hb⟩
  have HB1 : Hid (Below w.heap.size w w1) := Lib.hid (HB0.out.trans (hb.mono HB0.out.size))
  replace X0 := Lib.hid (X0.out.below hb X0.out.lt)
  clear hb
  have l1 : w1.cell? ⟨w.heap.size, 1, none⟩ = some (Value.slice A1 n1 c1) := X0.out.cell 1
  go_wp2_with fail
  refine (L_szIntS_ok _ _ d1 L1 _ (H1.out.below (HB1.out.mono hh)) (by omega) (by omega) (by have := hl2.out; have := hL1.out; omega)).mono ?_
  rintro e w2 ⟨L2, rfl, hL2, p2, q2, hb⟩
  have HB2 : Hid (Below w.heap.size w w2) := Lib.hid (HB1.out.trans (hb.mono HB1.out.size))
  replace X0 := Lib.hid (X0.out.below hb X0.out.lt)
  clear hb
  go_wp2
  go_ret
  exact ⟨_, rfl, Lib.hid (by have := hL1.out; have := hL2.out; omega), by omega, by omega, HB2.out⟩

set_option maxHeartbeats 4000000 in
theorem L_szMarked_no (hi : Nat) (v : Value) (d : List Int × List Int) (left : Int) (w : World) (h : RdMarked w hi v d) (hh : hi ≤ w.heap.size) (hl0 : 0 ≤ left) (hl1 : left ≤ 1048576) (hl : left < (szMarked d : Nat)) :
    Calls Try.prog 39 #[v, .int .i64 left] w fun e w' => e = .returned (.int .i64 (-1)) ∧ Below w.heap.size w w' := by
  obtain ⟨A0, n0, c0, A1, n1, c1, rfl, h0, h1⟩ := h
  obtain ⟨d0, d1⟩ := d
  have hl2 := Lib.hid hl
  clear hl
  unfold szMarked at hl2
  simp only at hl2
  have H0 := Lib.hid h0
  clear h0
  have H1 := Lib.hid h1
  clear h1
  by_cases hc1 : left < ((szIntS d0 : Nat) : Int)
  · go_enter Try.func39, Try.ntmps39
    go_wp2_with fail
    obtain ⟨W0, hW0⟩ : ∃ W, Hid ((w.alloc (.cells #[Value.slice A0 n0 c0, Value.slice A1 n1 c1] 65)) = W) := ⟨_, Lib.hid rfl⟩
    have HB0 : Hid (Below w.heap.size w W0) := Lib.hid (by rw [← hW0.out]; exact (Below.refl _ _).alloc (Nat.le_refl _) _)
    have Z0 : W0.heap.size = w.heap.size + 1 := by rw [← hW0.out]; simp only [World.size_alloc]
    have X0 : Hid (Bx W0 (w.heap.size) #[Value.slice A0 n0 c0, Value.slice A1 n1 c1] 65) := Lib.hid (by rw [← hW0.out]; exact Bx.new w _ _)
    rw [hW0.out]
    clear hW0
    refine (L_szIntS_no _ _ d0 left _ (H0.out.below (HB0.out.mono hh)) (by omega) (by omega) (by have := hl2.out; omega)).mono ?_
    rintro e w1 ⟨rfl, hb⟩
    have HB1 : Hid (Below w.heap.size w w1) := Lib.hid (HB0.out.trans (hb.mono HB0.out.size))
    clear hb
    go_wp2
    go_ret
    exact ⟨rfl, HB1.out⟩
  · go_enter Try.func39, Try.ntmps39
    go_wp2_with fail
    obtain ⟨W0, hW0⟩ : ∃ W, Hid ((w.alloc (.cells #[Value.slice A0 n0 c0, Value.slice A1 n1 c1] 65)) = W) := ⟨_, Lib.hid rfl⟩
    have HB0 : Hid (Below w.heap.size w W0) := Lib.hid (by rw [← hW0.out]; exact (Below.refl _ _).alloc (Nat.le_refl _) _)
    have Z0 : W0.heap.size = w.heap.size + 1 := by rw [← hW0.out]; simp only [World.size_alloc]
    have X0 : Hid (Bx W0 (w.heap.size) #[Value.slice A0 n0 c0, Value.slice A1 n1 c1] 65) := Lib.hid (by rw [← hW0.out]; exact Bx.new w _ _)
    rw [hW0.out]
    clear hW0
    refine (L_szIntS_ok _ _ d0 left _ (H0.out.below (HB0.out.mono hh)) (by omega) (by omega) (by have := hl2.out; omega)).mono ?_
    rintro e w1 ⟨L1, rfl, hL1, p1, q1, hb⟩
    have HB1 : Hid (Below w.heap.size w w1) := Lib.hid (HB0.out.trans (hb.mono HB0.out.size))
    replace X0 := Lib.hid (X0.out.below hb X0.out.lt)
    clear hb
    have l1 : w1.cell? ⟨w.heap.size, 1, none⟩ = some (Value.slice A1 n1 c1) := X0.out.cell 1
    go_wp2_with fail
    refine (L_szIntS_no _ _ d1 L1 _ (H1.out.below (HB1.out.mono hh)) (by omega) (by omega) (by have := hl2.out; have := hL1.out; omega)).mono ?_
    rintro e w2 ⟨rfl, hb⟩
    have HB2 : Hid (Below w.heap.size w w2) := Lib.hid (HB1.out.trans (hb.mono HB1.out.size))
    clear hb
    go_wp2
    go_ret
    exact ⟨rfl, HB2.out⟩

theorem sz_mkMarked (K : Int) (d : List Int × List Int) : szMarked (mkMarked K d) = szMarked d := by
  simp only [szMarked, mkMarked, szIntS, mkIntS, szIntS, mkIntS, iota_length, iota_length]
set_option maxHeartbeats 2000000 in
theorem L_markMarked (lo hi : Nat) (v : Value) (d : List Int × List Int) (K : Int) (w : World) (h : OwMarked w lo hi v d) (_hz : hi ≤ w.heap.size) (hK : 0 ≤ K) (hK2 : K ≤ 900000000) :
    Calls Try.prog 44 #[v, .int .i64 K] w fun e w' => ∃ K', e = .returned (.int .i64 K') ∧ Hid (K' = K + cntMarked d) ∧ 0 ≤ K' ∧ K' ≤ K + 2097152 ∧ OwMarked w' lo hi v (mkMarked K d) ∧ Kept lo hi w w' := by
  obtain ⟨hsz, A0, n0, c0, A1, n1, c1, s0, t0, s1, t1, rfl, l0, l1, l2, l3, l4, h0, h1⟩ := h
  obtain ⟨d0, d1⟩ := d
  have H0 := Lib.hid h0
  clear h0
  have H1 := Lib.hid h1
  clear h1
  go_enter Try.func44, Try.ntmps44
  go_wp2_with fail
  obtain ⟨W0, hW0⟩ : ∃ W, Hid ((w.alloc (.cells #[Value.slice A0 n0 c0, Value.slice A1 n1 c1] 67)) = W) := ⟨_, Lib.hid rfl⟩
  have HB0 : Hid (Below w.heap.size w W0) := Lib.hid (by rw [← hW0.out]; exact (Below.refl _ _).alloc (Nat.le_refl _) _)
  have Z0 : W0.heap.size = w.heap.size + 1 := by rw [← hW0.out]; simp only [World.size_alloc]
  have X0 : Hid (Bx W0 (w.heap.size) #[Value.slice A0 n0 c0, Value.slice A1 n1 c1] 67) := Lib.hid (by rw [← hW0.out]; exact Bx.new w _ _)
  rw [hW0.out]
  clear hW0
  have HK0 : Hid (Kept lo hi w W0) := Lib.hid ⟨HB0.out.os, HB0.out.tape, HB0.out.output, HB0.out.size, fun k hk _ => HB0.out.block k hk⟩
  replace H0 := Lib.hid (H0.out.below HB0.out (by omega))
  replace H1 := Lib.hid (H1.out.below HB0.out (by omega))
  refine (L_markIntS _ _ _ d0 K _ H0.out (by have := HK0.out.size; omega) (by omega) (by omega)).mono ?_
  rintro e w1 ⟨K1, rfl, hK1, p1, q1, ho, hk⟩
  have HK1 : Hid (Kept lo hi w w1) := Lib.hid (HK0.out.trans ⟨hk.os, hk.tape, hk.output, hk.size, fun k h1 h2 => hk.block k h1 (by omega)⟩)
  replace X0 := Lib.hid (X0.out.kept hk (by omega))
  replace H1 := Lib.hid (H1.out.kept hk (by have := HK0.out.size; omega) (by omega))
  replace H0 := Lib.hid ho
  clear ho hk
  have l1 : w1.cell? ⟨w.heap.size, 1, none⟩ = some (Value.slice A1 n1 c1) := X0.out.cell 1
  go_wp2_with fail
  refine (L_markIntS _ _ _ d1 K1 _ H1.out (by have := HK1.out.size; omega) (by omega) (by omega)).mono ?_
  rintro e w2 ⟨K2, rfl, hK2, p2, q2, ho, hk⟩
  have HK2 : Hid (Kept lo hi w w2) := Lib.hid (HK1.out.trans ⟨hk.os, hk.tape, hk.output, hk.size, fun k h1 h2 => hk.block k h1 (by omega)⟩)
  replace X0 := Lib.hid (X0.out.kept hk (by omega))
  replace H0 := Lib.hid (H0.out.kept hk (by have := HK1.out.size; omega) (by omega))
  replace H1 := Lib.hid ho
  clear ho hk
  have e1 : Hid (K1 = K + ((szIntS d0 : Nat) : Int)) := Lib.hid (by have := hK1.out; omega)
  have e2 : Hid (K2 = K + ((szIntS d0 : Nat) : Int) + ((szIntS d1 : Nat) : Int)) := Lib.hid (by have := hK1.out; have := hK2.out; omega)
  go_wp2
  go_ret
  refine ⟨_, rfl, Lib.hid (by rw [e2.out]; first | (simp only [cntMarked]; omega) | simp only [cntMarked]), by omega, by omega, ⟨(by rw [sz_mkMarked]; exact hsz), A0, n0, c0, A1, n1, c1, s0, t0, s1, t1, rfl, by omega, by omega, by omega, by omega, by omega, H0.out, by have := H1.out; rw [e1.out] at this; exact this⟩, HK2.out⟩

set_option maxHeartbeats 2000000 in
theorem L_heldMarked (hi : Nat) (v : Value) (d : List Int × List Int) (K q : Int) (w : World) (h : RdMarked w hi v (mkMarked K d)) (hz : hi ≤ w.heap.size) (hs : szMarked d ≤ 1048576) (hq : Hid (q = K)) (hK : 0 ≤ K) (hK2 : K ≤ 900000000) :
    Calls Try.prog 45 #[v, .int .i64 q] w fun e w' => ∃ K', e = .returned (.int .i64 K') ∧ Hid (K' = K + cntMarked d) ∧ 0 ≤ K' ∧ K' ≤ K + 2097152 ∧ Below w.heap.size w w' := by
  obtain ⟨d0, d1⟩ := d
  obtain ⟨A0, n0, c0, A1, n1, c1, rfl, h0, h1⟩ := h
  obtain rfl : q = K := hq.out
  have hs0 : szIntS d0 ≤ 1048576 := by unfold szMarked at hs; simp only at hs; omega
  have hs1 : szIntS d1 ≤ 1048576 := by unfold szMarked at hs; simp only at hs; omega
  have H0 : Hid (RdIntS w hi (.slice A0 n0 c0) (mkIntS (q) d0)) := Lib.hid h0
  clear h0
  have H1 : Hid (RdIntS w hi (.slice A1 n1 c1) (mkIntS (q + ((szIntS d0 : Nat) : Int)) d1)) := Lib.hid h1
  clear h1
  try simp only [mkMarked]
  go_enter Try.func45, Try.ntmps45
  go_wp2_with fail
  obtain ⟨W0, hW0⟩ : ∃ W, Hid ((w.alloc (.cells #[Value.slice A0 n0 c0, Value.slice A1 n1 c1] 67)) = W) := ⟨_, Lib.hid rfl⟩
  have HB0 : Hid (Below w.heap.size w W0) := Lib.hid (by rw [← hW0.out]; exact (Below.refl _ _).alloc (Nat.le_refl _) _)
  have Z0 : W0.heap.size = w.heap.size + 1 := by rw [← hW0.out]; simp only [World.size_alloc]
  have X0 : Hid (Bx W0 (w.heap.size) #[Value.slice A0 n0 c0, Value.slice A1 n1 c1] 67) := Lib.hid (by rw [← hW0.out]; exact Bx.new w _ _)
  rw [hW0.out]
  clear hW0
  refine (L_heldIntS hi _ d0 (q) q _ (H0.out.below (HB0.out.mono hz)) (by have := HB0.out.size; omega) hs0 (Lib.hid rfl) (by omega) (by omega)).mono ?_
  rintro e w1 ⟨K1, rfl, hK1, p1, q1, hb⟩
  have HB1 : Hid (Below w.heap.size w w1) := Lib.hid (HB0.out.trans (hb.mono HB0.out.size))
  replace X0 := Lib.hid (X0.out.below hb X0.out.lt)
  clear hb
  have e1 : Hid (K1 = q + ((szIntS d0 : Nat) : Int)) := Lib.hid (by have := hK1.out; omega)
  have l1 : w1.cell? ⟨w.heap.size, 1, none⟩ = some (Value.slice A1 n1 c1) := X0.out.cell 1
  go_wp2_with fail
  refine (L_heldIntS hi _ d1 (q + ((szIntS d0 : Nat) : Int)) K1 _ (H1.out.below (HB1.out.mono hz)) (by have := HB1.out.size; omega) hs1 e1 (by omega) (by have := e1.out; omega)).mono ?_
  rintro e w2 ⟨K2, rfl, hK2, p2, q2, hb⟩
  have HB2 : Hid (Below w.heap.size w w2) := Lib.hid (HB1.out.trans (hb.mono HB1.out.size))
  replace X0 := Lib.hid (X0.out.below hb X0.out.lt)
  clear hb
  have e2 : Hid (K2 = q + ((szIntS d0 : Nat) : Int) + ((szIntS d1 : Nat) : Int)) := Lib.hid (by have := hK2.out; omega)
  go_wp2
  go_ret
  exact ⟨_, rfl, Lib.hid (by rw [e2.out]; first | (simp only [cntMarked]; omega) | simp only [cntMarked]), by omega, by have := e1.out; have := e2.out; omega, HB2.out⟩
end Go.Proofs.Ytipdflbnnmghdaa
