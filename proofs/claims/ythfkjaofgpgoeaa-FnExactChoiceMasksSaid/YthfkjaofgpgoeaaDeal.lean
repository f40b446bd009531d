/- The struct Deal: what reads, what is owned; the laws' helpers. Made by tools/gencomp.py. -/
import Derived.Test.YthfkjaofgpgoeaaBx
namespace Go.Proofs.Ythfkjaofgpgoeaa
open Go.RowKit
set_option maxRecDepth 100000
def RdDeal (w : World) (hi : Nat) (v : Value) (d : List Int × Int) : Prop :=
  ∃ A0 n0 c0, v = .agg #[.slice A0 n0 c0, .int .i64 (d.2)] ∧ RdIntS w hi (.slice A0 n0 c0) (d.1)
def szDeal (d : List Int × Int) : Nat := szIntS (d.1)
def cntDeal (d : List Int × Int) : Nat := szIntS (d.1)
def OwDeal (w : World) (lo hi : Nat) (v : Value) (d : List Int × Int) : Prop :=
  szDeal d ≤ 1048576 ∧ ∃ A0 n0 c0 s0 t0, v = .agg #[.slice A0 n0 c0, .int .i64 (d.2)] ∧ lo ≤ s0 ∧ t0 ≤ hi ∧ OwIntS w s0 t0 (.slice A0 n0 c0) (d.1)
def mkDeal (K : Int) (d : List Int × Int) : List Int × Int := (mkIntS (K) (d.1), d.2)
section
variable {w w' : World} {lo hi lo' hi' B mid : Nat} {v : Value} {d : List Int × Int}
theorem RdDeal.below (h : RdDeal w hi v d) (hb : Below hi w w') : RdDeal w' hi v d := by
  obtain ⟨A0, n0, c0, rfl, h0⟩ := h; exact ⟨A0, n0, c0, rfl, h0.below hb⟩
theorem RdDeal.more (h : RdDeal w hi v d) (hh : hi ≤ hi') : RdDeal w hi' v d := by
  obtain ⟨A0, n0, c0, rfl, h0⟩ := h; exact ⟨A0, n0, c0, rfl, h0.more hh⟩
theorem OwDeal.small (h : OwDeal w lo hi v d) : szDeal d ≤ 1048576 := h.1
theorem OwDeal.rd (h : OwDeal w lo hi v d) : RdDeal w hi v d := by
  obtain ⟨_, A0, n0, c0, s0, t0, rfl, l0, l1, h0⟩ := h; exact ⟨A0, n0, c0, rfl, h0.rd.more (by omega)⟩
theorem OwDeal.below (h : OwDeal w lo hi v d) (hb : Below B w w') (hz : hi ≤ B) : OwDeal w' lo hi v d := by
  obtain ⟨hsz, A0, n0, c0, s0, t0, rfl, l0, l1, h0⟩ := h; exact ⟨hsz, A0, n0, c0, s0, t0, rfl, l0, l1, h0.below hb (by omega)⟩
theorem OwDeal.kept (h : OwDeal w lo hi v d) (hk : Kept lo' mid w w') (hz : hi ≤ w.heap.size) (hd : mid ≤ lo ∨ hi ≤ lo') : OwDeal w' lo hi v d := by
  obtain ⟨hsz, A0, n0, c0, s0, t0, rfl, l0, l1, h0⟩ := h; exact ⟨hsz, A0, n0, c0, s0, t0, rfl, l0, l1, h0.kept hk (by omega) (by omega)⟩
theorem OwDeal.widen (h : OwDeal w lo hi v d) (h1 : lo' ≤ lo) (h2 : hi ≤ hi') : OwDeal w lo' hi' v d := by
  obtain ⟨hsz, A0, n0, c0, s0, t0, rfl, l0, l1, r0⟩ := h; exact ⟨hsz, A0, n0, c0, s0, t0, rfl, by omega, by omega, r0⟩
end

set_option maxHeartbeats 2000000 in
theorem L_toDeal (hi : Nat) (v : Value) (d : List Int × Int) (w : World) (h : RdDeal w hi v d) (hh : hi ≤ w.heap.size) (hs : szDeal d ≤ 1048576) :
    Calls Try.prog 49 #[v] w fun e w' => ∃ v', e = .returned v' ∧ OwDeal w' w.heap.size w'.heap.size v' d ∧ Below w.heap.size w w' := by
  obtain ⟨A0, n0, c0, rfl, h0⟩ := h
  obtain ⟨d0, z1⟩ := d
  have hs0 : szIntS d0 ≤ 1048576 := by unfold szDeal at hs; simp only at hs; omega
  have H0 := Lib.hid h0
  clear h0
  go_enter Try.func49, Try.ntmps49
  go_wp2_with fail
  obtain ⟨W0, hW0⟩ : ∃ W, Hid ((((w.alloc (.cells #[Value.slice A0 n0 c0, Value.int .i64 z1] 50)).alloc (.cells #[Value.slice none 0 0, Value.int .i64 0] 53)).alloc (.cells #[Value.slice none 0 0, Value.int .i64 0] 53)) = W) := ⟨_, Lib.hid rfl⟩
  have HB0 : Hid (Below w.heap.size w W0) := Lib.hid (by rw [← hW0.out]; exact (((Below.refl _ _).alloc (Nat.le_refl _) _).alloc (by simp) _).alloc (by simp; omega) _)
  have Z0 : W0.heap.size = w.heap.size + 1 + 1 + 1 := by rw [← hW0.out]; simp only [World.size_alloc]
  have X0 : Hid (Bx W0 (w.heap.size) #[Value.slice A0 n0 c0, Value.int .i64 z1] 50) := Lib.hid (by rw [← hW0.out]; exact ((Bx.new w _ _).alloc _).alloc _)
  have X1 : Hid (Bx W0 (w.heap.size + 1) #[Value.slice none 0 0, Value.int .i64 0] 53) := Lib.hid (by rw [← hW0.out]; have := (Bx.new (w.alloc (.cells #[Value.slice A0 n0 c0, Value.int .i64 z1] 50)) #[Value.slice none 0 0, Value.int .i64 0] 53); rw [World.size_alloc] at this; exact this.alloc _)
  have X2 : Hid (Bx W0 (w.heap.size + 1 + 1) #[Value.slice none 0 0, Value.int .i64 0] 53) := Lib.hid (by rw [← hW0.out]; have := (Bx.new ((w.alloc (.cells #[Value.slice A0 n0 c0, Value.int .i64 z1] 50)).alloc (.cells #[Value.slice none 0 0, Value.int .i64 0] 53)) #[Value.slice none 0 0, Value.int .i64 0] 53); rw [World.size_alloc, World.size_alloc] at this; exact this)
  rw [hW0.out]
  clear hW0
  refine (L_toIntS hi _ d0 W0 (H0.out.below (HB0.out.mono hh)) (by have := HB0.out.size; omega) hs0).mono ?_
  rintro e w1 ⟨v0, rfl, ho, hb⟩
  obtain ⟨B0, k0, q0, hv⟩ : ∃ B k q, v0 = .slice B k q := by obtain ⟨_, B, k, q, rfl, _⟩ := ho; exact ⟨_, _, _, rfl⟩
  subst hv
  have O0 := Lib.hid ho
  have HB1 : Hid (Below w.heap.size w w1) := Lib.hid (HB0.out.trans (hb.mono HB0.out.size))
  have Z1 := hb.size
  replace X0 := Lib.hid (X0.out.below hb X0.out.lt)
  replace X1 := Lib.hid (X1.out.below hb X1.out.lt)
  replace X2 := Lib.hid (X2.out.below hb X2.out.lt)
  clear ho hb
  have Y1 := Lib.hid X1.out
  have g0 : w1.cell? ⟨w.heap.size + 1 + 1, 0, none⟩ = some (Value.slice none 0 0) := X2.out.cell 0
  have f0 : w1.frozen? ⟨w.heap.size + 1 + 1, 0, none⟩ = false := X2.out.free 0
  replace X0 := Lib.hid (X0.out.other ⟨w.heap.size + 1 + 1, 0, none⟩ (Value.slice B0 k0 q0) (by simp; omega))
  replace X1 := Lib.hid (X1.out.other ⟨w.heap.size + 1 + 1, 0, none⟩ (Value.slice B0 k0 q0) (by simp))
  replace X2 := Lib.hid (X2.out.set 0 (Value.slice B0 k0 q0))
  have l1 : (w1.setCell ⟨w.heap.size + 1 + 1, 0, none⟩ (Value.slice B0 k0 q0)).cell? ⟨w.heap.size, 1, none⟩ = some (Value.int .i64 z1) := X0.out.cell 1
  have g1 : (w1.setCell ⟨w.heap.size + 1 + 1, 0, none⟩ (Value.slice B0 k0 q0)).cell? ⟨w.heap.size + 1 + 1, 1, none⟩ = some (Value.int .i64 0) := X2.out.cell 1
  have f1 : (w1.setCell ⟨w.heap.size + 1 + 1, 0, none⟩ (Value.slice B0 k0 q0)).frozen? ⟨w.heap.size + 1 + 1, 1, none⟩ = false := X2.out.free 1
  replace X0 := Lib.hid (X0.out.other ⟨w.heap.size + 1 + 1, 1, none⟩ (Value.int .i64 z1) (by simp; omega))
  replace X1 := Lib.hid (X1.out.other ⟨w.heap.size + 1 + 1, 1, none⟩ (Value.int .i64 z1) (by simp))
  replace X2 := Lib.hid (X2.out.set 1 (Value.int .i64 z1))
  obtain ⟨W1, hW⟩ : ∃ W, Hid (((w1.setCell ⟨w.heap.size + 1 + 1, 0, none⟩ (Value.slice B0 k0 q0)).setCell ⟨w.heap.size + 1 + 1, 1, none⟩ (Value.int .i64 z1)) = W) := ⟨_, Lib.hid rfl⟩
  have hk : Kept (w.heap.size + 1 + 1) (w.heap.size + 1 + 1 + 1) w1 W1 := by rw [← hW.out]; exact (((Kept.refl (w.heap.size + 1 + 1) (w.heap.size + 1 + 1 + 1) w1).setCell (p := ⟨w.heap.size + 1 + 1, 0, none⟩) (Nat.le_refl _) (Nat.lt_succ_self _) (Value.slice B0 k0 q0)).setCell (p := ⟨w.heap.size + 1 + 1, 1, none⟩) (Nat.le_refl _) (Nat.lt_succ_self _) (Value.int .i64 z1))
  have HB2 : Hid (Below w.heap.size w W1) := Lib.hid (HB1.out.trans ((hk.to_below (by omega)).mono (by omega)))
  have Z2 := hk.size
  replace O0 := Lib.hid (O0.out.kept hk (by omega) (by omega))
  rw [hW.out] at X0
  rw [hW.out] at X1
  rw [hW.out] at X2
  have y0 : w1.cell? ⟨w.heap.size + 1, 0, none⟩ = some (Value.slice none 0 0) := Y1.out.cell 0
  have v0 : w1.frozen? ⟨w.heap.size + 1, 0, none⟩ = false := Y1.out.free 0
  have y1 : w1.cell? ⟨w.heap.size + 1, 1, none⟩ = some (Value.int .i64 0) := Y1.out.cell 1
  have v1 : w1.frozen? ⟨w.heap.size + 1, 1, none⟩ = false := Y1.out.free 1
  have r0 : ((w1.setCell ⟨w.heap.size + 1 + 1, 0, none⟩ (Value.slice B0 k0 q0)).setCell ⟨w.heap.size + 1 + 1, 1, none⟩ (Value.int .i64 z1)).cell? ⟨w.heap.size + 1 + 1, 0, none⟩ = some (Value.slice B0 k0 q0) := by rw [hW.out]; exact X2.out.cell 0
  have r1 : ((w1.setCell ⟨w.heap.size + 1 + 1, 0, none⟩ (Value.slice B0 k0 q0)).setCell ⟨w.heap.size + 1 + 1, 1, none⟩ (Value.int .i64 z1)).cell? ⟨w.heap.size + 1 + 1, 1, none⟩ = some (Value.int .i64 z1) := by rw [hW.out]; exact X2.out.cell 1
  clear hk
  go_wp2_with fail
  rw [hW.out]
  clear hW g0 f0 l1 g1 f1 r0 r1 y0 v0 y1 v1
  obtain ⟨WF, hF⟩ : ∃ W, Hid (((W1.setCell ⟨w.heap.size + 1, 0, none⟩ (Value.slice B0 k0 q0)).setCell ⟨w.heap.size + 1, 1, none⟩ (Value.int .i64 z1)) = W) := ⟨_, Lib.hid rfl⟩
  have XF : Hid (Bx WF (w.heap.size + 1) (#[Value.slice B0 k0 q0, Value.int .i64 z1]) 53) := Lib.hid (by rw [← hF.out]; exact ((X1.out.set 0 (Value.slice B0 k0 q0)).set 1 (Value.int .i64 z1)))
  have hk : Kept (w.heap.size + 1) (w.heap.size + 1 + 1) W1 WF := by rw [← hF.out]; exact (((Kept.refl (w.heap.size + 1) (w.heap.size + 1 + 1) W1).setCell (p := ⟨w.heap.size + 1, 0, none⟩) (Nat.le_refl _) (Nat.lt_succ_self _) (Value.slice B0 k0 q0)).setCell (p := ⟨w.heap.size + 1, 1, none⟩) (Nat.le_refl _) (Nat.lt_succ_self _) (Value.int .i64 z1))
  have HBF : Below w.heap.size w WF := HB2.out.trans ((hk.to_below (by omega)).mono (by omega))
  have zf := hk.size
  have s0 : WF.cell? ⟨w.heap.size + 1, 0, none⟩ = some (Value.slice B0 k0 q0) := XF.out.cell 0
  have s1 : WF.cell? ⟨w.heap.size + 1, 1, none⟩ = some (Value.int .i64 z1) := XF.out.cell 1
  rw [hF.out]
  refine bodyPost_ret (v := .agg #[Value.slice B0 k0 q0, Value.int .i64 z1]) (by simp [results, Try.results49, go_sem, s0, s1]) rfl ⟨_, rfl, ⟨hs, _, _, _, W0.heap.size, w1.heap.size, rfl, ?_⟩, HBF⟩
  exact ⟨by omega, by omega, O0.out.kept hk (by omega) (by omega)⟩

set_option maxHeartbeats 2000000 in
theorem L_eqDeal (hi hi' : Nat) (v v' : Value) (d : List Int × Int) (w : World) (h : RdDeal w hi v d) (h' : RdDeal w hi' v' d) (hh : hi ≤ w.heap.size) (hh' : hi' ≤ w.heap.size) (hs : szDeal d ≤ 1048576) :
    Calls Try.prog 51 #[v, v'] w fun e w' => e = .returned (.bool true) ∧ Below w.heap.size w w' := by
  obtain ⟨A0, n0, c0, rfl, h0⟩ := h
  obtain ⟨A0', n0', c0', rfl, j0⟩ := h'
  obtain ⟨d0, z1⟩ := d
  have hs0 : szIntS d0 ≤ 1048576 := by unfold szDeal at hs; simp only at hs; omega
  have H0 := Lib.hid h0
  have J0 := Lib.hid j0
  clear h0 j0
  go_enter Try.func51, Try.ntmps51
  go_wp2_with fail
  obtain ⟨W0, hW0⟩ : ∃ W, Hid (((w.alloc (.cells #[Value.slice A0 n0 c0, Value.int .i64 z1] 53)).alloc (.cells #[Value.slice A0' n0' c0', Value.int .i64 z1] 53)) = W) := ⟨_, Lib.hid rfl⟩
  have HB0 : Hid (Below w.heap.size w W0) := Lib.hid (by rw [← hW0.out]; exact ((Below.refl _ _).alloc (Nat.le_refl _) _).alloc (by simp) _)
  have Z0 : W0.heap.size = w.heap.size + 1 + 1 := by rw [← hW0.out]; simp only [World.size_alloc]
  have X0 : Hid (Bx W0 (w.heap.size) #[Value.slice A0 n0 c0, Value.int .i64 z1] 53) := Lib.hid (by rw [← hW0.out]; exact (Bx.new w _ _).alloc _)
  have X1 : Hid (Bx W0 (w.heap.size + 1) #[Value.slice A0' n0' c0', Value.int .i64 z1] 53) := Lib.hid (by rw [← hW0.out]; have := (Bx.new (w.alloc (.cells #[Value.slice A0 n0 c0, Value.int .i64 z1] 53)) #[Value.slice A0' n0' c0', Value.int .i64 z1] 53); rw [World.size_alloc] at this; exact this)
  rw [hW0.out]
  clear hW0
  refine (L_eqIntS hi hi' _ _ d0 _ (H0.out.below (HB0.out.mono hh)) (J0.out.below (HB0.out.mono hh')) (by have := HB0.out.size; omega) (by have := HB0.out.size; omega) hs0).mono ?_
  rintro e w1 ⟨rfl, hb⟩
  have HB1 : Hid (Below w.heap.size w w1) := Lib.hid (HB0.out.trans (hb.mono HB0.out.size))
  replace X0 := Lib.hid (X0.out.below hb X0.out.lt)
  replace X1 := Lib.hid (X1.out.below hb X1.out.lt)
  clear hb
  have l1 : w1.cell? ⟨w.heap.size, 1, none⟩ = some (Value.int .i64 z1) := X0.out.cell 1
  have r1 : w1.cell? ⟨w.heap.size + 1, 1, none⟩ = some (Value.int .i64 z1) := X1.out.cell 1
  go_wp2
  go_ret
  exact ⟨rfl, HB1.out⟩

set_option maxHeartbeats 2000000 in
theorem L_szDeal_ok (hi : Nat) (v : Value) (d : List Int × Int) (left : Int) (w : World) (h : RdDeal w hi v d) (hh : hi ≤ w.heap.size) (hl0 : 0 ≤ left) (hl1 : left ≤ 1048576) (hl : (szDeal d : Nat) ≤ left) :
    Calls Try.prog 47 #[v, .int .i64 left] w fun e w' => ∃ L', e = .returned (.int .i64 L') ∧ Hid (L' = left - szDeal d) ∧ 0 ≤ L' ∧ L' ≤ left ∧ Below w.heap.size w w' := by
  obtain ⟨A0, n0, c0, rfl, h0⟩ := h
  obtain ⟨d0, z1⟩ := d
  have hl2 := Lib.hid hl
  clear hl
  unfold szDeal at hl2 ⊢
  simp only at hl2 ⊢
  have H0 := Lib.hid h0
  clear h0
  go_enter Try.func47, Try.ntmps47
  go_wp2_with fail
  obtain ⟨W0, hW0⟩ : ∃ W, Hid ((w.alloc (.cells #[Value.slice A0 n0 c0, Value.int .i64 z1] 50)) = W) := ⟨_, Lib.hid rfl⟩
  have HB0 : Hid (Below w.heap.size w W0) := Lib.hid (by rw [← hW0.out]; exact (Below.refl _ _).alloc (Nat.le_refl _) _)
  have Z0 : W0.heap.size = w.heap.size + 1 := by rw [← hW0.out]; simp only [World.size_alloc]
  have X0 : Hid (Bx W0 (w.heap.size) #[Value.slice A0 n0 c0, Value.int .i64 z1] 50) := Lib.hid (by rw [← hW0.out]; exact Bx.new w _ _)
  rw [hW0.out]
  clear hW0
  refine (L_szIntS_ok _ _ d0 left _ (H0.out.below (HB0.out.mono hh)) (by omega) (by omega) (by have := hl2.out; omega)).mono ?_
  rintro e w1 ⟨L1, rfl, hL1, p1, q1, hb⟩
  have HB1 : Hid (Below w.heap.size w w1) := Lib.hid (HB0.out.trans (hb.mono HB0.out.size))
  replace X0 := Lib.hid (X0.out.below hb X0.out.lt)
  clear hb
  go_wp2
  go_ret
  exact ⟨_, rfl, Lib.hid (by have := hL1.out; omega), by omega, by omega, HB1.out⟩

set_option maxHeartbeats 4000000 in
theorem L_szDeal_no (hi : Nat) (v : Value) (d : List Int × Int) (left : Int) (w : World) (h : RdDeal w hi v d) (hh : hi ≤ w.heap.size) (hl0 : 0 ≤ left) (hl1 : left ≤ 1048576) (hl : left < (szDeal d : Nat)) :
    Calls Try.prog 47 #[v, .int .i64 left] w fun e w' => e = .returned (.int .i64 (-1)) ∧ Below w.heap.size w w' := by
  obtain ⟨A0, n0, c0, rfl, h0⟩ := h
  obtain ⟨d0, z1⟩ := d
  have hl2 := Lib.hid hl
  clear hl
  unfold szDeal at hl2
  simp only at hl2
  have H0 := Lib.hid h0
  clear h0
  by_cases hc1 : left < ((szIntS d0 : Nat) : Int)
  · go_enter Try.func47, Try.ntmps47
    go_wp2_with fail
    obtain ⟨W0, hW0⟩ : ∃ W, Hid ((w.alloc (.cells #[Value.slice A0 n0 c0, Value.int .i64 z1] 50)) = W) := ⟨_, Lib.hid rfl⟩
    have HB0 : Hid (Below w.heap.size w W0) := Lib.hid (by rw [← hW0.out]; exact (Below.refl _ _).alloc (Nat.le_refl _) _)
    have Z0 : W0.heap.size = w.heap.size + 1 := by rw [← hW0.out]; simp only [World.size_alloc]
    have X0 : Hid (Bx W0 (w.heap.size) #[Value.slice A0 n0 c0, Value.int .i64 z1] 50) := Lib.hid (by rw [← hW0.out]; exact Bx.new w _ _)
    rw [hW0.out]
    clear hW0
    refine (L_szIntS_no _ _ d0 left _ (H0.out.below (HB0.out.mono hh)) (by omega) (by omega) (by have := hl2.out; omega)).mono ?_
    rintro e w1 ⟨rfl, hb⟩
    have HB1 : Hid (Below w.heap.size w w1) := Lib.hid (HB0.out.trans (hb.mono HB0.out.size))
    clear hb
    go_wp2
    go_ret
    exact ⟨rfl, HB1.out⟩
  · have := hl2.out; omega

theorem sz_mkDeal (K : Int) (d : List Int × Int) : szDeal (mkDeal K d) = szDeal d := by
  simp only [szDeal, mkDeal, szIntS, mkIntS, iota_length]
set_option maxHeartbeats 2000000 in
theorem L_markDeal (lo hi : Nat) (v : Value) (d : List Int × Int) (K : Int) (w : World) (h : OwDeal w lo hi v d) (_hz : hi ≤ w.heap.size) (hK : 0 ≤ K) (hK2 : K ≤ 900000000) :
    Calls Try.prog 56 #[v, .int .i64 K] w fun e w' => ∃ K', e = .returned (.int .i64 K') ∧ Hid (K' = K + cntDeal d) ∧ 0 ≤ K' ∧ K' ≤ K + 1048576 ∧ OwDeal w' lo hi v (mkDeal K d) ∧ Kept lo hi w w' := by
  obtain ⟨hsz, A0, n0, c0, s0, t0, rfl, l0, l1, h0⟩ := h
  obtain ⟨d0, z1⟩ := d
  have H0 := Lib.hid h0
  clear h0
  go_enter Try.func56, Try.ntmps56
  go_wp2_with fail
  obtain ⟨W0, hW0⟩ : ∃ W, Hid ((w.alloc (.cells #[Value.slice A0 n0 c0, Value.int .i64 z1] 53)) = W) := ⟨_, Lib.hid rfl⟩
  have HB0 : Hid (Below w.heap.size w W0) := Lib.hid (by rw [← hW0.out]; exact (Below.refl _ _).alloc (Nat.le_refl _) _)
  have Z0 : W0.heap.size = w.heap.size + 1 := by rw [← hW0.out]; simp only [World.size_alloc]
  have X0 : Hid (Bx W0 (w.heap.size) #[Value.slice A0 n0 c0, Value.int .i64 z1] 53) := Lib.hid (by rw [← hW0.out]; exact Bx.new w _ _)
  rw [hW0.out]
  clear hW0
  have HK0 : Hid (Kept lo hi w W0) := Lib.hid ⟨HB0.out.os, HB0.out.tape, HB0.out.output, HB0.out.size, fun k hk _ => HB0.out.block k hk⟩
  replace H0 := Lib.hid (H0.out.below HB0.out (by omega))
  refine (L_markIntS _ _ _ d0 K _ H0.out (by have := HK0.out.size; omega) (by omega) (by omega)).mono ?_
  rintro e w1 ⟨K1, rfl, hK1, p1, q1, ho, hk⟩
  have HK1 : Hid (Kept lo hi w w1) := Lib.hid (HK0.out.trans ⟨hk.os, hk.tape, hk.output, hk.size, fun k h1 h2 => hk.block k h1 (by omega)⟩)
  replace X0 := Lib.hid (X0.out.kept hk (by omega))
  replace H0 := Lib.hid ho
  clear ho hk
  have e1 : Hid (K1 = K + ((szIntS d0 : Nat) : Int)) := Lib.hid (by have := hK1.out; omega)
  go_wp2
  go_ret
  refine ⟨_, rfl, Lib.hid (by rw [e1.out]; first | (simp only [cntDeal]; omega) | simp only [cntDeal]), by omega, by omega, ⟨(by rw [sz_mkDeal]; exact hsz), A0, n0, c0, s0, t0, rfl, by omega, by omega, H0.out⟩, HK1.out⟩

end Go.Proofs.Ythfkjaofgpgoeaa
