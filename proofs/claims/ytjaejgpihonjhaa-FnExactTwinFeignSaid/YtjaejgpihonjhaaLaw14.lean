/- The walks of chapter 14's exact laws. Made by tools/gen14/laws.py. -/
import Derived.Test.YtjaejgpihonjhaaWalk14c
import Derived.Test.YtjaejgpihonjhaaFProof
import Derived.Test.YtjaejgpihonjhaaFTwin
import Derived.Test.YtjaejgpihonjhaaFPair
import Derived.Test.YtjaejgpihonjhaaFlat
namespace Go.Proofs.Ytjaejgpihonjhaa
open Go.RowKit
set_option maxRecDepth 100000

set_option maxHeartbeats 4000000 in
theorem ProofMake_walk (aSecret : Int) (aNonce : Int) (aChal : Int) (w : World) (_w_aSecret : (Lit.int .i64 aSecret).wf = true) (_w_aNonce : (Lit.int .i64 aNonce).wf = true) (_w_aChal : (Lit.int .i64 aChal).wf = true) :
    Calls Try.prog 3 #[.int .i64 aSecret, .int .i64 aNonce, .int .i64 aChal] w fun e w' => e = .returned (.bool true) ∧ Below w.heap.size w w' := by
  have HB := Lib.hid (Below.refl w.heap.size w)
  go_enter Try.func3, Try.ntmps3
  go_wp2_with fail
  refine (X_s_ProofMake aSecret aNonce aChal _).mono ?_
  rintro e w1 ⟨rfl, hb⟩
  have z1 : w.heap.size ≤ w1.heap.size := hb.size
  replace HB := Lib.hid (HB.out.trans (hb.mono (by omega)))
  clear hb
  go_wp2_with fail
  obtain ⟨w2, hW2⟩ : ∃ W, Hid (w1.alloc (.cells #[.int .i64 (makeD aSecret aNonce aChal).1, .int .i64 (makeD aSecret aNonce aChal).2.1, .int .i64 (makeD aSecret aNonce aChal).2.2] 23) = W) := ⟨_, Lib.hid rfl⟩
  try rw [hW2.out]
  have z2 : w1.heap.size < w2.heap.size := by rw [← hW2.out, World.size_alloc]; omega
  have ha2 : Below w1.heap.size w1 w2 := by rw [← hW2.out]; exact (Below.refl _ _).alloc (Nat.le_refl _) _
  have HX_w0 : Hid (Bx w2 w1.heap.size #[.int .i64 (makeD aSecret aNonce aChal).1, .int .i64 (makeD aSecret aNonce aChal).2.1, .int .i64 (makeD aSecret aNonce aChal).2.2] 23) := Lib.hid (by rw [← hW2.out]; exact Bx.new _ _ _)
  replace HB := Lib.hid (HB.out.trans (ha2.mono (by omega)))
  clear ha2 hW2
  refine (X_i_ProofMake aSecret aNonce aChal _).mono ?_
  rintro e w3 ⟨rfl, hb⟩
  have z3 : w2.heap.size ≤ w3.heap.size := hb.size
  replace HX_w0 := Lib.hid (HX_w0.out.below hb HX_w0.out.lt)
  replace HB := Lib.hid (HB.out.trans (hb.mono (by omega)))
  clear hb
  have fc4 : (w3.alloc (.cells #[.int .i64 (makeD aSecret aNonce aChal).1, .int .i64 (makeD aSecret aNonce aChal).2.1, .int .i64 (makeD aSecret aNonce aChal).2.2] 23)).cell? ⟨w1.heap.size, 0, none⟩ = some (.int .i64 (makeD aSecret aNonce aChal).1) := (HX_w0.out.alloc _).cell 0
  have fc5 : (w3.alloc (.cells #[.int .i64 (makeD aSecret aNonce aChal).1, .int .i64 (makeD aSecret aNonce aChal).2.1, .int .i64 (makeD aSecret aNonce aChal).2.2] 23)).cell? ⟨w1.heap.size, 1, none⟩ = some (.int .i64 (makeD aSecret aNonce aChal).2.1) := (HX_w0.out.alloc _).cell 1
  have fc6 : (w3.alloc (.cells #[.int .i64 (makeD aSecret aNonce aChal).1, .int .i64 (makeD aSecret aNonce aChal).2.1, .int .i64 (makeD aSecret aNonce aChal).2.2] 23)).cell? ⟨w1.heap.size, 2, none⟩ = some (.int .i64 (makeD aSecret aNonce aChal).2.2) := (HX_w0.out.alloc _).cell 2
  go_wp2_with fail
  clear fc4 fc5 fc6
  obtain ⟨w7, hW7⟩ : ∃ W, Hid (w3.alloc (.cells #[.int .i64 (makeD aSecret aNonce aChal).1, .int .i64 (makeD aSecret aNonce aChal).2.1, .int .i64 (makeD aSecret aNonce aChal).2.2] 23) = W) := ⟨_, Lib.hid rfl⟩
  try rw [hW7.out]
  have z7 : w3.heap.size < w7.heap.size := by rw [← hW7.out, World.size_alloc]; omega
  have ha7 : Below w3.heap.size w3 w7 := by rw [← hW7.out]; exact (Below.refl _ _).alloc (Nat.le_refl _) _
  replace HX_w0 := Lib.hid (HX_w0.out.below ha7 HX_w0.out.lt)
  have HX_g0 : Hid (Bx w7 w3.heap.size #[.int .i64 (makeD aSecret aNonce aChal).1, .int .i64 (makeD aSecret aNonce aChal).2.1, .int .i64 (makeD aSecret aNonce aChal).2.2] 23) := Lib.hid (by rw [← hW7.out]; exact Bx.new _ _ _)
  replace HB := Lib.hid (HB.out.trans (ha7.mono (by omega)))
  clear ha7 hW7
  refine (l_eqProof _ _ _ _).mono ?_
  rintro e w8 ⟨rfl, hb⟩
  have z8 : w7.heap.size ≤ w8.heap.size := hb.size
  replace HX_w0 := Lib.hid (HX_w0.out.below hb HX_w0.out.lt)
  replace HX_g0 := Lib.hid (HX_g0.out.below hb HX_g0.out.lt)
  replace HB := Lib.hid (HB.out.trans (hb.mono (by omega)))
  clear hb
  have fc9 : w8.cell? ⟨w1.heap.size, 0, none⟩ = some (.int .i64 (makeD aSecret aNonce aChal).1) := HX_w0.out.cell 0
  have fc10 : w8.cell? ⟨w1.heap.size, 1, none⟩ = some (.int .i64 (makeD aSecret aNonce aChal).2.1) := HX_w0.out.cell 1
  have fc11 : w8.cell? ⟨w1.heap.size, 2, none⟩ = some (.int .i64 (makeD aSecret aNonce aChal).2.2) := HX_w0.out.cell 2
  have fc12 : w8.cell? ⟨w3.heap.size, 0, none⟩ = some (.int .i64 (makeD aSecret aNonce aChal).1) := HX_g0.out.cell 0
  have fc13 : w8.cell? ⟨w3.heap.size, 1, none⟩ = some (.int .i64 (makeD aSecret aNonce aChal).2.1) := HX_g0.out.cell 1
  have fc14 : w8.cell? ⟨w3.heap.size, 2, none⟩ = some (.int .i64 (makeD aSecret aNonce aChal).2.2) := HX_g0.out.cell 2
  go_wp2
  go_ret
  exact ⟨rfl, HB.out⟩

set_option maxHeartbeats 4000000 in
theorem ProofGood_walk (aKey : Int) (aP_0 : Int) (aP_1 : Int) (aP_2 : Int) (w : World) (_w_aKey : (Lit.int .i64 aKey).wf = true) (_w0_aP : (Lit.int .i64 aP_0).wf = true) (_w1_aP : (Lit.int .i64 aP_1).wf = true) (_w2_aP : (Lit.int .i64 aP_2).wf = true) :
    Calls Try.prog 4 #[.int .i64 aKey, .agg #[.int .i64 aP_0, .int .i64 aP_1, .int .i64 aP_2]] w fun e w' => e = .returned (.bool true) ∧ Below w.heap.size w w' := by
  obtain ⟨W0, hW0⟩ : ∃ W, Hid ((w.alloc (.cells #[.int .i64 aP_0, .int .i64 aP_1, .int .i64 aP_2] 28)) = W) := ⟨_, Lib.hid rfl⟩
  have HB : Hid (Below w.heap.size w W0) := Lib.hid (by rw [← hW0.out]; exact (Below.refl _ _).alloc (Nat.le_refl _) _)
  have z_0 : w.heap.size + 1 ≤ W0.heap.size := by rw [← hW0.out]; simp only [World.size_alloc]; omega
  have HX_aP : Hid (Bx W0 (w.heap.size) #[.int .i64 aP_0, .int .i64 aP_1, .int .i64 aP_2] 28) := Lib.hid (by rw [← hW0.out]; have := Bx.new w #[.int .i64 aP_0, .int .i64 aP_1, .int .i64 aP_2] 28; exact this)
  go_enter Try.func4, Try.ntmps4
  go_wp2_with fail
  rw [hW0.out]
  clear hW0
  refine (l_toProof _ _ _ _).mono ?_
  rintro e w1 ⟨rfl, hb⟩
  have z1 : W0.heap.size ≤ w1.heap.size := hb.size
  replace HX_aP := Lib.hid (HX_aP.out.below hb HX_aP.out.lt)
  replace HB := Lib.hid (HB.out.trans (hb.mono (by omega)))
  clear hb
  have fc2 : w1.cell? ⟨w.heap.size, 0, none⟩ = some (.int .i64 aP_0) := HX_aP.out.cell 0
  have fc3 : w1.cell? ⟨w.heap.size, 1, none⟩ = some (.int .i64 aP_1) := HX_aP.out.cell 1
  have fc4 : w1.cell? ⟨w.heap.size, 2, none⟩ = some (.int .i64 aP_2) := HX_aP.out.cell 2
  go_wp2_with fail
  clear fc2 fc3 fc4
  refine (X_s_ProofGood aKey aP_0 aP_1 aP_2 _).mono ?_
  rintro e w5 ⟨rfl, hb⟩
  have z5 : w1.heap.size ≤ w5.heap.size := hb.size
  replace HX_aP := Lib.hid (HX_aP.out.below hb HX_aP.out.lt)
  replace HB := Lib.hid (HB.out.trans (hb.mono (by omega)))
  clear hb
  have fc6 : w5.cell? ⟨w.heap.size, 0, none⟩ = some (.int .i64 aP_0) := HX_aP.out.cell 0
  have fc7 : w5.cell? ⟨w.heap.size, 1, none⟩ = some (.int .i64 aP_1) := HX_aP.out.cell 1
  have fc8 : w5.cell? ⟨w.heap.size, 2, none⟩ = some (.int .i64 aP_2) := HX_aP.out.cell 2
  go_wp2_with fail
  clear fc6 fc7 fc8
  refine (l_toProof _ _ _ _).mono ?_
  rintro e w9 ⟨rfl, hb⟩
  have z9 : w5.heap.size ≤ w9.heap.size := hb.size
  replace HX_aP := Lib.hid (HX_aP.out.below hb HX_aP.out.lt)
  replace HB := Lib.hid (HB.out.trans (hb.mono (by omega)))
  clear hb
  have fc10 : w9.cell? ⟨w.heap.size, 0, none⟩ = some (.int .i64 aP_0) := HX_aP.out.cell 0
  have fc11 : w9.cell? ⟨w.heap.size, 1, none⟩ = some (.int .i64 aP_1) := HX_aP.out.cell 1
  have fc12 : w9.cell? ⟨w.heap.size, 2, none⟩ = some (.int .i64 aP_2) := HX_aP.out.cell 2
  go_wp2_with fail
  clear fc10 fc11 fc12
  refine (X_i_ProofGood aKey aP_0 aP_1 aP_2 _).mono ?_
  rintro e w13 ⟨rfl, hb⟩
  have z13 : w9.heap.size ≤ w13.heap.size := hb.size
  replace HX_aP := Lib.hid (HX_aP.out.below hb HX_aP.out.lt)
  replace HB := Lib.hid (HB.out.trans (hb.mono (by omega)))
  clear hb
  have fc14 : w13.cell? ⟨w.heap.size, 0, none⟩ = some (.int .i64 aP_0) := HX_aP.out.cell 0
  have fc15 : w13.cell? ⟨w.heap.size, 1, none⟩ = some (.int .i64 aP_1) := HX_aP.out.cell 1
  have fc16 : w13.cell? ⟨w.heap.size, 2, none⟩ = some (.int .i64 aP_2) := HX_aP.out.cell 2
  go_wp2
  go_ret
  exact ⟨rfl, HB.out⟩

set_option maxHeartbeats 4000000 in
theorem ProofSecret_walk (aKey : Int) (aP_0 : Int) (aP_1 : Int) (aP_2 : Int) (aQ_0 : Int) (aQ_1 : Int) (aQ_2 : Int) (w : World) (_w_aKey : (Lit.int .i64 aKey).wf = true) (_w0_aP : (Lit.int .i64 aP_0).wf = true) (_w1_aP : (Lit.int .i64 aP_1).wf = true) (_w2_aP : (Lit.int .i64 aP_2).wf = true) (_w0_aQ : (Lit.int .i64 aQ_0).wf = true) (_w1_aQ : (Lit.int .i64 aQ_1).wf = true) (_w2_aQ : (Lit.int .i64 aQ_2).wf = true) :
    Calls Try.prog 5 #[.int .i64 aKey, .agg #[.int .i64 aP_0, .int .i64 aP_1, .int .i64 aP_2], .agg #[.int .i64 aQ_0, .int .i64 aQ_1, .int .i64 aQ_2]] w fun e w' => e = .returned (.bool true) ∧ Below w.heap.size w w' := by
  obtain ⟨W0, hW0⟩ : ∃ W, Hid (((w.alloc (.cells #[.int .i64 aP_0, .int .i64 aP_1, .int .i64 aP_2] 28)).alloc (.cells #[.int .i64 aQ_0, .int .i64 aQ_1, .int .i64 aQ_2] 28)) = W) := ⟨_, Lib.hid rfl⟩
  have HB : Hid (Below w.heap.size w W0) := Lib.hid (by rw [← hW0.out]; exact ((Below.refl _ _).alloc (Nat.le_refl _) _).alloc (by simp only [World.size_alloc]; omega) _)
  have z_0 : w.heap.size + 2 ≤ W0.heap.size := by rw [← hW0.out]; simp only [World.size_alloc]; omega
  have HX_aP : Hid (Bx W0 (w.heap.size) #[.int .i64 aP_0, .int .i64 aP_1, .int .i64 aP_2] 28) := Lib.hid (by rw [← hW0.out]; have := Bx.new w #[.int .i64 aP_0, .int .i64 aP_1, .int .i64 aP_2] 28; exact (this.alloc _))
  have HX_aQ : Hid (Bx W0 (w.heap.size + 1) #[.int .i64 aQ_0, .int .i64 aQ_1, .int .i64 aQ_2] 28) := Lib.hid (by rw [← hW0.out]; have := Bx.new (w.alloc (.cells #[.int .i64 aP_0, .int .i64 aP_1, .int .i64 aP_2] 28)) #[.int .i64 aQ_0, .int .i64 aQ_1, .int .i64 aQ_2] 28; simp only [World.size_alloc] at this; exact this)
  go_enter Try.func5, Try.ntmps5
  go_upto_region 1 with (fail)
  rw [hW0.out]
  clear hW0
  go_cut [7, 8] from 11 (fun q0 q1 w' => q0 = .int .i64 (secV aKey aP_0 aP_1 aP_2 aQ_0 aQ_1 aQ_2) ∧ q1 = .bool (secB aKey aP_0 aP_1 aP_2 aQ_0 aQ_1 aQ_2) ∧ Hid (Bx w' w.heap.size #[.int .i64 aP_0, .int .i64 aP_1, .int .i64 aP_2] 28) ∧ Hid (Bx w' (w.heap.size + 1) #[.int .i64 aQ_0, .int .i64 aQ_1, .int .i64 aQ_2] 28) ∧ Hid (Below w.heap.size w w'))
  case first =>
    go_wp2
    refine wp_region_held_drew (S := fun w' => w'.cell? ⟨w.heap.size, 0, none⟩ = some (.int .i64 aP_0) ∧ w'.cell? ⟨w.heap.size, 1, none⟩ = some (.int .i64 aP_1) ∧ w'.cell? ⟨w.heap.size, 2, none⟩ = some (.int .i64 aP_2) ∧ w'.cell? ⟨(w.heap.size + 1), 0, none⟩ = some (.int .i64 aQ_0) ∧ w'.cell? ⟨(w.heap.size + 1), 1, none⟩ = some (.int .i64 aQ_1) ∧ w'.cell? ⟨(w.heap.size + 1), 2, none⟩ = some (.int .i64 aQ_2)) (by kernel_rfl) ⟨HX_aP.out.cell 0, HX_aP.out.cell 1, HX_aP.out.cell 2, HX_aQ.out.cell 0, HX_aQ.out.cell 1, HX_aQ.out.cell 2⟩ (fun hHeld => ?_)
    obtain ⟨u0, hu0⟩ : ∃ u0, Hid (W0.drew = u0) := ⟨_, Lib.hid rfl⟩
    rw [hu0.out] at hHeld ⊢
    have zs0 : W0.heap.size = u0.heap.size := by rw [← hu0.out]; rfl
    replace zs0 := Nat.le_of_eq zs0
    have HBl0 : Hid (Below w.heap.size w u0) := Lib.hid (by rw [← hu0.out]; exact HB.out.drew)
    have HX_aP0 : Hid (Bx u0 w.heap.size #[.int .i64 aP_0, .int .i64 aP_1, .int .i64 aP_2] 28) := Lib.hid (by rw [← hu0.out]; exact HX_aP.out)
    have HX_aQ0 : Hid (Bx u0 (w.heap.size + 1) #[.int .i64 aQ_0, .int .i64 aQ_1, .int .i64 aQ_2] 28) := Lib.hid (by rw [← hu0.out]; exact HX_aQ.out)
    clear hu0
    refine wpAnyH_take (i := 0) (oi := { dst := some 12, op := Op.move (Operand.tmp 0), type := 3, pos := "exact.go:2740", after := #[], guard := none }) (v := ?_) rfl (by kernel_rfl) (by kernel_rfl) (by kernel_rfl) (fun _ _ _ h => h) (Or.inl ⟨by rfl, ?_⟩) hHeld ?_
    rotate_left
    · intro w hSw; obtain ⟨s0, s1, s2, s3, s4, s5⟩ := hSw; (try dsimp only at hSw); go_simp; (try with_reducible rfl)
    try simp only [Act.put, List.setIfInBounds_toArray, List.set_cons_zero, List.set_cons_succ]
    refine wpAnyH_take (i := 1) (oi := { dst := some 13, op := Op.load 28 (Operand.tmp 4), type := 28, pos := "exact.go:2740", after := #[], guard := none }) (v := ?_) rfl (by kernel_rfl) (by kernel_rfl) (by kernel_rfl) (fun _ _ _ h => h) (Or.inl ⟨by rfl, ?_⟩) hHeld ?_
    rotate_left
    · intro w hSw; obtain ⟨s0, s1, s2, s3, s4, s5⟩ := hSw; (try dsimp only at hSw); go_simp; (try with_reducible rfl)
    try simp only [Act.put, List.setIfInBounds_toArray, List.set_cons_zero, List.set_cons_succ]
    refine wpAnyH_take (i := 3) (oi := { dst := some 15, op := Op.load 28 (Operand.tmp 5), type := 28, pos := "exact.go:2740", after := #[], guard := none }) (v := ?_) rfl (by kernel_rfl) (by kernel_rfl) (by kernel_rfl) (fun _ _ _ h => h) (Or.inl ⟨by rfl, ?_⟩) hHeld ?_
    rotate_left
    · intro w hSw; obtain ⟨s0, s1, s2, s3, s4, s5⟩ := hSw; (try dsimp only at hSw); go_simp; (try with_reducible rfl)
    try simp only [Act.put, List.setIfInBounds_toArray, List.set_cons_zero, List.set_cons_succ]
    refine wpAnyH_ready (rs := [2]) (by kernel_rfl) (by simp) ?_
    refine AllReadyH.cons (o := { dst := some 14, op := Op.call { callee := Callee.value (Operand.func 18), args := #[Operand.tmp 13], argTypes := #[28] }, type := 23, pos := "exact.go:2740", after := #[{ on := 1, ground := Ground.data }], guard := none }) rfl (fun K hK => ?_) ?_
    · go_simp
      refine (l_toProof aP_0 aP_1 aP_2 u0).mono ?_
      rintro e u1 ⟨rfl, hb_⟩
      have zs1 : u0.heap.size ≤ u1.heap.size := hb_.size
      have HBl1 : Hid (Below w.heap.size w u1) := Lib.hid (HBl0.out.trans (hb_.mono HBl0.out.size))
      have HX_aP1 : Hid (Bx u1 w.heap.size #[.int .i64 aP_0, .int .i64 aP_1, .int .i64 aP_2] 28) := Lib.hid (HX_aP0.out.below hb_ HX_aP0.out.lt)
      have HX_aQ1 : Hid (Bx u1 (w.heap.size + 1) #[.int .i64 aQ_0, .int .i64 aQ_1, .int .i64 aQ_2] 28) := Lib.hid (HX_aQ0.out.below hb_ HX_aQ0.out.lt)
      clear hHeld hb_ HBl0 HX_aP0 HX_aQ0
      (try dsimp only)
      (try go_wp2_with fail)
      refine hK.out _ _ ⟨HX_aP1.out.cell 0, HX_aP1.out.cell 1, HX_aP1.out.cell 2, HX_aQ1.out.cell 0, HX_aQ1.out.cell 1, HX_aQ1.out.cell 2⟩ (fun hHeld => ?_)
      clear hK K
      try simp only [Act.put, List.setIfInBounds_toArray, List.set_cons_zero, List.set_cons_succ]
      refine wpAnyH_ready (rs := [4]) (by kernel_rfl) (by simp) ?_
      refine AllReadyH.cons (o := { dst := some 16, op := Op.call { callee := Callee.value (Operand.func 18), args := #[Operand.tmp 15], argTypes := #[28] }, type := 23, pos := "exact.go:2740", after := #[{ on := 3, ground := Ground.data }, { on := 2, ground := Ground.chain }], guard := none }) rfl (fun K hK => ?_) ?_
      · go_simp
        refine (l_toProof aQ_0 aQ_1 aQ_2 u1).mono ?_
        rintro e u2 ⟨rfl, hb_⟩
        have zs2 : u1.heap.size ≤ u2.heap.size := hb_.size
        have HBl2 : Hid (Below w.heap.size w u2) := Lib.hid (HBl1.out.trans (hb_.mono HBl1.out.size))
        have HX_aP2 : Hid (Bx u2 w.heap.size #[.int .i64 aP_0, .int .i64 aP_1, .int .i64 aP_2] 28) := Lib.hid (HX_aP1.out.below hb_ HX_aP1.out.lt)
        have HX_aQ2 : Hid (Bx u2 (w.heap.size + 1) #[.int .i64 aQ_0, .int .i64 aQ_1, .int .i64 aQ_2] 28) := Lib.hid (HX_aQ1.out.below hb_ HX_aQ1.out.lt)
        clear hHeld hb_ HBl1 HX_aP1 HX_aQ1
        (try dsimp only)
        (try go_wp2_with fail)
        refine hK.out _ _ ⟨HX_aP2.out.cell 0, HX_aP2.out.cell 1, HX_aP2.out.cell 2, HX_aQ2.out.cell 0, HX_aQ2.out.cell 1, HX_aQ2.out.cell 2⟩ (fun hHeld => ?_)
        clear hK K
        try simp only [Act.put, List.setIfInBounds_toArray, List.set_cons_zero, List.set_cons_succ]
        refine wpAnyH_ready (rs := [5]) (by kernel_rfl) (by simp) ?_
        refine AllReadyH.cons (o := { dst := some 17, op := Op.call { callee := Callee.value (Operand.func 20), args := #[Operand.tmp 12, Operand.tmp 14, Operand.tmp 16], argTypes := #[3, 23, 23] }, type := 32, pos := "exact.go:2740", after := #[{ on := 0, ground := Ground.data }, { on := 2, ground := Ground.data }, { on := 4, ground := Ground.data }, { on := 4, ground := Ground.chain }], guard := none }) rfl (fun K hK => ?_) ?_
        · go_simp
          refine (X_s_ProofSecret aKey aP_0 aP_1 aP_2 aQ_0 aQ_1 aQ_2 u2).mono ?_
          rintro e u3 ⟨rfl, hb_⟩
          have zs3 : u2.heap.size ≤ u3.heap.size := hb_.size
          have HBl3 : Hid (Below w.heap.size w u3) := Lib.hid (HBl2.out.trans (hb_.mono HBl2.out.size))
          have HX_aP3 : Hid (Bx u3 w.heap.size #[.int .i64 aP_0, .int .i64 aP_1, .int .i64 aP_2] 28) := Lib.hid (HX_aP2.out.below hb_ HX_aP2.out.lt)
          have HX_aQ3 : Hid (Bx u3 (w.heap.size + 1) #[.int .i64 aQ_0, .int .i64 aQ_1, .int .i64 aQ_2] 28) := Lib.hid (HX_aQ2.out.below hb_ HX_aQ2.out.lt)
          clear hHeld hb_ HBl2 HX_aP2 HX_aQ2
          (try dsimp only)
          (try go_wp2_with fail)
          refine hK.out _ _ ⟨HX_aP3.out.cell 0, HX_aP3.out.cell 1, HX_aP3.out.cell 2, HX_aQ3.out.cell 0, HX_aQ3.out.cell 1, HX_aQ3.out.cell 2⟩ (fun hHeld => ?_)
          clear hK K
          try simp only [Act.put, List.setIfInBounds_toArray, List.set_cons_zero, List.set_cons_succ]
          refine wpAnyH_take (i := 6) (oi := { dst := some 11, op := Op.move (Operand.tmp 17), type := 32, pos := "exact.go:2740", after := #[{ on := 5, ground := Ground.data }], guard := none }) (v := ?_) rfl (by kernel_rfl) (by kernel_rfl) (by kernel_rfl) (fun _ _ _ h => h) (Or.inl ⟨by rfl, ?_⟩) hHeld ?_
          rotate_left
          · intro w hSw; obtain ⟨s0, s1, s2, s3, s4, s5⟩ := hSw; (try dsimp only at hSw); go_simp; (try with_reducible rfl)
          try simp only [Act.put, List.setIfInBounds_toArray, List.set_cons_zero, List.set_cons_succ]
          refine wpAnyH_take (i := 7) (oi := { dst := some 18, op := Op.extract (Operand.tmp 11) 0, type := 3, pos := "exact.go:2740", after := #[{ on := 6, ground := Ground.data }], guard := none }) (v := ?_) rfl (by kernel_rfl) (by kernel_rfl) (by kernel_rfl) (fun _ _ _ h => h) (Or.inl ⟨by rfl, ?_⟩) hHeld ?_
          rotate_left
          · intro w hSw; obtain ⟨s0, s1, s2, s3, s4, s5⟩ := hSw; (try dsimp only at hSw); go_simp; (try with_reducible rfl)
          try simp only [Act.put, List.setIfInBounds_toArray, List.set_cons_zero, List.set_cons_succ]
          refine wpAnyH_take (i := 8) (oi := { dst := some 19, op := Op.extract (Operand.tmp 11) 1, type := 4, pos := "exact.go:2740", after := #[{ on := 6, ground := Ground.data }, { on := 9, ground := Ground.gcOnly Departure.lateStores }], guard := none }) (v := ?_) rfl (by kernel_rfl) (by kernel_rfl) (by kernel_rfl) (fun _ _ _ h => h) (Or.inl ⟨by rfl, ?_⟩) hHeld ?_
          rotate_left
          · intro w hSw; obtain ⟨s0, s1, s2, s3, s4, s5⟩ := hSw; (try dsimp only at hSw); go_simp; (try with_reducible rfl)
          try simp only [Act.put, List.setIfInBounds_toArray, List.set_cons_zero, List.set_cons_succ]
          refine wpAnyH_take (i := 9) (oi := { dst := some 7, op := Op.assign (Operand.tmp 18), type := 3, pos := "exact.go:2740", after := #[{ on := 7, ground := Ground.data }, { on := 5, ground := Ground.chain }, { on := 0, ground := Ground.phase }, { on := 1, ground := Ground.phase }, { on := 2, ground := Ground.phase }, { on := 3, ground := Ground.phase }, { on := 4, ground := Ground.phase }, { on := 5, ground := Ground.phase }, { on := 6, ground := Ground.phase }, { on := 7, ground := Ground.phase }, { on := 8, ground := Ground.textOnly Departure.lateStores }], guard := none }) (v := ?_) rfl (by kernel_rfl) (by kernel_rfl) (by kernel_rfl) (fun _ _ _ h => h) (Or.inl ⟨by rfl, ?_⟩) hHeld ?_
          rotate_left
          · intro w hSw; obtain ⟨s0, s1, s2, s3, s4, s5⟩ := hSw; (try dsimp only at hSw); go_simp; (try with_reducible rfl)
          try simp only [Act.put, List.setIfInBounds_toArray, List.set_cons_zero, List.set_cons_succ]
          refine wpAnyH_take (i := 10) (oi := { dst := some 8, op := Op.assign (Operand.tmp 19), type := 4, pos := "exact.go:2740", after := #[{ on := 8, ground := Ground.data }, { on := 9, ground := Ground.chain }, { on := 0, ground := Ground.phase }, { on := 1, ground := Ground.phase }, { on := 2, ground := Ground.phase }, { on := 3, ground := Ground.phase }, { on := 4, ground := Ground.phase }, { on := 5, ground := Ground.phase }, { on := 6, ground := Ground.phase }, { on := 7, ground := Ground.phase }, { on := 8, ground := Ground.phase }, { on := 9, ground := Ground.phase }], guard := none }) (v := ?_) rfl (by kernel_rfl) (by kernel_rfl) (by kernel_rfl) (fun _ _ _ h => h) (Or.inl ⟨by rfl, ?_⟩) hHeld ?_
          rotate_left
          · intro w hSw; obtain ⟨s0, s1, s2, s3, s4, s5⟩ := hSw; (try dsimp only at hSw); go_simp; (try with_reducible rfl)
          try simp only [Act.put, List.setIfInBounds_toArray, List.set_cons_zero, List.set_cons_succ]
          refine wpAnyH_done (by kernel_rfl) ?_ _
          go_wp2
          go_meet
          case rel => exact ⟨rfl, rfl, HX_aP3, HX_aQ3, HBl3⟩
        exact AllReadyH.nil
      exact AllReadyH.nil
    exact AllReadyH.nil
  case rest =>
    clear HB HX_aP HX_aQ
    obtain ⟨rfl, rfl, HX_aP, HX_aQ, HB⟩ := hcut
    obtain ⟨wc0, hwc⟩ : ∃ W, W = wc := ⟨_, rfl⟩
    subst hwc
    have zc0 := HB.out.size
    have fc1 : wc0.cell? ⟨w.heap.size, 0, none⟩ = some (.int .i64 aP_0) := HX_aP.out.cell 0
    have fc2 : wc0.cell? ⟨w.heap.size, 1, none⟩ = some (.int .i64 aP_1) := HX_aP.out.cell 1
    have fc3 : wc0.cell? ⟨w.heap.size, 2, none⟩ = some (.int .i64 aP_2) := HX_aP.out.cell 2
    have fc4 : wc0.cell? ⟨(w.heap.size + 1), 0, none⟩ = some (.int .i64 aQ_0) := HX_aQ.out.cell 0
    have fc5 : wc0.cell? ⟨(w.heap.size + 1), 1, none⟩ = some (.int .i64 aQ_1) := HX_aQ.out.cell 1
    have fc6 : wc0.cell? ⟨(w.heap.size + 1), 2, none⟩ = some (.int .i64 aQ_2) := HX_aQ.out.cell 2
    go_upto_region 2 with (fail)
    clear fc1 fc2 fc3 fc4 fc5 fc6
    go_cut [9, 10] from 20 (fun q0 q1 w' => q0 = .int .i64 (secV aKey aP_0 aP_1 aP_2 aQ_0 aQ_1 aQ_2) ∧ q1 = .bool (secB aKey aP_0 aP_1 aP_2 aQ_0 aQ_1 aQ_2) ∧ Hid (Bx w' w.heap.size #[.int .i64 aP_0, .int .i64 aP_1, .int .i64 aP_2] 28) ∧ Hid (Bx w' (w.heap.size + 1) #[.int .i64 aQ_0, .int .i64 aQ_1, .int .i64 aQ_2] 28) ∧ Hid (Below w.heap.size w w'))
    case first =>
      go_wp2
      refine wp_region_held_drew (S := fun w' => w'.cell? ⟨w.heap.size, 0, none⟩ = some (.int .i64 aP_0) ∧ w'.cell? ⟨w.heap.size, 1, none⟩ = some (.int .i64 aP_1) ∧ w'.cell? ⟨w.heap.size, 2, none⟩ = some (.int .i64 aP_2) ∧ w'.cell? ⟨(w.heap.size + 1), 0, none⟩ = some (.int .i64 aQ_0) ∧ w'.cell? ⟨(w.heap.size + 1), 1, none⟩ = some (.int .i64 aQ_1) ∧ w'.cell? ⟨(w.heap.size + 1), 2, none⟩ = some (.int .i64 aQ_2)) (by kernel_rfl) ⟨HX_aP.out.cell 0, HX_aP.out.cell 1, HX_aP.out.cell 2, HX_aQ.out.cell 0, HX_aQ.out.cell 1, HX_aQ.out.cell 2⟩ (fun hHeld => ?_)
      obtain ⟨u0, hu0⟩ : ∃ u0, Hid (wc0.drew = u0) := ⟨_, Lib.hid rfl⟩
      rw [hu0.out] at hHeld ⊢
      have zs0 : wc0.heap.size = u0.heap.size := by rw [← hu0.out]; rfl
      replace zs0 := Nat.le_of_eq zs0
      have HBl0 : Hid (Below w.heap.size w u0) := Lib.hid (by rw [← hu0.out]; exact HB.out.drew)
      have HX_aP0 : Hid (Bx u0 w.heap.size #[.int .i64 aP_0, .int .i64 aP_1, .int .i64 aP_2] 28) := Lib.hid (by rw [← hu0.out]; exact HX_aP.out)
      have HX_aQ0 : Hid (Bx u0 (w.heap.size + 1) #[.int .i64 aQ_0, .int .i64 aQ_1, .int .i64 aQ_2] 28) := Lib.hid (by rw [← hu0.out]; exact HX_aQ.out)
      clear hu0
      refine wpAnyH_take (i := 0) (oi := { dst := some 21, op := Op.move (Operand.tmp 0), type := 3, pos := "exact.go:2741", after := #[], guard := none }) (v := ?_) rfl (by kernel_rfl) (by kernel_rfl) (by kernel_rfl) (fun _ _ _ h => h) (Or.inl ⟨by rfl, ?_⟩) hHeld ?_
      rotate_left
      · intro w hSw; obtain ⟨s0, s1, s2, s3, s4, s5⟩ := hSw; (try dsimp only at hSw); go_simp; (try with_reducible rfl)
      try simp only [Act.put, List.setIfInBounds_toArray, List.set_cons_zero, List.set_cons_succ]
      refine wpAnyH_take (i := 1) (oi := { dst := some 22, op := Op.load 28 (Operand.tmp 4), type := 28, pos := "exact.go:2741", after := #[], guard := none }) (v := ?_) rfl (by kernel_rfl) (by kernel_rfl) (by kernel_rfl) (fun _ _ _ h => h) (Or.inl ⟨by rfl, ?_⟩) hHeld ?_
      rotate_left
      · intro w hSw; obtain ⟨s0, s1, s2, s3, s4, s5⟩ := hSw; (try dsimp only at hSw); go_simp; (try with_reducible rfl)
      try simp only [Act.put, List.setIfInBounds_toArray, List.set_cons_zero, List.set_cons_succ]
      refine wpAnyH_take (i := 3) (oi := { dst := some 24, op := Op.load 28 (Operand.tmp 5), type := 28, pos := "exact.go:2741", after := #[], guard := none }) (v := ?_) rfl (by kernel_rfl) (by kernel_rfl) (by kernel_rfl) (fun _ _ _ h => h) (Or.inl ⟨by rfl, ?_⟩) hHeld ?_
      rotate_left
      · intro w hSw; obtain ⟨s0, s1, s2, s3, s4, s5⟩ := hSw; (try dsimp only at hSw); go_simp; (try with_reducible rfl)
      try simp only [Act.put, List.setIfInBounds_toArray, List.set_cons_zero, List.set_cons_succ]
      refine wpAnyH_ready (rs := [2]) (by kernel_rfl) (by simp) ?_
      refine AllReadyH.cons (o := { dst := some 23, op := Op.call { callee := Callee.value (Operand.func 18), args := #[Operand.tmp 22], argTypes := #[28] }, type := 23, pos := "exact.go:2741", after := #[{ on := 1, ground := Ground.data }], guard := none }) rfl (fun K hK => ?_) ?_
      · go_simp
        refine (l_toProof aP_0 aP_1 aP_2 u0).mono ?_
        rintro e u1 ⟨rfl, hb_⟩
        have zs1 : u0.heap.size ≤ u1.heap.size := hb_.size
        have HBl1 : Hid (Below w.heap.size w u1) := Lib.hid (HBl0.out.trans (hb_.mono HBl0.out.size))
        have HX_aP1 : Hid (Bx u1 w.heap.size #[.int .i64 aP_0, .int .i64 aP_1, .int .i64 aP_2] 28) := Lib.hid (HX_aP0.out.below hb_ HX_aP0.out.lt)
        have HX_aQ1 : Hid (Bx u1 (w.heap.size + 1) #[.int .i64 aQ_0, .int .i64 aQ_1, .int .i64 aQ_2] 28) := Lib.hid (HX_aQ0.out.below hb_ HX_aQ0.out.lt)
        clear hHeld hb_ HBl0 HX_aP0 HX_aQ0
        (try dsimp only)
        (try go_wp2_with fail)
        refine hK.out _ _ ⟨HX_aP1.out.cell 0, HX_aP1.out.cell 1, HX_aP1.out.cell 2, HX_aQ1.out.cell 0, HX_aQ1.out.cell 1, HX_aQ1.out.cell 2⟩ (fun hHeld => ?_)
        clear hK K
        try simp only [Act.put, List.setIfInBounds_toArray, List.set_cons_zero, List.set_cons_succ]
        refine wpAnyH_ready (rs := [4]) (by kernel_rfl) (by simp) ?_
        refine AllReadyH.cons (o := { dst := some 25, op := Op.call { callee := Callee.value (Operand.func 18), args := #[Operand.tmp 24], argTypes := #[28] }, type := 23, pos := "exact.go:2741", after := #[{ on := 3, ground := Ground.data }, { on := 2, ground := Ground.chain }], guard := none }) rfl (fun K hK => ?_) ?_
        · go_simp
          refine (l_toProof aQ_0 aQ_1 aQ_2 u1).mono ?_
          rintro e u2 ⟨rfl, hb_⟩
          have zs2 : u1.heap.size ≤ u2.heap.size := hb_.size
          have HBl2 : Hid (Below w.heap.size w u2) := Lib.hid (HBl1.out.trans (hb_.mono HBl1.out.size))
          have HX_aP2 : Hid (Bx u2 w.heap.size #[.int .i64 aP_0, .int .i64 aP_1, .int .i64 aP_2] 28) := Lib.hid (HX_aP1.out.below hb_ HX_aP1.out.lt)
          have HX_aQ2 : Hid (Bx u2 (w.heap.size + 1) #[.int .i64 aQ_0, .int .i64 aQ_1, .int .i64 aQ_2] 28) := Lib.hid (HX_aQ1.out.below hb_ HX_aQ1.out.lt)
          clear hHeld hb_ HBl1 HX_aP1 HX_aQ1
          (try dsimp only)
          (try go_wp2_with fail)
          refine hK.out _ _ ⟨HX_aP2.out.cell 0, HX_aP2.out.cell 1, HX_aP2.out.cell 2, HX_aQ2.out.cell 0, HX_aQ2.out.cell 1, HX_aQ2.out.cell 2⟩ (fun hHeld => ?_)
          clear hK K
          try simp only [Act.put, List.setIfInBounds_toArray, List.set_cons_zero, List.set_cons_succ]
          refine wpAnyH_ready (rs := [5]) (by kernel_rfl) (by simp) ?_
          refine AllReadyH.cons (o := { dst := some 26, op := Op.call { callee := Callee.value (Operand.func 21), args := #[Operand.tmp 21, Operand.tmp 23, Operand.tmp 25], argTypes := #[3, 23, 23] }, type := 32, pos := "exact.go:2741", after := #[{ on := 0, ground := Ground.data }, { on := 2, ground := Ground.data }, { on := 4, ground := Ground.data }, { on := 4, ground := Ground.chain }], guard := none }) rfl (fun K hK => ?_) ?_
          · go_simp
            refine (X_i_ProofSecret aKey aP_0 aP_1 aP_2 aQ_0 aQ_1 aQ_2 u2).mono ?_
            rintro e u3 ⟨rfl, hb_⟩
            have zs3 : u2.heap.size ≤ u3.heap.size := hb_.size
            have HBl3 : Hid (Below w.heap.size w u3) := Lib.hid (HBl2.out.trans (hb_.mono HBl2.out.size))
            have HX_aP3 : Hid (Bx u3 w.heap.size #[.int .i64 aP_0, .int .i64 aP_1, .int .i64 aP_2] 28) := Lib.hid (HX_aP2.out.below hb_ HX_aP2.out.lt)
            have HX_aQ3 : Hid (Bx u3 (w.heap.size + 1) #[.int .i64 aQ_0, .int .i64 aQ_1, .int .i64 aQ_2] 28) := Lib.hid (HX_aQ2.out.below hb_ HX_aQ2.out.lt)
            clear hHeld hb_ HBl2 HX_aP2 HX_aQ2
            (try dsimp only)
            (try go_wp2_with fail)
            refine hK.out _ _ ⟨HX_aP3.out.cell 0, HX_aP3.out.cell 1, HX_aP3.out.cell 2, HX_aQ3.out.cell 0, HX_aQ3.out.cell 1, HX_aQ3.out.cell 2⟩ (fun hHeld => ?_)
            clear hK K
            try simp only [Act.put, List.setIfInBounds_toArray, List.set_cons_zero, List.set_cons_succ]
            refine wpAnyH_take (i := 6) (oi := { dst := some 20, op := Op.move (Operand.tmp 26), type := 32, pos := "exact.go:2741", after := #[{ on := 5, ground := Ground.data }], guard := none }) (v := ?_) rfl (by kernel_rfl) (by kernel_rfl) (by kernel_rfl) (fun _ _ _ h => h) (Or.inl ⟨by rfl, ?_⟩) hHeld ?_
            rotate_left
            · intro w hSw; obtain ⟨s0, s1, s2, s3, s4, s5⟩ := hSw; (try dsimp only at hSw); go_simp; (try with_reducible rfl)
            try simp only [Act.put, List.setIfInBounds_toArray, List.set_cons_zero, List.set_cons_succ]
            refine wpAnyH_take (i := 7) (oi := { dst := some 27, op := Op.extract (Operand.tmp 20) 0, type := 3, pos := "exact.go:2741", after := #[{ on := 6, ground := Ground.data }], guard := none }) (v := ?_) rfl (by kernel_rfl) (by kernel_rfl) (by kernel_rfl) (fun _ _ _ h => h) (Or.inl ⟨by rfl, ?_⟩) hHeld ?_
            rotate_left
            · intro w hSw; obtain ⟨s0, s1, s2, s3, s4, s5⟩ := hSw; (try dsimp only at hSw); go_simp; (try with_reducible rfl)
            try simp only [Act.put, List.setIfInBounds_toArray, List.set_cons_zero, List.set_cons_succ]
            refine wpAnyH_take (i := 8) (oi := { dst := some 28, op := Op.extract (Operand.tmp 20) 1, type := 4, pos := "exact.go:2741", after := #[{ on := 6, ground := Ground.data }, { on := 9, ground := Ground.gcOnly Departure.lateStores }], guard := none }) (v := ?_) rfl (by kernel_rfl) (by kernel_rfl) (by kernel_rfl) (fun _ _ _ h => h) (Or.inl ⟨by rfl, ?_⟩) hHeld ?_
            rotate_left
            · intro w hSw; obtain ⟨s0, s1, s2, s3, s4, s5⟩ := hSw; (try dsimp only at hSw); go_simp; (try with_reducible rfl)
            try simp only [Act.put, List.setIfInBounds_toArray, List.set_cons_zero, List.set_cons_succ]
            refine wpAnyH_take (i := 9) (oi := { dst := some 9, op := Op.assign (Operand.tmp 27), type := 3, pos := "exact.go:2741", after := #[{ on := 7, ground := Ground.data }, { on := 5, ground := Ground.chain }, { on := 0, ground := Ground.phase }, { on := 1, ground := Ground.phase }, { on := 2, ground := Ground.phase }, { on := 3, ground := Ground.phase }, { on := 4, ground := Ground.phase }, { on := 5, ground := Ground.phase }, { on := 6, ground := Ground.phase }, { on := 7, ground := Ground.phase }, { on := 8, ground := Ground.textOnly Departure.lateStores }], guard := none }) (v := ?_) rfl (by kernel_rfl) (by kernel_rfl) (by kernel_rfl) (fun _ _ _ h => h) (Or.inl ⟨by rfl, ?_⟩) hHeld ?_
            rotate_left
            · intro w hSw; obtain ⟨s0, s1, s2, s3, s4, s5⟩ := hSw; (try dsimp only at hSw); go_simp; (try with_reducible rfl)
            try simp only [Act.put, List.setIfInBounds_toArray, List.set_cons_zero, List.set_cons_succ]
            refine wpAnyH_take (i := 10) (oi := { dst := some 10, op := Op.assign (Operand.tmp 28), type := 4, pos := "exact.go:2741", after := #[{ on := 8, ground := Ground.data }, { on := 9, ground := Ground.chain }, { on := 0, ground := Ground.phase }, { on := 1, ground := Ground.phase }, { on := 2, ground := Ground.phase }, { on := 3, ground := Ground.phase }, { on := 4, ground := Ground.phase }, { on := 5, ground := Ground.phase }, { on := 6, ground := Ground.phase }, { on := 7, ground := Ground.phase }, { on := 8, ground := Ground.phase }, { on := 9, ground := Ground.phase }], guard := none }) (v := ?_) rfl (by kernel_rfl) (by kernel_rfl) (by kernel_rfl) (fun _ _ _ h => h) (Or.inl ⟨by rfl, ?_⟩) hHeld ?_
            rotate_left
            · intro w hSw; obtain ⟨s0, s1, s2, s3, s4, s5⟩ := hSw; (try dsimp only at hSw); go_simp; (try with_reducible rfl)
            try simp only [Act.put, List.setIfInBounds_toArray, List.set_cons_zero, List.set_cons_succ]
            refine wpAnyH_done (by kernel_rfl) ?_ _
            go_wp2
            go_meet
            case rel => exact ⟨rfl, rfl, HX_aP3, HX_aQ3, HBl3⟩
          exact AllReadyH.nil
        exact AllReadyH.nil
      exact AllReadyH.nil
    case rest =>
      clear HB HX_aP HX_aQ
      obtain ⟨rfl, rfl, HX_aP, HX_aQ, HB⟩ := hcut
      obtain ⟨wc1, hwc⟩ : ∃ W, W = wc := ⟨_, rfl⟩
      subst hwc
      have zc1 := HB.out.size
      have fc7 : wc1.cell? ⟨w.heap.size, 0, none⟩ = some (.int .i64 aP_0) := HX_aP.out.cell 0
      have fc8 : wc1.cell? ⟨w.heap.size, 1, none⟩ = some (.int .i64 aP_1) := HX_aP.out.cell 1
      have fc9 : wc1.cell? ⟨w.heap.size, 2, none⟩ = some (.int .i64 aP_2) := HX_aP.out.cell 2
      have fc10 : wc1.cell? ⟨(w.heap.size + 1), 0, none⟩ = some (.int .i64 aQ_0) := HX_aQ.out.cell 0
      have fc11 : wc1.cell? ⟨(w.heap.size + 1), 1, none⟩ = some (.int .i64 aQ_1) := HX_aQ.out.cell 1
      have fc12 : wc1.cell? ⟨(w.heap.size + 1), 2, none⟩ = some (.int .i64 aQ_2) := HX_aQ.out.cell 2
      go_wp2
      go_ret
      exact ⟨rfl, HB.out⟩

set_option maxHeartbeats 4000000 in
theorem ProofFeign_walk (aKey : Int) (aChal : Int) (aResp : Int) (w : World) (_w_aKey : (Lit.int .i64 aKey).wf = true) (_w_aChal : (Lit.int .i64 aChal).wf = true) (_w_aResp : (Lit.int .i64 aResp).wf = true) :
    Calls Try.prog 6 #[.int .i64 aKey, .int .i64 aChal, .int .i64 aResp] w fun e w' => e = .returned (.bool true) ∧ Below w.heap.size w w' := by
  have HB := Lib.hid (Below.refl w.heap.size w)
  go_enter Try.func6, Try.ntmps6
  go_wp2_with fail
  refine (X_s_ProofFeign aKey aChal aResp _).mono ?_
  rintro e w1 ⟨rfl, hb⟩
  have z1 : w.heap.size ≤ w1.heap.size := hb.size
  replace HB := Lib.hid (HB.out.trans (hb.mono (by omega)))
  clear hb
  go_wp2_with fail
  obtain ⟨w2, hW2⟩ : ∃ W, Hid (w1.alloc (.cells #[.int .i64 (feignD aKey aChal aResp).1, .int .i64 (feignD aKey aChal aResp).2.1, .int .i64 (feignD aKey aChal aResp).2.2] 23) = W) := ⟨_, Lib.hid rfl⟩
  try rw [hW2.out]
  have z2 : w1.heap.size < w2.heap.size := by rw [← hW2.out, World.size_alloc]; omega
  have ha2 : Below w1.heap.size w1 w2 := by rw [← hW2.out]; exact (Below.refl _ _).alloc (Nat.le_refl _) _
  have HX_w0 : Hid (Bx w2 w1.heap.size #[.int .i64 (feignD aKey aChal aResp).1, .int .i64 (feignD aKey aChal aResp).2.1, .int .i64 (feignD aKey aChal aResp).2.2] 23) := Lib.hid (by rw [← hW2.out]; exact Bx.new _ _ _)
  replace HB := Lib.hid (HB.out.trans (ha2.mono (by omega)))
  clear ha2 hW2
  refine (X_i_ProofFeign aKey aChal aResp _).mono ?_
  rintro e w3 ⟨rfl, hb⟩
  have z3 : w2.heap.size ≤ w3.heap.size := hb.size
  replace HX_w0 := Lib.hid (HX_w0.out.below hb HX_w0.out.lt)
  replace HB := Lib.hid (HB.out.trans (hb.mono (by omega)))
  clear hb
  have fc4 : (w3.alloc (.cells #[.int .i64 (feignD aKey aChal aResp).1, .int .i64 (feignD aKey aChal aResp).2.1, .int .i64 (feignD aKey aChal aResp).2.2] 23)).cell? ⟨w1.heap.size, 0, none⟩ = some (.int .i64 (feignD aKey aChal aResp).1) := (HX_w0.out.alloc _).cell 0
  have fc5 : (w3.alloc (.cells #[.int .i64 (feignD aKey aChal aResp).1, .int .i64 (feignD aKey aChal aResp).2.1, .int .i64 (feignD aKey aChal aResp).2.2] 23)).cell? ⟨w1.heap.size, 1, none⟩ = some (.int .i64 (feignD aKey aChal aResp).2.1) := (HX_w0.out.alloc _).cell 1
  have fc6 : (w3.alloc (.cells #[.int .i64 (feignD aKey aChal aResp).1, .int .i64 (feignD aKey aChal aResp).2.1, .int .i64 (feignD aKey aChal aResp).2.2] 23)).cell? ⟨w1.heap.size, 2, none⟩ = some (.int .i64 (feignD aKey aChal aResp).2.2) := (HX_w0.out.alloc _).cell 2
  go_wp2_with fail
  clear fc4 fc5 fc6
  obtain ⟨w7, hW7⟩ : ∃ W, Hid (w3.alloc (.cells #[.int .i64 (feignD aKey aChal aResp).1, .int .i64 (feignD aKey aChal aResp).2.1, .int .i64 (feignD aKey aChal aResp).2.2] 23) = W) := ⟨_, Lib.hid rfl⟩
  try rw [hW7.out]
  have z7 : w3.heap.size < w7.heap.size := by rw [← hW7.out, World.size_alloc]; omega
  have ha7 : Below w3.heap.size w3 w7 := by rw [← hW7.out]; exact (Below.refl _ _).alloc (Nat.le_refl _) _
  replace HX_w0 := Lib.hid (HX_w0.out.below ha7 HX_w0.out.lt)
  have HX_g0 : Hid (Bx w7 w3.heap.size #[.int .i64 (feignD aKey aChal aResp).1, .int .i64 (feignD aKey aChal aResp).2.1, .int .i64 (feignD aKey aChal aResp).2.2] 23) := Lib.hid (by rw [← hW7.out]; exact Bx.new _ _ _)
  replace HB := Lib.hid (HB.out.trans (ha7.mono (by omega)))
  clear ha7 hW7
  refine (l_eqProof _ _ _ _).mono ?_
  rintro e w8 ⟨rfl, hb⟩
  have z8 : w7.heap.size ≤ w8.heap.size := hb.size
  replace HX_w0 := Lib.hid (HX_w0.out.below hb HX_w0.out.lt)
  replace HX_g0 := Lib.hid (HX_g0.out.below hb HX_g0.out.lt)
  replace HB := Lib.hid (HB.out.trans (hb.mono (by omega)))
  clear hb
  have fc9 : w8.cell? ⟨w1.heap.size, 0, none⟩ = some (.int .i64 (feignD aKey aChal aResp).1) := HX_w0.out.cell 0
  have fc10 : w8.cell? ⟨w1.heap.size, 1, none⟩ = some (.int .i64 (feignD aKey aChal aResp).2.1) := HX_w0.out.cell 1
  have fc11 : w8.cell? ⟨w1.heap.size, 2, none⟩ = some (.int .i64 (feignD aKey aChal aResp).2.2) := HX_w0.out.cell 2
  have fc12 : w8.cell? ⟨w3.heap.size, 0, none⟩ = some (.int .i64 (feignD aKey aChal aResp).1) := HX_g0.out.cell 0
  have fc13 : w8.cell? ⟨w3.heap.size, 1, none⟩ = some (.int .i64 (feignD aKey aChal aResp).2.1) := HX_g0.out.cell 1
  have fc14 : w8.cell? ⟨w3.heap.size, 2, none⟩ = some (.int .i64 (feignD aKey aChal aResp).2.2) := HX_g0.out.cell 2
  go_wp2
  go_ret
  exact ⟨rfl, HB.out⟩

set_option maxHeartbeats 4000000 in
theorem ProofNonce_walk (aSecret : Int) (aChal : Int) (aResp : Int) (w : World) (_w_aSecret : (Lit.int .i64 aSecret).wf = true) (_w_aChal : (Lit.int .i64 aChal).wf = true) (_w_aResp : (Lit.int .i64 aResp).wf = true) :
    Calls Try.prog 7 #[.int .i64 aSecret, .int .i64 aChal, .int .i64 aResp] w fun e w' => e = .returned (.bool true) ∧ Below w.heap.size w w' := by
  have HB := Lib.hid (Below.refl w.heap.size w)
  go_enter Try.func7, Try.ntmps7
  go_wp2_with fail
  refine (X_s_ProofNonce aSecret aChal aResp _).mono ?_
  rintro e w1 ⟨rfl, hb⟩
  have z1 : w.heap.size ≤ w1.heap.size := hb.size
  replace HB := Lib.hid (HB.out.trans (hb.mono (by omega)))
  clear hb
  go_wp2_with fail
  refine (X_i_ProofNonce aSecret aChal aResp _).mono ?_
  rintro e w2 ⟨rfl, hb⟩
  have z2 : w1.heap.size ≤ w2.heap.size := hb.size
  replace HB := Lib.hid (HB.out.trans (hb.mono (by omega)))
  clear hb
  go_wp2
  go_ret
  exact ⟨rfl, HB.out⟩

set_option maxHeartbeats 4000000 in
theorem TwinMake_walk (aBase_0 : Int) (aBase_1 : Int) (aSecret : Int) (aNonce : Int) (aChal : Int) (w : World) (_w0_aBase : (Lit.int .i64 aBase_0).wf = true) (_w1_aBase : (Lit.int .i64 aBase_1).wf = true) (_w_aSecret : (Lit.int .i64 aSecret).wf = true) (_w_aNonce : (Lit.int .i64 aNonce).wf = true) (_w_aChal : (Lit.int .i64 aChal).wf = true) :
    Calls Try.prog 8 #[.agg #[.int .i64 aBase_0, .int .i64 aBase_1], .int .i64 aSecret, .int .i64 aNonce, .int .i64 aChal] w fun e w' => e = .returned (.bool true) ∧ Below w.heap.size w w' := by
  obtain ⟨W0, hW0⟩ : ∃ W, Hid ((w.alloc (.cells #[.int .i64 aBase_0, .int .i64 aBase_1] 37)) = W) := ⟨_, Lib.hid rfl⟩
  have HB : Hid (Below w.heap.size w W0) := Lib.hid (by rw [← hW0.out]; exact (Below.refl _ _).alloc (Nat.le_refl _) _)
  have z_0 : w.heap.size + 1 ≤ W0.heap.size := by rw [← hW0.out]; simp only [World.size_alloc]; omega
  have HX_aBase : Hid (Bx W0 (w.heap.size) #[.int .i64 aBase_0, .int .i64 aBase_1] 37) := Lib.hid (by rw [← hW0.out]; have := Bx.new w #[.int .i64 aBase_0, .int .i64 aBase_1] 37; exact this)
  go_enter Try.func8, Try.ntmps8
  go_wp2_with fail
  rw [hW0.out]
  clear hW0
  refine (l_toPair _ _ _).mono ?_
  rintro e w1 ⟨rfl, hb⟩
  have z1 : W0.heap.size ≤ w1.heap.size := hb.size
  replace HX_aBase := Lib.hid (HX_aBase.out.below hb HX_aBase.out.lt)
  replace HB := Lib.hid (HB.out.trans (hb.mono (by omega)))
  clear hb
  have fc2 : w1.cell? ⟨w.heap.size, 0, none⟩ = some (.int .i64 aBase_0) := HX_aBase.out.cell 0
  have fc3 : w1.cell? ⟨w.heap.size, 1, none⟩ = some (.int .i64 aBase_1) := HX_aBase.out.cell 1
  go_wp2_with fail
  clear fc2 fc3
  refine (X_s_TwinMake aBase_0 aBase_1 aSecret aNonce aChal _).mono ?_
  rintro e w4 ⟨rfl, hb⟩
  have z4 : w1.heap.size ≤ w4.heap.size := hb.size
  replace HX_aBase := Lib.hid (HX_aBase.out.below hb HX_aBase.out.lt)
  replace HB := Lib.hid (HB.out.trans (hb.mono (by omega)))
  clear hb
  have fc5 : (w4.alloc (.cells #[.int .i64 (tmakeD aBase_0 aBase_1 aSecret aNonce aChal).1, .int .i64 (tmakeD aBase_0 aBase_1 aSecret aNonce aChal).2.1, .int .i64 (tmakeD aBase_0 aBase_1 aSecret aNonce aChal).2.2.1, .int .i64 (tmakeD aBase_0 aBase_1 aSecret aNonce aChal).2.2.2] 39)).cell? ⟨w.heap.size, 0, none⟩ = some (.int .i64 aBase_0) := (HX_aBase.out.alloc _).cell 0
  have fc6 : (w4.alloc (.cells #[.int .i64 (tmakeD aBase_0 aBase_1 aSecret aNonce aChal).1, .int .i64 (tmakeD aBase_0 aBase_1 aSecret aNonce aChal).2.1, .int .i64 (tmakeD aBase_0 aBase_1 aSecret aNonce aChal).2.2.1, .int .i64 (tmakeD aBase_0 aBase_1 aSecret aNonce aChal).2.2.2] 39)).cell? ⟨w.heap.size, 1, none⟩ = some (.int .i64 aBase_1) := (HX_aBase.out.alloc _).cell 1
  go_wp2_with fail
  clear fc5 fc6
  obtain ⟨w7, hW7⟩ : ∃ W, Hid (w4.alloc (.cells #[.int .i64 (tmakeD aBase_0 aBase_1 aSecret aNonce aChal).1, .int .i64 (tmakeD aBase_0 aBase_1 aSecret aNonce aChal).2.1, .int .i64 (tmakeD aBase_0 aBase_1 aSecret aNonce aChal).2.2.1, .int .i64 (tmakeD aBase_0 aBase_1 aSecret aNonce aChal).2.2.2] 39) = W) := ⟨_, Lib.hid rfl⟩
  try rw [hW7.out]
  have z7 : w4.heap.size < w7.heap.size := by rw [← hW7.out, World.size_alloc]; omega
  have ha7 : Below w4.heap.size w4 w7 := by rw [← hW7.out]; exact (Below.refl _ _).alloc (Nat.le_refl _) _
  replace HX_aBase := Lib.hid (HX_aBase.out.below ha7 HX_aBase.out.lt)
  have HX_w0 : Hid (Bx w7 w4.heap.size #[.int .i64 (tmakeD aBase_0 aBase_1 aSecret aNonce aChal).1, .int .i64 (tmakeD aBase_0 aBase_1 aSecret aNonce aChal).2.1, .int .i64 (tmakeD aBase_0 aBase_1 aSecret aNonce aChal).2.2.1, .int .i64 (tmakeD aBase_0 aBase_1 aSecret aNonce aChal).2.2.2] 39) := Lib.hid (by rw [← hW7.out]; exact Bx.new _ _ _)
  replace HB := Lib.hid (HB.out.trans (ha7.mono (by omega)))
  clear ha7 hW7
  refine (l_toPair _ _ _).mono ?_
  rintro e w8 ⟨rfl, hb⟩
  have z8 : w7.heap.size ≤ w8.heap.size := hb.size
  replace HX_aBase := Lib.hid (HX_aBase.out.below hb HX_aBase.out.lt)
  replace HX_w0 := Lib.hid (HX_w0.out.below hb HX_w0.out.lt)
  replace HB := Lib.hid (HB.out.trans (hb.mono (by omega)))
  clear hb
  have fc9 : w8.cell? ⟨w.heap.size, 0, none⟩ = some (.int .i64 aBase_0) := HX_aBase.out.cell 0
  have fc10 : w8.cell? ⟨w.heap.size, 1, none⟩ = some (.int .i64 aBase_1) := HX_aBase.out.cell 1
  have fc11 : w8.cell? ⟨w4.heap.size, 0, none⟩ = some (.int .i64 (tmakeD aBase_0 aBase_1 aSecret aNonce aChal).1) := HX_w0.out.cell 0
  have fc12 : w8.cell? ⟨w4.heap.size, 1, none⟩ = some (.int .i64 (tmakeD aBase_0 aBase_1 aSecret aNonce aChal).2.1) := HX_w0.out.cell 1
  have fc13 : w8.cell? ⟨w4.heap.size, 2, none⟩ = some (.int .i64 (tmakeD aBase_0 aBase_1 aSecret aNonce aChal).2.2.1) := HX_w0.out.cell 2
  have fc14 : w8.cell? ⟨w4.heap.size, 3, none⟩ = some (.int .i64 (tmakeD aBase_0 aBase_1 aSecret aNonce aChal).2.2.2) := HX_w0.out.cell 3
  go_wp2_with fail
  clear fc9 fc10 fc11 fc12 fc13 fc14
  refine (X_i_TwinMake aBase_0 aBase_1 aSecret aNonce aChal _).mono ?_
  rintro e w15 ⟨rfl, hb⟩
  have z15 : w8.heap.size ≤ w15.heap.size := hb.size
  replace HX_aBase := Lib.hid (HX_aBase.out.below hb HX_aBase.out.lt)
  replace HX_w0 := Lib.hid (HX_w0.out.below hb HX_w0.out.lt)
  replace HB := Lib.hid (HB.out.trans (hb.mono (by omega)))
  clear hb
  have fc16 : (w15.alloc (.cells #[.int .i64 (tmakeD aBase_0 aBase_1 aSecret aNonce aChal).1, .int .i64 (tmakeD aBase_0 aBase_1 aSecret aNonce aChal).2.1, .int .i64 (tmakeD aBase_0 aBase_1 aSecret aNonce aChal).2.2.1, .int .i64 (tmakeD aBase_0 aBase_1 aSecret aNonce aChal).2.2.2] 39)).cell? ⟨w.heap.size, 0, none⟩ = some (.int .i64 aBase_0) := (HX_aBase.out.alloc _).cell 0
  have fc17 : (w15.alloc (.cells #[.int .i64 (tmakeD aBase_0 aBase_1 aSecret aNonce aChal).1, .int .i64 (tmakeD aBase_0 aBase_1 aSecret aNonce aChal).2.1, .int .i64 (tmakeD aBase_0 aBase_1 aSecret aNonce aChal).2.2.1, .int .i64 (tmakeD aBase_0 aBase_1 aSecret aNonce aChal).2.2.2] 39)).cell? ⟨w.heap.size, 1, none⟩ = some (.int .i64 aBase_1) := (HX_aBase.out.alloc _).cell 1
  have fc18 : (w15.alloc (.cells #[.int .i64 (tmakeD aBase_0 aBase_1 aSecret aNonce aChal).1, .int .i64 (tmakeD aBase_0 aBase_1 aSecret aNonce aChal).2.1, .int .i64 (tmakeD aBase_0 aBase_1 aSecret aNonce aChal).2.2.1, .int .i64 (tmakeD aBase_0 aBase_1 aSecret aNonce aChal).2.2.2] 39)).cell? ⟨w4.heap.size, 0, none⟩ = some (.int .i64 (tmakeD aBase_0 aBase_1 aSecret aNonce aChal).1) := (HX_w0.out.alloc _).cell 0
  have fc19 : (w15.alloc (.cells #[.int .i64 (tmakeD aBase_0 aBase_1 aSecret aNonce aChal).1, .int .i64 (tmakeD aBase_0 aBase_1 aSecret aNonce aChal).2.1, .int .i64 (tmakeD aBase_0 aBase_1 aSecret aNonce aChal).2.2.1, .int .i64 (tmakeD aBase_0 aBase_1 aSecret aNonce aChal).2.2.2] 39)).cell? ⟨w4.heap.size, 1, none⟩ = some (.int .i64 (tmakeD aBase_0 aBase_1 aSecret aNonce aChal).2.1) := (HX_w0.out.alloc _).cell 1
  have fc20 : (w15.alloc (.cells #[.int .i64 (tmakeD aBase_0 aBase_1 aSecret aNonce aChal).1, .int .i64 (tmakeD aBase_0 aBase_1 aSecret aNonce aChal).2.1, .int .i64 (tmakeD aBase_0 aBase_1 aSecret aNonce aChal).2.2.1, .int .i64 (tmakeD aBase_0 aBase_1 aSecret aNonce aChal).2.2.2] 39)).cell? ⟨w4.heap.size, 2, none⟩ = some (.int .i64 (tmakeD aBase_0 aBase_1 aSecret aNonce aChal).2.2.1) := (HX_w0.out.alloc _).cell 2
  have fc21 : (w15.alloc (.cells #[.int .i64 (tmakeD aBase_0 aBase_1 aSecret aNonce aChal).1, .int .i64 (tmakeD aBase_0 aBase_1 aSecret aNonce aChal).2.1, .int .i64 (tmakeD aBase_0 aBase_1 aSecret aNonce aChal).2.2.1, .int .i64 (tmakeD aBase_0 aBase_1 aSecret aNonce aChal).2.2.2] 39)).cell? ⟨w4.heap.size, 3, none⟩ = some (.int .i64 (tmakeD aBase_0 aBase_1 aSecret aNonce aChal).2.2.2) := (HX_w0.out.alloc _).cell 3
  go_wp2_with fail
  clear fc16 fc17 fc18 fc19 fc20 fc21
  obtain ⟨w22, hW22⟩ : ∃ W, Hid (w15.alloc (.cells #[.int .i64 (tmakeD aBase_0 aBase_1 aSecret aNonce aChal).1, .int .i64 (tmakeD aBase_0 aBase_1 aSecret aNonce aChal).2.1, .int .i64 (tmakeD aBase_0 aBase_1 aSecret aNonce aChal).2.2.1, .int .i64 (tmakeD aBase_0 aBase_1 aSecret aNonce aChal).2.2.2] 39) = W) := ⟨_, Lib.hid rfl⟩
  try rw [hW22.out]
  have z22 : w15.heap.size < w22.heap.size := by rw [← hW22.out, World.size_alloc]; omega
  have ha22 : Below w15.heap.size w15 w22 := by rw [← hW22.out]; exact (Below.refl _ _).alloc (Nat.le_refl _) _
  replace HX_aBase := Lib.hid (HX_aBase.out.below ha22 HX_aBase.out.lt)
  replace HX_w0 := Lib.hid (HX_w0.out.below ha22 HX_w0.out.lt)
  have HX_g0 : Hid (Bx w22 w15.heap.size #[.int .i64 (tmakeD aBase_0 aBase_1 aSecret aNonce aChal).1, .int .i64 (tmakeD aBase_0 aBase_1 aSecret aNonce aChal).2.1, .int .i64 (tmakeD aBase_0 aBase_1 aSecret aNonce aChal).2.2.1, .int .i64 (tmakeD aBase_0 aBase_1 aSecret aNonce aChal).2.2.2] 39) := Lib.hid (by rw [← hW22.out]; exact Bx.new _ _ _)
  replace HB := Lib.hid (HB.out.trans (ha22.mono (by omega)))
  clear ha22 hW22
  refine (l_eqTwin _ _ _ _ _).mono ?_
  rintro e w23 ⟨rfl, hb⟩
  have z23 : w22.heap.size ≤ w23.heap.size := hb.size
  replace HX_aBase := Lib.hid (HX_aBase.out.below hb HX_aBase.out.lt)
  replace HX_w0 := Lib.hid (HX_w0.out.below hb HX_w0.out.lt)
  replace HX_g0 := Lib.hid (HX_g0.out.below hb HX_g0.out.lt)
  replace HB := Lib.hid (HB.out.trans (hb.mono (by omega)))
  clear hb
  have fc24 : w23.cell? ⟨w.heap.size, 0, none⟩ = some (.int .i64 aBase_0) := HX_aBase.out.cell 0
  have fc25 : w23.cell? ⟨w.heap.size, 1, none⟩ = some (.int .i64 aBase_1) := HX_aBase.out.cell 1
  have fc26 : w23.cell? ⟨w4.heap.size, 0, none⟩ = some (.int .i64 (tmakeD aBase_0 aBase_1 aSecret aNonce aChal).1) := HX_w0.out.cell 0
  have fc27 : w23.cell? ⟨w4.heap.size, 1, none⟩ = some (.int .i64 (tmakeD aBase_0 aBase_1 aSecret aNonce aChal).2.1) := HX_w0.out.cell 1
  have fc28 : w23.cell? ⟨w4.heap.size, 2, none⟩ = some (.int .i64 (tmakeD aBase_0 aBase_1 aSecret aNonce aChal).2.2.1) := HX_w0.out.cell 2
  have fc29 : w23.cell? ⟨w4.heap.size, 3, none⟩ = some (.int .i64 (tmakeD aBase_0 aBase_1 aSecret aNonce aChal).2.2.2) := HX_w0.out.cell 3
  have fc30 : w23.cell? ⟨w15.heap.size, 0, none⟩ = some (.int .i64 (tmakeD aBase_0 aBase_1 aSecret aNonce aChal).1) := HX_g0.out.cell 0
  have fc31 : w23.cell? ⟨w15.heap.size, 1, none⟩ = some (.int .i64 (tmakeD aBase_0 aBase_1 aSecret aNonce aChal).2.1) := HX_g0.out.cell 1
  have fc32 : w23.cell? ⟨w15.heap.size, 2, none⟩ = some (.int .i64 (tmakeD aBase_0 aBase_1 aSecret aNonce aChal).2.2.1) := HX_g0.out.cell 2
  have fc33 : w23.cell? ⟨w15.heap.size, 3, none⟩ = some (.int .i64 (tmakeD aBase_0 aBase_1 aSecret aNonce aChal).2.2.2) := HX_g0.out.cell 3
  go_wp2
  go_ret
  exact ⟨rfl, HB.out⟩

set_option maxHeartbeats 4000000 in
theorem TwinGood_walk (aBase_0 : Int) (aBase_1 : Int) (aKey_0 : Int) (aKey_1 : Int) (aT_0 : Int) (aT_1 : Int) (aT_2 : Int) (aT_3 : Int) (w : World) (_w0_aBase : (Lit.int .i64 aBase_0).wf = true) (_w1_aBase : (Lit.int .i64 aBase_1).wf = true) (_w0_aKey : (Lit.int .i64 aKey_0).wf = true) (_w1_aKey : (Lit.int .i64 aKey_1).wf = true) (_w0_aT : (Lit.int .i64 aT_0).wf = true) (_w1_aT : (Lit.int .i64 aT_1).wf = true) (_w2_aT : (Lit.int .i64 aT_2).wf = true) (_w3_aT : (Lit.int .i64 aT_3).wf = true) :
    Calls Try.prog 9 #[.agg #[.int .i64 aBase_0, .int .i64 aBase_1], .agg #[.int .i64 aKey_0, .int .i64 aKey_1], .agg #[.int .i64 aT_0, .int .i64 aT_1, .int .i64 aT_2, .int .i64 aT_3]] w fun e w' => e = .returned (.bool true) ∧ Below w.heap.size w w' := by
  obtain ⟨W0, hW0⟩ : ∃ W, Hid ((((w.alloc (.cells #[.int .i64 aBase_0, .int .i64 aBase_1] 37)).alloc (.cells #[.int .i64 aKey_0, .int .i64 aKey_1] 37)).alloc (.cells #[.int .i64 aT_0, .int .i64 aT_1, .int .i64 aT_2, .int .i64 aT_3] 46)) = W) := ⟨_, Lib.hid rfl⟩
  have HB : Hid (Below w.heap.size w W0) := Lib.hid (by rw [← hW0.out]; exact (((Below.refl _ _).alloc (Nat.le_refl _) _).alloc (by simp only [World.size_alloc]; omega) _).alloc (by simp only [World.size_alloc]; omega) _)
  have z_0 : w.heap.size + 3 ≤ W0.heap.size := by rw [← hW0.out]; simp only [World.size_alloc]; omega
  have HX_aBase : Hid (Bx W0 (w.heap.size) #[.int .i64 aBase_0, .int .i64 aBase_1] 37) := Lib.hid (by rw [← hW0.out]; have := Bx.new w #[.int .i64 aBase_0, .int .i64 aBase_1] 37; exact ((this.alloc _).alloc _))
  have HX_aKey : Hid (Bx W0 (w.heap.size + 1) #[.int .i64 aKey_0, .int .i64 aKey_1] 37) := Lib.hid (by rw [← hW0.out]; have := Bx.new (w.alloc (.cells #[.int .i64 aBase_0, .int .i64 aBase_1] 37)) #[.int .i64 aKey_0, .int .i64 aKey_1] 37; simp only [World.size_alloc] at this; exact (this.alloc _))
  have HX_aT : Hid (Bx W0 (w.heap.size + 2) #[.int .i64 aT_0, .int .i64 aT_1, .int .i64 aT_2, .int .i64 aT_3] 46) := Lib.hid (by rw [← hW0.out]; have := Bx.new ((w.alloc (.cells #[.int .i64 aBase_0, .int .i64 aBase_1] 37)).alloc (.cells #[.int .i64 aKey_0, .int .i64 aKey_1] 37)) #[.int .i64 aT_0, .int .i64 aT_1, .int .i64 aT_2, .int .i64 aT_3] 46; simp only [World.size_alloc] at this; exact this)
  go_enter Try.func9, Try.ntmps9
  go_upto_region 1 with (fail)
  rw [hW0.out]
  clear hW0
  go_cut [7] from 9 (fun q0 w' => q0 = .bool (twinB aBase_0 aBase_1 aKey_0 aKey_1 aT_0 aT_1 aT_2 aT_3) ∧ Hid (Bx w' w.heap.size #[.int .i64 aBase_0, .int .i64 aBase_1] 37) ∧ Hid (Bx w' (w.heap.size + 1) #[.int .i64 aKey_0, .int .i64 aKey_1] 37) ∧ Hid (Bx w' (w.heap.size + 2) #[.int .i64 aT_0, .int .i64 aT_1, .int .i64 aT_2, .int .i64 aT_3] 46) ∧ Hid (Below w.heap.size w w'))
  case first =>
    go_wp2
    refine wp_region_held_drew (S := fun w' => w'.cell? ⟨w.heap.size, 0, none⟩ = some (.int .i64 aBase_0) ∧ w'.cell? ⟨w.heap.size, 1, none⟩ = some (.int .i64 aBase_1) ∧ w'.cell? ⟨(w.heap.size + 1), 0, none⟩ = some (.int .i64 aKey_0) ∧ w'.cell? ⟨(w.heap.size + 1), 1, none⟩ = some (.int .i64 aKey_1) ∧ w'.cell? ⟨(w.heap.size + 2), 0, none⟩ = some (.int .i64 aT_0) ∧ w'.cell? ⟨(w.heap.size + 2), 1, none⟩ = some (.int .i64 aT_1) ∧ w'.cell? ⟨(w.heap.size + 2), 2, none⟩ = some (.int .i64 aT_2) ∧ w'.cell? ⟨(w.heap.size + 2), 3, none⟩ = some (.int .i64 aT_3)) (by kernel_rfl) ⟨HX_aBase.out.cell 0, HX_aBase.out.cell 1, HX_aKey.out.cell 0, HX_aKey.out.cell 1, HX_aT.out.cell 0, HX_aT.out.cell 1, HX_aT.out.cell 2, HX_aT.out.cell 3⟩ (fun hHeld => ?_)
    obtain ⟨u0, hu0⟩ : ∃ u0, Hid (W0.drew = u0) := ⟨_, Lib.hid rfl⟩
    rw [hu0.out] at hHeld ⊢
    have zs0 : W0.heap.size = u0.heap.size := by rw [← hu0.out]; rfl
    replace zs0 := Nat.le_of_eq zs0
    have HBl0 : Hid (Below w.heap.size w u0) := Lib.hid (by rw [← hu0.out]; exact HB.out.drew)
    have HX_aBase0 : Hid (Bx u0 w.heap.size #[.int .i64 aBase_0, .int .i64 aBase_1] 37) := Lib.hid (by rw [← hu0.out]; exact HX_aBase.out)
    have HX_aKey0 : Hid (Bx u0 (w.heap.size + 1) #[.int .i64 aKey_0, .int .i64 aKey_1] 37) := Lib.hid (by rw [← hu0.out]; exact HX_aKey.out)
    have HX_aT0 : Hid (Bx u0 (w.heap.size + 2) #[.int .i64 aT_0, .int .i64 aT_1, .int .i64 aT_2, .int .i64 aT_3] 46) := Lib.hid (by rw [← hu0.out]; exact HX_aT.out)
    clear hu0
    refine wpAnyH_take (i := 0) (oi := { dst := some 9, op := Op.load 37 (Operand.tmp 3), type := 37, pos := "exact.go:2780", after := #[], guard := none }) (v := ?_) rfl (by kernel_rfl) (by kernel_rfl) (by kernel_rfl) (fun _ _ _ h => h) (Or.inl ⟨by rfl, ?_⟩) hHeld ?_
    rotate_left
    · intro w hSw; obtain ⟨s0, s1, s2, s3, s4, s5, s6, s7⟩ := hSw; (try dsimp only at hSw); go_simp; (try with_reducible rfl)
    try simp only [Act.put, List.setIfInBounds_toArray, List.set_cons_zero, List.set_cons_succ]
    refine wpAnyH_take (i := 2) (oi := { dst := some 11, op := Op.load 37 (Operand.tmp 4), type := 37, pos := "exact.go:2780", after := #[], guard := none }) (v := ?_) rfl (by kernel_rfl) (by kernel_rfl) (by kernel_rfl) (fun _ _ _ h => h) (Or.inl ⟨by rfl, ?_⟩) hHeld ?_
    rotate_left
    · intro w hSw; obtain ⟨s0, s1, s2, s3, s4, s5, s6, s7⟩ := hSw; (try dsimp only at hSw); go_simp; (try with_reducible rfl)
    try simp only [Act.put, List.setIfInBounds_toArray, List.set_cons_zero, List.set_cons_succ]
    refine wpAnyH_take (i := 4) (oi := { dst := some 13, op := Op.load 46 (Operand.tmp 5), type := 46, pos := "exact.go:2780", after := #[], guard := none }) (v := ?_) rfl (by kernel_rfl) (by kernel_rfl) (by kernel_rfl) (fun _ _ _ h => h) (Or.inl ⟨by rfl, ?_⟩) hHeld ?_
    rotate_left
    · intro w hSw; obtain ⟨s0, s1, s2, s3, s4, s5, s6, s7⟩ := hSw; (try dsimp only at hSw); go_simp; (try with_reducible rfl)
    try simp only [Act.put, List.setIfInBounds_toArray, List.set_cons_zero, List.set_cons_succ]
    refine wpAnyH_ready (rs := [1]) (by kernel_rfl) (by simp) ?_
    refine AllReadyH.cons (o := { dst := some 10, op := Op.call { callee := Callee.value (Operand.func 27), args := #[Operand.tmp 9], argTypes := #[37] }, type := 42, pos := "exact.go:2780", after := #[{ on := 0, ground := Ground.data }], guard := none }) rfl (fun K hK => ?_) ?_
    · go_simp
      refine (l_toPair aBase_0 aBase_1 u0).mono ?_
      rintro e u1 ⟨rfl, hb_⟩
      have zs1 : u0.heap.size ≤ u1.heap.size := hb_.size
      have HBl1 : Hid (Below w.heap.size w u1) := Lib.hid (HBl0.out.trans (hb_.mono HBl0.out.size))
      have HX_aBase1 : Hid (Bx u1 w.heap.size #[.int .i64 aBase_0, .int .i64 aBase_1] 37) := Lib.hid (HX_aBase0.out.below hb_ HX_aBase0.out.lt)
      have HX_aKey1 : Hid (Bx u1 (w.heap.size + 1) #[.int .i64 aKey_0, .int .i64 aKey_1] 37) := Lib.hid (HX_aKey0.out.below hb_ HX_aKey0.out.lt)
      have HX_aT1 : Hid (Bx u1 (w.heap.size + 2) #[.int .i64 aT_0, .int .i64 aT_1, .int .i64 aT_2, .int .i64 aT_3] 46) := Lib.hid (HX_aT0.out.below hb_ HX_aT0.out.lt)
      clear hHeld hb_ HBl0 HX_aBase0 HX_aKey0 HX_aT0
      (try dsimp only)
      (try go_wp2_with fail)
      refine hK.out _ _ ⟨HX_aBase1.out.cell 0, HX_aBase1.out.cell 1, HX_aKey1.out.cell 0, HX_aKey1.out.cell 1, HX_aT1.out.cell 0, HX_aT1.out.cell 1, HX_aT1.out.cell 2, HX_aT1.out.cell 3⟩ (fun hHeld => ?_)
      clear hK K
      try simp only [Act.put, List.setIfInBounds_toArray, List.set_cons_zero, List.set_cons_succ]
      refine wpAnyH_ready (rs := [3]) (by kernel_rfl) (by simp) ?_
      refine AllReadyH.cons (o := { dst := some 12, op := Op.call { callee := Callee.value (Operand.func 27), args := #[Operand.tmp 11], argTypes := #[37] }, type := 42, pos := "exact.go:2780", after := #[{ on := 2, ground := Ground.data }, { on := 1, ground := Ground.chain }], guard := none }) rfl (fun K hK => ?_) ?_
      · go_simp
        refine (l_toPair aKey_0 aKey_1 u1).mono ?_
        rintro e u2 ⟨rfl, hb_⟩
        have zs2 : u1.heap.size ≤ u2.heap.size := hb_.size
        have HBl2 : Hid (Below w.heap.size w u2) := Lib.hid (HBl1.out.trans (hb_.mono HBl1.out.size))
        have HX_aBase2 : Hid (Bx u2 w.heap.size #[.int .i64 aBase_0, .int .i64 aBase_1] 37) := Lib.hid (HX_aBase1.out.below hb_ HX_aBase1.out.lt)
        have HX_aKey2 : Hid (Bx u2 (w.heap.size + 1) #[.int .i64 aKey_0, .int .i64 aKey_1] 37) := Lib.hid (HX_aKey1.out.below hb_ HX_aKey1.out.lt)
        have HX_aT2 : Hid (Bx u2 (w.heap.size + 2) #[.int .i64 aT_0, .int .i64 aT_1, .int .i64 aT_2, .int .i64 aT_3] 46) := Lib.hid (HX_aT1.out.below hb_ HX_aT1.out.lt)
        clear hHeld hb_ HBl1 HX_aBase1 HX_aKey1 HX_aT1
        (try dsimp only)
        (try go_wp2_with fail)
        refine hK.out _ _ ⟨HX_aBase2.out.cell 0, HX_aBase2.out.cell 1, HX_aKey2.out.cell 0, HX_aKey2.out.cell 1, HX_aT2.out.cell 0, HX_aT2.out.cell 1, HX_aT2.out.cell 2, HX_aT2.out.cell 3⟩ (fun hHeld => ?_)
        clear hK K
        try simp only [Act.put, List.setIfInBounds_toArray, List.set_cons_zero, List.set_cons_succ]
        refine wpAnyH_ready (rs := [5]) (by kernel_rfl) (by simp) ?_
        refine AllReadyH.cons (o := { dst := some 14, op := Op.call { callee := Callee.value (Operand.func 31), args := #[Operand.tmp 13], argTypes := #[46] }, type := 39, pos := "exact.go:2780", after := #[{ on := 4, ground := Ground.data }, { on := 3, ground := Ground.chain }], guard := none }) rfl (fun K hK => ?_) ?_
        · go_simp
          refine (l_toTwin aT_0 aT_1 aT_2 aT_3 u2).mono ?_
          rintro e u3 ⟨rfl, hb_⟩
          have zs3 : u2.heap.size ≤ u3.heap.size := hb_.size
          have HBl3 : Hid (Below w.heap.size w u3) := Lib.hid (HBl2.out.trans (hb_.mono HBl2.out.size))
          have HX_aBase3 : Hid (Bx u3 w.heap.size #[.int .i64 aBase_0, .int .i64 aBase_1] 37) := Lib.hid (HX_aBase2.out.below hb_ HX_aBase2.out.lt)
          have HX_aKey3 : Hid (Bx u3 (w.heap.size + 1) #[.int .i64 aKey_0, .int .i64 aKey_1] 37) := Lib.hid (HX_aKey2.out.below hb_ HX_aKey2.out.lt)
          have HX_aT3 : Hid (Bx u3 (w.heap.size + 2) #[.int .i64 aT_0, .int .i64 aT_1, .int .i64 aT_2, .int .i64 aT_3] 46) := Lib.hid (HX_aT2.out.below hb_ HX_aT2.out.lt)
          clear hHeld hb_ HBl2 HX_aBase2 HX_aKey2 HX_aT2
          (try dsimp only)
          (try go_wp2_with fail)
          refine hK.out _ _ ⟨HX_aBase3.out.cell 0, HX_aBase3.out.cell 1, HX_aKey3.out.cell 0, HX_aKey3.out.cell 1, HX_aT3.out.cell 0, HX_aT3.out.cell 1, HX_aT3.out.cell 2, HX_aT3.out.cell 3⟩ (fun hHeld => ?_)
          clear hK K
          try simp only [Act.put, List.setIfInBounds_toArray, List.set_cons_zero, List.set_cons_succ]
          refine wpAnyH_ready (rs := [6]) (by kernel_rfl) (by simp) ?_
          refine AllReadyH.cons (o := { dst := some 15, op := Op.call { callee := Callee.value (Operand.func 30), args := #[Operand.tmp 10, Operand.tmp 12, Operand.tmp 14], argTypes := #[42, 42, 39] }, type := 4, pos := "exact.go:2780", after := #[{ on := 1, ground := Ground.data }, { on := 3, ground := Ground.data }, { on := 5, ground := Ground.data }, { on := 5, ground := Ground.chain }], guard := none }) rfl (fun K hK => ?_) ?_
          · go_simp
            refine (X_s_TwinGood aBase_0 aBase_1 aKey_0 aKey_1 aT_0 aT_1 aT_2 aT_3 u3).mono ?_
            rintro e u4 ⟨rfl, hb_⟩
            have zs4 : u3.heap.size ≤ u4.heap.size := hb_.size
            have HBl4 : Hid (Below w.heap.size w u4) := Lib.hid (HBl3.out.trans (hb_.mono HBl3.out.size))
            have HX_aBase4 : Hid (Bx u4 w.heap.size #[.int .i64 aBase_0, .int .i64 aBase_1] 37) := Lib.hid (HX_aBase3.out.below hb_ HX_aBase3.out.lt)
            have HX_aKey4 : Hid (Bx u4 (w.heap.size + 1) #[.int .i64 aKey_0, .int .i64 aKey_1] 37) := Lib.hid (HX_aKey3.out.below hb_ HX_aKey3.out.lt)
            have HX_aT4 : Hid (Bx u4 (w.heap.size + 2) #[.int .i64 aT_0, .int .i64 aT_1, .int .i64 aT_2, .int .i64 aT_3] 46) := Lib.hid (HX_aT3.out.below hb_ HX_aT3.out.lt)
            clear hHeld hb_ HBl3 HX_aBase3 HX_aKey3 HX_aT3
            (try dsimp only)
            (try go_wp2_with fail)
            refine hK.out _ _ ⟨HX_aBase4.out.cell 0, HX_aBase4.out.cell 1, HX_aKey4.out.cell 0, HX_aKey4.out.cell 1, HX_aT4.out.cell 0, HX_aT4.out.cell 1, HX_aT4.out.cell 2, HX_aT4.out.cell 3⟩ (fun hHeld => ?_)
            clear hK K
            try simp only [Act.put, List.setIfInBounds_toArray, List.set_cons_zero, List.set_cons_succ]
            refine wpAnyH_take (i := 7) (oi := { dst := some 7, op := Op.assign (Operand.tmp 15), type := 4, pos := "exact.go:2780", after := #[{ on := 6, ground := Ground.data }, { on := 6, ground := Ground.chain }, { on := 0, ground := Ground.phase }, { on := 1, ground := Ground.phase }, { on := 2, ground := Ground.phase }, { on := 3, ground := Ground.phase }, { on := 4, ground := Ground.phase }, { on := 5, ground := Ground.phase }, { on := 6, ground := Ground.phase }], guard := none }) (v := ?_) rfl (by kernel_rfl) (by kernel_rfl) (by kernel_rfl) (fun _ _ _ h => h) (Or.inl ⟨by rfl, ?_⟩) hHeld ?_
            rotate_left
            · intro w hSw; obtain ⟨s0, s1, s2, s3, s4, s5, s6, s7⟩ := hSw; (try dsimp only at hSw); go_simp; (try with_reducible rfl)
            try simp only [Act.put, List.setIfInBounds_toArray, List.set_cons_zero, List.set_cons_succ]
            refine wpAnyH_done (by kernel_rfl) ?_ _
            go_wp2
            go_meet
            case rel => exact ⟨rfl, HX_aBase4, HX_aKey4, HX_aT4, HBl4⟩
          exact AllReadyH.nil
        exact AllReadyH.nil
      exact AllReadyH.nil
    exact AllReadyH.nil
  case rest =>
    clear HB HX_aBase HX_aKey HX_aT
    obtain ⟨rfl, HX_aBase, HX_aKey, HX_aT, HB⟩ := hcut
    obtain ⟨wc0, hwc⟩ : ∃ W, W = wc := ⟨_, rfl⟩
    subst hwc
    have zc0 := HB.out.size
    have fc1 : wc0.cell? ⟨w.heap.size, 0, none⟩ = some (.int .i64 aBase_0) := HX_aBase.out.cell 0
    have fc2 : wc0.cell? ⟨w.heap.size, 1, none⟩ = some (.int .i64 aBase_1) := HX_aBase.out.cell 1
    have fc3 : wc0.cell? ⟨(w.heap.size + 1), 0, none⟩ = some (.int .i64 aKey_0) := HX_aKey.out.cell 0
    have fc4 : wc0.cell? ⟨(w.heap.size + 1), 1, none⟩ = some (.int .i64 aKey_1) := HX_aKey.out.cell 1
    have fc5 : wc0.cell? ⟨(w.heap.size + 2), 0, none⟩ = some (.int .i64 aT_0) := HX_aT.out.cell 0
    have fc6 : wc0.cell? ⟨(w.heap.size + 2), 1, none⟩ = some (.int .i64 aT_1) := HX_aT.out.cell 1
    have fc7 : wc0.cell? ⟨(w.heap.size + 2), 2, none⟩ = some (.int .i64 aT_2) := HX_aT.out.cell 2
    have fc8 : wc0.cell? ⟨(w.heap.size + 2), 3, none⟩ = some (.int .i64 aT_3) := HX_aT.out.cell 3
    go_upto_region 2 with (fail)
    clear fc1 fc2 fc3 fc4 fc5 fc6 fc7 fc8
    go_cut [8] from 16 (fun q0 w' => q0 = .bool (twinB aBase_0 aBase_1 aKey_0 aKey_1 aT_0 aT_1 aT_2 aT_3) ∧ Hid (Bx w' w.heap.size #[.int .i64 aBase_0, .int .i64 aBase_1] 37) ∧ Hid (Bx w' (w.heap.size + 1) #[.int .i64 aKey_0, .int .i64 aKey_1] 37) ∧ Hid (Bx w' (w.heap.size + 2) #[.int .i64 aT_0, .int .i64 aT_1, .int .i64 aT_2, .int .i64 aT_3] 46) ∧ Hid (Below w.heap.size w w'))
    case first =>
      go_wp2
      refine wp_region_held_drew (S := fun w' => w'.cell? ⟨w.heap.size, 0, none⟩ = some (.int .i64 aBase_0) ∧ w'.cell? ⟨w.heap.size, 1, none⟩ = some (.int .i64 aBase_1) ∧ w'.cell? ⟨(w.heap.size + 1), 0, none⟩ = some (.int .i64 aKey_0) ∧ w'.cell? ⟨(w.heap.size + 1), 1, none⟩ = some (.int .i64 aKey_1) ∧ w'.cell? ⟨(w.heap.size + 2), 0, none⟩ = some (.int .i64 aT_0) ∧ w'.cell? ⟨(w.heap.size + 2), 1, none⟩ = some (.int .i64 aT_1) ∧ w'.cell? ⟨(w.heap.size + 2), 2, none⟩ = some (.int .i64 aT_2) ∧ w'.cell? ⟨(w.heap.size + 2), 3, none⟩ = some (.int .i64 aT_3)) (by kernel_rfl) ⟨HX_aBase.out.cell 0, HX_aBase.out.cell 1, HX_aKey.out.cell 0, HX_aKey.out.cell 1, HX_aT.out.cell 0, HX_aT.out.cell 1, HX_aT.out.cell 2, HX_aT.out.cell 3⟩ (fun hHeld => ?_)
      obtain ⟨u0, hu0⟩ : ∃ u0, Hid (wc0.drew = u0) := ⟨_, Lib.hid rfl⟩
      rw [hu0.out] at hHeld ⊢
      have zs0 : wc0.heap.size = u0.heap.size := by rw [← hu0.out]; rfl
      replace zs0 := Nat.le_of_eq zs0
      have HBl0 : Hid (Below w.heap.size w u0) := Lib.hid (by rw [← hu0.out]; exact HB.out.drew)
      have HX_aBase0 : Hid (Bx u0 w.heap.size #[.int .i64 aBase_0, .int .i64 aBase_1] 37) := Lib.hid (by rw [← hu0.out]; exact HX_aBase.out)
      have HX_aKey0 : Hid (Bx u0 (w.heap.size + 1) #[.int .i64 aKey_0, .int .i64 aKey_1] 37) := Lib.hid (by rw [← hu0.out]; exact HX_aKey.out)
      have HX_aT0 : Hid (Bx u0 (w.heap.size + 2) #[.int .i64 aT_0, .int .i64 aT_1, .int .i64 aT_2, .int .i64 aT_3] 46) := Lib.hid (by rw [← hu0.out]; exact HX_aT.out)
      clear hu0
      refine wpAnyH_take (i := 0) (oi := { dst := some 16, op := Op.load 37 (Operand.tmp 3), type := 37, pos := "exact.go:2781", after := #[], guard := none }) (v := ?_) rfl (by kernel_rfl) (by kernel_rfl) (by kernel_rfl) (fun _ _ _ h => h) (Or.inl ⟨by rfl, ?_⟩) hHeld ?_
      rotate_left
      · intro w hSw; obtain ⟨s0, s1, s2, s3, s4, s5, s6, s7⟩ := hSw; (try dsimp only at hSw); go_simp; (try with_reducible rfl)
      try simp only [Act.put, List.setIfInBounds_toArray, List.set_cons_zero, List.set_cons_succ]
      refine wpAnyH_take (i := 2) (oi := { dst := some 18, op := Op.load 37 (Operand.tmp 4), type := 37, pos := "exact.go:2781", after := #[], guard := none }) (v := ?_) rfl (by kernel_rfl) (by kernel_rfl) (by kernel_rfl) (fun _ _ _ h => h) (Or.inl ⟨by rfl, ?_⟩) hHeld ?_
      rotate_left
      · intro w hSw; obtain ⟨s0, s1, s2, s3, s4, s5, s6, s7⟩ := hSw; (try dsimp only at hSw); go_simp; (try with_reducible rfl)
      try simp only [Act.put, List.setIfInBounds_toArray, List.set_cons_zero, List.set_cons_succ]
      refine wpAnyH_take (i := 4) (oi := { dst := some 20, op := Op.load 46 (Operand.tmp 5), type := 46, pos := "exact.go:2781", after := #[], guard := none }) (v := ?_) rfl (by kernel_rfl) (by kernel_rfl) (by kernel_rfl) (fun _ _ _ h => h) (Or.inl ⟨by rfl, ?_⟩) hHeld ?_
      rotate_left
      · intro w hSw; obtain ⟨s0, s1, s2, s3, s4, s5, s6, s7⟩ := hSw; (try dsimp only at hSw); go_simp; (try with_reducible rfl)
      try simp only [Act.put, List.setIfInBounds_toArray, List.set_cons_zero, List.set_cons_succ]
      refine wpAnyH_ready (rs := [1]) (by kernel_rfl) (by simp) ?_
      refine AllReadyH.cons (o := { dst := some 17, op := Op.call { callee := Callee.value (Operand.func 27), args := #[Operand.tmp 16], argTypes := #[37] }, type := 42, pos := "exact.go:2781", after := #[{ on := 0, ground := Ground.data }], guard := none }) rfl (fun K hK => ?_) ?_
      · go_simp
        refine (l_toPair aBase_0 aBase_1 u0).mono ?_
        rintro e u1 ⟨rfl, hb_⟩
        have zs1 : u0.heap.size ≤ u1.heap.size := hb_.size
        have HBl1 : Hid (Below w.heap.size w u1) := Lib.hid (HBl0.out.trans (hb_.mono HBl0.out.size))
        have HX_aBase1 : Hid (Bx u1 w.heap.size #[.int .i64 aBase_0, .int .i64 aBase_1] 37) := Lib.hid (HX_aBase0.out.below hb_ HX_aBase0.out.lt)
        have HX_aKey1 : Hid (Bx u1 (w.heap.size + 1) #[.int .i64 aKey_0, .int .i64 aKey_1] 37) := Lib.hid (HX_aKey0.out.below hb_ HX_aKey0.out.lt)
        have HX_aT1 : Hid (Bx u1 (w.heap.size + 2) #[.int .i64 aT_0, .int .i64 aT_1, .int .i64 aT_2, .int .i64 aT_3] 46) := Lib.hid (HX_aT0.out.below hb_ HX_aT0.out.lt)
        clear hHeld hb_ HBl0 HX_aBase0 HX_aKey0 HX_aT0
        (try dsimp only)
        (try go_wp2_with fail)
        refine hK.out _ _ ⟨HX_aBase1.out.cell 0, HX_aBase1.out.cell 1, HX_aKey1.out.cell 0, HX_aKey1.out.cell 1, HX_aT1.out.cell 0, HX_aT1.out.cell 1, HX_aT1.out.cell 2, HX_aT1.out.cell 3⟩ (fun hHeld => ?_)
        clear hK K
        try simp only [Act.put, List.setIfInBounds_toArray, List.set_cons_zero, List.set_cons_succ]
        refine wpAnyH_ready (rs := [3]) (by kernel_rfl) (by simp) ?_
        refine AllReadyH.cons (o := { dst := some 19, op := Op.call { callee := Callee.value (Operand.func 27), args := #[Operand.tmp 18], argTypes := #[37] }, type := 42, pos := "exact.go:2781", after := #[{ on := 2, ground := Ground.data }, { on := 1, ground := Ground.chain }], guard := none }) rfl (fun K hK => ?_) ?_
        · go_simp
          refine (l_toPair aKey_0 aKey_1 u1).mono ?_
          rintro e u2 ⟨rfl, hb_⟩
          have zs2 : u1.heap.size ≤ u2.heap.size := hb_.size
          have HBl2 : Hid (Below w.heap.size w u2) := Lib.hid (HBl1.out.trans (hb_.mono HBl1.out.size))
          have HX_aBase2 : Hid (Bx u2 w.heap.size #[.int .i64 aBase_0, .int .i64 aBase_1] 37) := Lib.hid (HX_aBase1.out.below hb_ HX_aBase1.out.lt)
          have HX_aKey2 : Hid (Bx u2 (w.heap.size + 1) #[.int .i64 aKey_0, .int .i64 aKey_1] 37) := Lib.hid (HX_aKey1.out.below hb_ HX_aKey1.out.lt)
          have HX_aT2 : Hid (Bx u2 (w.heap.size + 2) #[.int .i64 aT_0, .int .i64 aT_1, .int .i64 aT_2, .int .i64 aT_3] 46) := Lib.hid (HX_aT1.out.below hb_ HX_aT1.out.lt)
          clear hHeld hb_ HBl1 HX_aBase1 HX_aKey1 HX_aT1
          (try dsimp only)
          (try go_wp2_with fail)
          refine hK.out _ _ ⟨HX_aBase2.out.cell 0, HX_aBase2.out.cell 1, HX_aKey2.out.cell 0, HX_aKey2.out.cell 1, HX_aT2.out.cell 0, HX_aT2.out.cell 1, HX_aT2.out.cell 2, HX_aT2.out.cell 3⟩ (fun hHeld => ?_)
          clear hK K
          try simp only [Act.put, List.setIfInBounds_toArray, List.set_cons_zero, List.set_cons_succ]
          refine wpAnyH_ready (rs := [5]) (by kernel_rfl) (by simp) ?_
          refine AllReadyH.cons (o := { dst := some 21, op := Op.call { callee := Callee.value (Operand.func 31), args := #[Operand.tmp 20], argTypes := #[46] }, type := 39, pos := "exact.go:2781", after := #[{ on := 4, ground := Ground.data }, { on := 3, ground := Ground.chain }], guard := none }) rfl (fun K hK => ?_) ?_
          · go_simp
            refine (l_toTwin aT_0 aT_1 aT_2 aT_3 u2).mono ?_
            rintro e u3 ⟨rfl, hb_⟩
            have zs3 : u2.heap.size ≤ u3.heap.size := hb_.size
            have HBl3 : Hid (Below w.heap.size w u3) := Lib.hid (HBl2.out.trans (hb_.mono HBl2.out.size))
            have HX_aBase3 : Hid (Bx u3 w.heap.size #[.int .i64 aBase_0, .int .i64 aBase_1] 37) := Lib.hid (HX_aBase2.out.below hb_ HX_aBase2.out.lt)
            have HX_aKey3 : Hid (Bx u3 (w.heap.size + 1) #[.int .i64 aKey_0, .int .i64 aKey_1] 37) := Lib.hid (HX_aKey2.out.below hb_ HX_aKey2.out.lt)
            have HX_aT3 : Hid (Bx u3 (w.heap.size + 2) #[.int .i64 aT_0, .int .i64 aT_1, .int .i64 aT_2, .int .i64 aT_3] 46) := Lib.hid (HX_aT2.out.below hb_ HX_aT2.out.lt)
            clear hHeld hb_ HBl2 HX_aBase2 HX_aKey2 HX_aT2
            (try dsimp only)
            (try go_wp2_with fail)
            refine hK.out _ _ ⟨HX_aBase3.out.cell 0, HX_aBase3.out.cell 1, HX_aKey3.out.cell 0, HX_aKey3.out.cell 1, HX_aT3.out.cell 0, HX_aT3.out.cell 1, HX_aT3.out.cell 2, HX_aT3.out.cell 3⟩ (fun hHeld => ?_)
            clear hK K
            try simp only [Act.put, List.setIfInBounds_toArray, List.set_cons_zero, List.set_cons_succ]
            refine wpAnyH_ready (rs := [6]) (by kernel_rfl) (by simp) ?_
            refine AllReadyH.cons (o := { dst := some 22, op := Op.call { callee := Callee.value (Operand.func 32), args := #[Operand.tmp 17, Operand.tmp 19, Operand.tmp 21], argTypes := #[42, 42, 39] }, type := 4, pos := "exact.go:2781", after := #[{ on := 1, ground := Ground.data }, { on := 3, ground := Ground.data }, { on := 5, ground := Ground.data }, { on := 5, ground := Ground.chain }], guard := none }) rfl (fun K hK => ?_) ?_
            · go_simp
              refine (X_i_TwinGood aBase_0 aBase_1 aKey_0 aKey_1 aT_0 aT_1 aT_2 aT_3 u3).mono ?_
              rintro e u4 ⟨rfl, hb_⟩
              have zs4 : u3.heap.size ≤ u4.heap.size := hb_.size
              have HBl4 : Hid (Below w.heap.size w u4) := Lib.hid (HBl3.out.trans (hb_.mono HBl3.out.size))
              have HX_aBase4 : Hid (Bx u4 w.heap.size #[.int .i64 aBase_0, .int .i64 aBase_1] 37) := Lib.hid (HX_aBase3.out.below hb_ HX_aBase3.out.lt)
              have HX_aKey4 : Hid (Bx u4 (w.heap.size + 1) #[.int .i64 aKey_0, .int .i64 aKey_1] 37) := Lib.hid (HX_aKey3.out.below hb_ HX_aKey3.out.lt)
              have HX_aT4 : Hid (Bx u4 (w.heap.size + 2) #[.int .i64 aT_0, .int .i64 aT_1, .int .i64 aT_2, .int .i64 aT_3] 46) := Lib.hid (HX_aT3.out.below hb_ HX_aT3.out.lt)
              clear hHeld hb_ HBl3 HX_aBase3 HX_aKey3 HX_aT3
              (try dsimp only)
              (try go_wp2_with fail)
              refine hK.out _ _ ⟨HX_aBase4.out.cell 0, HX_aBase4.out.cell 1, HX_aKey4.out.cell 0, HX_aKey4.out.cell 1, HX_aT4.out.cell 0, HX_aT4.out.cell 1, HX_aT4.out.cell 2, HX_aT4.out.cell 3⟩ (fun hHeld => ?_)
              clear hK K
              try simp only [Act.put, List.setIfInBounds_toArray, List.set_cons_zero, List.set_cons_succ]
              refine wpAnyH_take (i := 7) (oi := { dst := some 8, op := Op.assign (Operand.tmp 22), type := 4, pos := "exact.go:2781", after := #[{ on := 6, ground := Ground.data }, { on := 6, ground := Ground.chain }, { on := 0, ground := Ground.phase }, { on := 1, ground := Ground.phase }, { on := 2, ground := Ground.phase }, { on := 3, ground := Ground.phase }, { on := 4, ground := Ground.phase }, { on := 5, ground := Ground.phase }, { on := 6, ground := Ground.phase }], guard := none }) (v := ?_) rfl (by kernel_rfl) (by kernel_rfl) (by kernel_rfl) (fun _ _ _ h => h) (Or.inl ⟨by rfl, ?_⟩) hHeld ?_
              rotate_left
              · intro w hSw; obtain ⟨s0, s1, s2, s3, s4, s5, s6, s7⟩ := hSw; (try dsimp only at hSw); go_simp; (try with_reducible rfl)
              try simp only [Act.put, List.setIfInBounds_toArray, List.set_cons_zero, List.set_cons_succ]
              refine wpAnyH_done (by kernel_rfl) ?_ _
              go_wp2
              go_meet
              case rel => exact ⟨rfl, HX_aBase4, HX_aKey4, HX_aT4, HBl4⟩
            exact AllReadyH.nil
          exact AllReadyH.nil
        exact AllReadyH.nil
      exact AllReadyH.nil
    case rest =>
      clear HB HX_aBase HX_aKey HX_aT
      obtain ⟨rfl, HX_aBase, HX_aKey, HX_aT, HB⟩ := hcut
      obtain ⟨wc1, hwc⟩ : ∃ W, W = wc := ⟨_, rfl⟩
      subst hwc
      have zc1 := HB.out.size
      have fc9 : wc1.cell? ⟨w.heap.size, 0, none⟩ = some (.int .i64 aBase_0) := HX_aBase.out.cell 0
      have fc10 : wc1.cell? ⟨w.heap.size, 1, none⟩ = some (.int .i64 aBase_1) := HX_aBase.out.cell 1
      have fc11 : wc1.cell? ⟨(w.heap.size + 1), 0, none⟩ = some (.int .i64 aKey_0) := HX_aKey.out.cell 0
      have fc12 : wc1.cell? ⟨(w.heap.size + 1), 1, none⟩ = some (.int .i64 aKey_1) := HX_aKey.out.cell 1
      have fc13 : wc1.cell? ⟨(w.heap.size + 2), 0, none⟩ = some (.int .i64 aT_0) := HX_aT.out.cell 0
      have fc14 : wc1.cell? ⟨(w.heap.size + 2), 1, none⟩ = some (.int .i64 aT_1) := HX_aT.out.cell 1
      have fc15 : wc1.cell? ⟨(w.heap.size + 2), 2, none⟩ = some (.int .i64 aT_2) := HX_aT.out.cell 2
      have fc16 : wc1.cell? ⟨(w.heap.size + 2), 3, none⟩ = some (.int .i64 aT_3) := HX_aT.out.cell 3
      go_wp2
      go_ret
      exact ⟨rfl, HB.out⟩

set_option maxHeartbeats 4000000 in
theorem TwinFeign_walk (aBase_0 : Int) (aBase_1 : Int) (aKey_0 : Int) (aKey_1 : Int) (aChal : Int) (aResp : Int) (w : World) (_w0_aBase : (Lit.int .i64 aBase_0).wf = true) (_w1_aBase : (Lit.int .i64 aBase_1).wf = true) (_w0_aKey : (Lit.int .i64 aKey_0).wf = true) (_w1_aKey : (Lit.int .i64 aKey_1).wf = true) (_w_aChal : (Lit.int .i64 aChal).wf = true) (_w_aResp : (Lit.int .i64 aResp).wf = true) :
    Calls Try.prog 10 #[.agg #[.int .i64 aBase_0, .int .i64 aBase_1], .agg #[.int .i64 aKey_0, .int .i64 aKey_1], .int .i64 aChal, .int .i64 aResp] w fun e w' => e = .returned (.bool true) ∧ Below w.heap.size w w' := by
  obtain ⟨W0, hW0⟩ : ∃ W, Hid (((w.alloc (.cells #[.int .i64 aBase_0, .int .i64 aBase_1] 37)).alloc (.cells #[.int .i64 aKey_0, .int .i64 aKey_1] 37)) = W) := ⟨_, Lib.hid rfl⟩
  have HB : Hid (Below w.heap.size w W0) := Lib.hid (by rw [← hW0.out]; exact ((Below.refl _ _).alloc (Nat.le_refl _) _).alloc (by simp only [World.size_alloc]; omega) _)
  have z_0 : w.heap.size + 2 ≤ W0.heap.size := by rw [← hW0.out]; simp only [World.size_alloc]; omega
  have HX_aBase : Hid (Bx W0 (w.heap.size) #[.int .i64 aBase_0, .int .i64 aBase_1] 37) := Lib.hid (by rw [← hW0.out]; have := Bx.new w #[.int .i64 aBase_0, .int .i64 aBase_1] 37; exact (this.alloc _))
  have HX_aKey : Hid (Bx W0 (w.heap.size + 1) #[.int .i64 aKey_0, .int .i64 aKey_1] 37) := Lib.hid (by rw [← hW0.out]; have := Bx.new (w.alloc (.cells #[.int .i64 aBase_0, .int .i64 aBase_1] 37)) #[.int .i64 aKey_0, .int .i64 aKey_1] 37; simp only [World.size_alloc] at this; exact this)
  go_enter Try.func10, Try.ntmps10
  go_upto_region 1 with (fail)
  rw [hW0.out]
  clear hW0
  go_cut [9, 10] from 13 (fun p q0 w' => ∃ B0 : Nat, p = .pointer (some ⟨B0, 0, none⟩) ∧ q0 = .bool (twinFB aBase_0 aBase_1 aKey_0 aKey_1 aChal aResp) ∧ Hid (Bx w' B0 #[.int .i64 (tfeignD aBase_0 aBase_1 aKey_0 aKey_1 aChal aResp).1, .int .i64 (tfeignD aBase_0 aBase_1 aKey_0 aKey_1 aChal aResp).2.1, .int .i64 (tfeignD aBase_0 aBase_1 aKey_0 aKey_1 aChal aResp).2.2.1, .int .i64 (tfeignD aBase_0 aBase_1 aKey_0 aKey_1 aChal aResp).2.2.2] 39) ∧ Hid (Bx w' w.heap.size #[.int .i64 aBase_0, .int .i64 aBase_1] 37) ∧ Hid (Bx w' (w.heap.size + 1) #[.int .i64 aKey_0, .int .i64 aKey_1] 37) ∧ W0.heap.size ≤ B0 ∧ Hid (Below w.heap.size w w'))
  case first =>
    go_wp2
    refine wp_region_held_drew (S := fun w' => w'.cell? ⟨w.heap.size, 0, none⟩ = some (.int .i64 aBase_0) ∧ w'.cell? ⟨w.heap.size, 1, none⟩ = some (.int .i64 aBase_1) ∧ w'.cell? ⟨(w.heap.size + 1), 0, none⟩ = some (.int .i64 aKey_0) ∧ w'.cell? ⟨(w.heap.size + 1), 1, none⟩ = some (.int .i64 aKey_1)) (by kernel_rfl) ⟨HX_aBase.out.cell 0, HX_aBase.out.cell 1, HX_aKey.out.cell 0, HX_aKey.out.cell 1⟩ (fun hHeld => ?_)
    obtain ⟨u0, hu0⟩ : ∃ u0, Hid (W0.drew = u0) := ⟨_, Lib.hid rfl⟩
    rw [hu0.out] at hHeld ⊢
    have zs0 : W0.heap.size = u0.heap.size := by rw [← hu0.out]; rfl
    replace zs0 := Nat.le_of_eq zs0
    have HBl0 : Hid (Below w.heap.size w u0) := Lib.hid (by rw [← hu0.out]; exact HB.out.drew)
    have HX_aBase0 : Hid (Bx u0 w.heap.size #[.int .i64 aBase_0, .int .i64 aBase_1] 37) := Lib.hid (by rw [← hu0.out]; exact HX_aBase.out)
    have HX_aKey0 : Hid (Bx u0 (w.heap.size + 1) #[.int .i64 aKey_0, .int .i64 aKey_1] 37) := Lib.hid (by rw [← hu0.out]; exact HX_aKey.out)
    clear hu0
    refine wpAnyH_take (i := 0) (oi := { dst := some 14, op := Op.load 37 (Operand.tmp 4), type := 37, pos := "exact.go:2790", after := #[], guard := none }) (v := ?_) rfl (by kernel_rfl) (by kernel_rfl) (by kernel_rfl) (fun _ _ _ h => h) (Or.inl ⟨by rfl, ?_⟩) hHeld ?_
    rotate_left
    · intro w hSw; obtain ⟨s0, s1, s2, s3⟩ := hSw; (try dsimp only at hSw); go_simp; (try with_reducible rfl)
    try simp only [Act.put, List.setIfInBounds_toArray, List.set_cons_zero, List.set_cons_succ]
    refine wpAnyH_take (i := 2) (oi := { dst := some 16, op := Op.load 37 (Operand.tmp 5), type := 37, pos := "exact.go:2790", after := #[], guard := none }) (v := ?_) rfl (by kernel_rfl) (by kernel_rfl) (by kernel_rfl) (fun _ _ _ h => h) (Or.inl ⟨by rfl, ?_⟩) hHeld ?_
    rotate_left
    · intro w hSw; obtain ⟨s0, s1, s2, s3⟩ := hSw; (try dsimp only at hSw); go_simp; (try with_reducible rfl)
    try simp only [Act.put, List.setIfInBounds_toArray, List.set_cons_zero, List.set_cons_succ]
    refine wpAnyH_take (i := 4) (oi := { dst := some 18, op := Op.move (Operand.tmp 2), type := 3, pos := "exact.go:2790", after := #[], guard := none }) (v := ?_) rfl (by kernel_rfl) (by kernel_rfl) (by kernel_rfl) (fun _ _ _ h => h) (Or.inl ⟨by rfl, ?_⟩) hHeld ?_
    rotate_left
    · intro w hSw; obtain ⟨s0, s1, s2, s3⟩ := hSw; (try dsimp only at hSw); go_simp; (try with_reducible rfl)
    try simp only [Act.put, List.setIfInBounds_toArray, List.set_cons_zero, List.set_cons_succ]
    refine wpAnyH_take (i := 5) (oi := { dst := some 19, op := Op.move (Operand.tmp 3), type := 3, pos := "exact.go:2790", after := #[], guard := none }) (v := ?_) rfl (by kernel_rfl) (by kernel_rfl) (by kernel_rfl) (fun _ _ _ h => h) (Or.inl ⟨by rfl, ?_⟩) hHeld ?_
    rotate_left
    · intro w hSw; obtain ⟨s0, s1, s2, s3⟩ := hSw; (try dsimp only at hSw); go_simp; (try with_reducible rfl)
    try simp only [Act.put, List.setIfInBounds_toArray, List.set_cons_zero, List.set_cons_succ]
    refine wpAnyH_ready (rs := [1, 10]) (by kernel_rfl) (by simp) ?_
    refine AllReadyH.cons (o := { dst := some 15, op := Op.call { callee := Callee.value (Operand.func 27), args := #[Operand.tmp 14], argTypes := #[37] }, type := 42, pos := "exact.go:2790", after := #[{ on := 0, ground := Ground.data }], guard := none }) rfl (fun K hK => ?_) ?_
    · go_simp
      refine (l_toPair aBase_0 aBase_1 u0).mono ?_
      rintro e u1 ⟨rfl, hb_⟩
      have zs1 : u0.heap.size ≤ u1.heap.size := hb_.size
      have HBl1 : Hid (Below w.heap.size w u1) := Lib.hid (HBl0.out.trans (hb_.mono HBl0.out.size))
      have HX_aBase1 : Hid (Bx u1 w.heap.size #[.int .i64 aBase_0, .int .i64 aBase_1] 37) := Lib.hid (HX_aBase0.out.below hb_ HX_aBase0.out.lt)
      have HX_aKey1 : Hid (Bx u1 (w.heap.size + 1) #[.int .i64 aKey_0, .int .i64 aKey_1] 37) := Lib.hid (HX_aKey0.out.below hb_ HX_aKey0.out.lt)
      clear hHeld hb_ HBl0 HX_aBase0 HX_aKey0
      (try dsimp only)
      (try go_wp2_with fail)
      refine hK.out _ _ ⟨HX_aBase1.out.cell 0, HX_aBase1.out.cell 1, HX_aKey1.out.cell 0, HX_aKey1.out.cell 1⟩ (fun hHeld => ?_)
      clear hK K
      try simp only [Act.put, List.setIfInBounds_toArray, List.set_cons_zero, List.set_cons_succ]
      refine wpAnyH_ready (rs := [3, 10]) (by kernel_rfl) (by simp) ?_
      refine AllReadyH.cons (o := { dst := some 17, op := Op.call { callee := Callee.value (Operand.func 27), args := #[Operand.tmp 16], argTypes := #[37] }, type := 42, pos := "exact.go:2790", after := #[{ on := 2, ground := Ground.data }, { on := 1, ground := Ground.chain }], guard := none }) rfl (fun K hK => ?_) ?_
      · go_simp
        refine (l_toPair aKey_0 aKey_1 u1).mono ?_
        rintro e u2 ⟨rfl, hb_⟩
        have zs2 : u1.heap.size ≤ u2.heap.size := hb_.size
        have HBl2 : Hid (Below w.heap.size w u2) := Lib.hid (HBl1.out.trans (hb_.mono HBl1.out.size))
        have HX_aBase2 : Hid (Bx u2 w.heap.size #[.int .i64 aBase_0, .int .i64 aBase_1] 37) := Lib.hid (HX_aBase1.out.below hb_ HX_aBase1.out.lt)
        have HX_aKey2 : Hid (Bx u2 (w.heap.size + 1) #[.int .i64 aKey_0, .int .i64 aKey_1] 37) := Lib.hid (HX_aKey1.out.below hb_ HX_aKey1.out.lt)
        clear hHeld hb_ HBl1 HX_aBase1 HX_aKey1
        (try dsimp only)
        (try go_wp2_with fail)
        refine hK.out _ _ ⟨HX_aBase2.out.cell 0, HX_aBase2.out.cell 1, HX_aKey2.out.cell 0, HX_aKey2.out.cell 1⟩ (fun hHeld => ?_)
        clear hK K
        try simp only [Act.put, List.setIfInBounds_toArray, List.set_cons_zero, List.set_cons_succ]
        refine wpAnyH_ready (rs := [6, 10]) (by kernel_rfl) (by simp) ?_
        refine AllReadyH.cons (o := { dst := some 20, op := Op.call { callee := Callee.value (Operand.func 33), args := #[Operand.tmp 15, Operand.tmp 17, Operand.tmp 18, Operand.tmp 19], argTypes := #[42, 42, 3, 3] }, type := 40, pos := "exact.go:2790", after := #[{ on := 1, ground := Ground.data }, { on := 3, ground := Ground.data }, { on := 4, ground := Ground.data }, { on := 5, ground := Ground.data }, { on := 3, ground := Ground.chain }], guard := none }) rfl (fun K hK => ?_) ?_
        · go_simp
          refine (X_s_TwinFeign aBase_0 aBase_1 aKey_0 aKey_1 aChal aResp u2).mono ?_
          rintro e u3 ⟨rfl, hb_⟩
          have zs3 : u2.heap.size ≤ u3.heap.size := hb_.size
          have HBl3 : Hid (Below w.heap.size w u3) := Lib.hid (HBl2.out.trans (hb_.mono HBl2.out.size))
          have HX_aBase3 : Hid (Bx u3 w.heap.size #[.int .i64 aBase_0, .int .i64 aBase_1] 37) := Lib.hid (HX_aBase2.out.below hb_ HX_aBase2.out.lt)
          have HX_aKey3 : Hid (Bx u3 (w.heap.size + 1) #[.int .i64 aKey_0, .int .i64 aKey_1] 37) := Lib.hid (HX_aKey2.out.below hb_ HX_aKey2.out.lt)
          clear hHeld hb_ HBl2 HX_aBase2 HX_aKey2
          (try dsimp only)
          (try go_wp2_with fail)
          refine hK.out _ _ ⟨HX_aBase3.out.cell 0, HX_aBase3.out.cell 1, HX_aKey3.out.cell 0, HX_aKey3.out.cell 1⟩ (fun hHeld => ?_)
          clear hK K
          try simp only [Act.put, List.setIfInBounds_toArray, List.set_cons_zero, List.set_cons_succ]
          refine wpAnyH_take (i := 7) (oi := { dst := some 13, op := Op.move (Operand.tmp 20), type := 40, pos := "exact.go:2790", after := #[{ on := 6, ground := Ground.data }], guard := none }) (v := ?_) rfl (by kernel_rfl) (by kernel_rfl) (by kernel_rfl) (fun _ _ _ h => h) (Or.inl ⟨by rfl, ?_⟩) hHeld ?_
          rotate_left
          · intro w hSw; obtain ⟨s0, s1, s2, s3⟩ := hSw; (try dsimp only at hSw); go_simp; (try with_reducible rfl)
          try simp only [Act.put, List.setIfInBounds_toArray, List.set_cons_zero, List.set_cons_succ]
          refine wpAnyH_take (i := 8) (oi := { dst := some 21, op := Op.extract (Operand.tmp 13) 0, type := 39, pos := "exact.go:2790", after := #[{ on := 7, ground := Ground.data }], guard := none }) (v := ?_) rfl (by kernel_rfl) (by kernel_rfl) (by kernel_rfl) (fun _ _ _ h => h) (Or.inl ⟨by rfl, ?_⟩) hHeld ?_
          rotate_left
          · intro w hSw; obtain ⟨s0, s1, s2, s3⟩ := hSw; (try dsimp only at hSw); go_simp; (try with_reducible rfl)
          try simp only [Act.put, List.setIfInBounds_toArray, List.set_cons_zero, List.set_cons_succ]
          refine wpAnyH_take (i := 9) (oi := { dst := some 22, op := Op.extract (Operand.tmp 13) 1, type := 4, pos := "exact.go:2790", after := #[{ on := 7, ground := Ground.data }, { on := 11, ground := Ground.gcOnly Departure.lateStores }], guard := none }) (v := ?_) rfl (by kernel_rfl) (by kernel_rfl) (by kernel_rfl) (fun _ _ _ h => h) (Or.inl ⟨by rfl, ?_⟩) hHeld ?_
          rotate_left
          · intro w hSw; obtain ⟨s0, s1, s2, s3⟩ := hSw; (try dsimp only at hSw); go_simp; (try with_reducible rfl)
          try simp only [Act.put, List.setIfInBounds_toArray, List.set_cons_zero, List.set_cons_succ]
          refine wpAnyH_ready (rs := [10]) (by kernel_rfl) (by simp) ?_
          refine AllReadyH.cons (o := { dst := some 9, op := Op.alloc 39, type := 0, pos := "exact.go:2790", after := #[], guard := none }) rfl (fun K hK => ?_) ?_
          · go_simp
            obtain ⟨u4, hw4⟩ : ∃ W, Hid (u3.alloc (.cells #[.int .i64 0, .int .i64 0, .int .i64 0, .int .i64 0] 39) = W) := ⟨_, Lib.hid rfl⟩
            rw [hw4.out]
            have zs4 : u3.heap.size < u4.heap.size := by rw [← hw4.out, World.size_alloc]; omega
            have HBl4 : Hid (Below w.heap.size w u4) := Lib.hid (by rw [← hw4.out]; exact HBl3.out.alloc HBl3.out.size _)
            have HX_aBase4 : Hid (Bx u4 w.heap.size #[.int .i64 aBase_0, .int .i64 aBase_1] 37) := Lib.hid (by rw [← hw4.out]; exact HX_aBase3.out.alloc _)
            have HX_aKey4 : Hid (Bx u4 (w.heap.size + 1) #[.int .i64 aKey_0, .int .i64 aKey_1] 37) := Lib.hid (by rw [← hw4.out]; exact HX_aKey3.out.alloc _)
            have HX_w04 : Hid (Bx u4 u3.heap.size #[.int .i64 0, .int .i64 0, .int .i64 0, .int .i64 0] 39) := Lib.hid (by rw [← hw4.out]; exact Bx.new _ _ _)
            have hab4 : Below u3.heap.size u3 u4 := by rw [← hw4.out]; exact (Below.refl _ _).alloc (Nat.le_refl _) _
            clear hHeld hw4 hab4 HBl3 HX_aBase3 HX_aKey3
            refine hK.out _ _ ⟨HX_aBase4.out.cell 0, HX_aBase4.out.cell 1, HX_aKey4.out.cell 0, HX_aKey4.out.cell 1⟩ (fun hHeld => ?_)
            clear hK K
            try simp only [Act.put, List.setIfInBounds_toArray, List.set_cons_zero, List.set_cons_succ]
            refine wpAnyH_ready (rs := [11]) (by kernel_rfl) (by simp) ?_
            refine AllReadyH.cons (o := { dst := none, op := Op.store 39 (Operand.tmp 9) (Operand.tmp 21), type := 0, pos := "exact.go:2790", after := #[{ on := 10, ground := Ground.data }, { on := 8, ground := Ground.data }, { on := 6, ground := Ground.chain }, { on := 0, ground := Ground.phase }, { on := 1, ground := Ground.phase }, { on := 2, ground := Ground.phase }, { on := 3, ground := Ground.phase }, { on := 4, ground := Ground.phase }, { on := 5, ground := Ground.phase }, { on := 6, ground := Ground.phase }, { on := 7, ground := Ground.phase }, { on := 8, ground := Ground.phase }, { on := 9, ground := Ground.textOnly Departure.lateStores }, { on := 10, ground := Ground.phase }], guard := none }) rfl (fun K hK => ?_) ?_
            · have xc0 : u4.cell? ⟨u3.heap.size, 0, none⟩ = some (.int .i64 0) := HX_w04.out.cell 0
              have xf0 : u4.frozen? ⟨u3.heap.size, 0, none⟩ = false := HX_w04.out.free 0
              have xc1 : u4.cell? ⟨u3.heap.size, 1, none⟩ = some (.int .i64 0) := HX_w04.out.cell 1
              have xf1 : u4.frozen? ⟨u3.heap.size, 1, none⟩ = false := HX_w04.out.free 1
              have xc2 : u4.cell? ⟨u3.heap.size, 2, none⟩ = some (.int .i64 0) := HX_w04.out.cell 2
              have xf2 : u4.frozen? ⟨u3.heap.size, 2, none⟩ = false := HX_w04.out.free 2
              have xc3 : u4.cell? ⟨u3.heap.size, 3, none⟩ = some (.int .i64 0) := HX_w04.out.cell 3
              have xf3 : u4.frozen? ⟨u3.heap.size, 3, none⟩ = false := HX_w04.out.free 3
              go_simp
              obtain ⟨u5, hw5⟩ : ∃ W, Hid (((((u4.setCell ⟨u3.heap.size, 0, none⟩ (.int .i64 (tfeignD aBase_0 aBase_1 aKey_0 aKey_1 aChal aResp).1)).setCell ⟨u3.heap.size, 1, none⟩ (.int .i64 (tfeignD aBase_0 aBase_1 aKey_0 aKey_1 aChal aResp).2.1)).setCell ⟨u3.heap.size, 2, none⟩ (.int .i64 (tfeignD aBase_0 aBase_1 aKey_0 aKey_1 aChal aResp).2.2.1)).setCell ⟨u3.heap.size, 3, none⟩ (.int .i64 (tfeignD aBase_0 aBase_1 aKey_0 aKey_1 aChal aResp).2.2.2)) = W) := ⟨_, Lib.hid rfl⟩
              rw [hw5.out]
              have hk5 : Kept (u3.heap.size) (u3.heap.size + 1) u4 u5 := by rw [← hw5.out]; exact ((((Kept.refl _ _ _).setCell (p := ⟨u3.heap.size, 0, none⟩) (Nat.le_refl _) (Nat.lt_succ_self _) _).setCell (p := ⟨u3.heap.size, 1, none⟩) (Nat.le_refl _) (Nat.lt_succ_self _) _).setCell (p := ⟨u3.heap.size, 2, none⟩) (Nat.le_refl _) (Nat.lt_succ_self _) _).setCell (p := ⟨u3.heap.size, 3, none⟩) (Nat.le_refl _) (Nat.lt_succ_self _) _
              have zs5 : u4.heap.size ≤ u5.heap.size := hk5.size
              have hlo5 := HBl4.out.size
              have HBl5 : Hid (Below w.heap.size w u5) := Lib.hid (HBl4.out.trans ((hk5.to_below (by have := HX_w04.out.lt; omega)).mono (by omega)))
              have HX_w05 : Hid (Bx u5 u3.heap.size #[.int .i64 (tfeignD aBase_0 aBase_1 aKey_0 aKey_1 aChal aResp).1, .int .i64 (tfeignD aBase_0 aBase_1 aKey_0 aKey_1 aChal aResp).2.1, .int .i64 (tfeignD aBase_0 aBase_1 aKey_0 aKey_1 aChal aResp).2.2.1, .int .i64 (tfeignD aBase_0 aBase_1 aKey_0 aKey_1 aChal aResp).2.2.2] 39) := Lib.hid (by have := ((((HX_w04.out).set 0 (.int .i64 (tfeignD aBase_0 aBase_1 aKey_0 aKey_1 aChal aResp).1)).set 1 (.int .i64 (tfeignD aBase_0 aBase_1 aKey_0 aKey_1 aChal aResp).2.1)).set 2 (.int .i64 (tfeignD aBase_0 aBase_1 aKey_0 aKey_1 aChal aResp).2.2.1)).set 3 (.int .i64 (tfeignD aBase_0 aBase_1 aKey_0 aKey_1 aChal aResp).2.2.2); rw [hw5.out] at this; exact this)
              have HX_aBase5 : Hid (Bx u5 w.heap.size #[.int .i64 aBase_0, .int .i64 aBase_1] 37) := Lib.hid (HX_aBase4.out.kept hk5 (by have := HX_aBase4.out.lt; have := HX_aKey4.out.lt; have := HX_w04.out.lt; omega))
              have HX_aKey5 : Hid (Bx u5 (w.heap.size + 1) #[.int .i64 aKey_0, .int .i64 aKey_1] 37) := Lib.hid (HX_aKey4.out.kept hk5 (by have := HX_aBase4.out.lt; have := HX_aKey4.out.lt; have := HX_w04.out.lt; omega))
              clear hHeld hw5 hk5 hlo5 xc0 xf0 xc1 xf1 xc2 xf2 xc3 xf3 HBl4 HX_aBase4 HX_aKey4 HX_w04
              refine hK.out _ _ ⟨HX_aBase5.out.cell 0, HX_aBase5.out.cell 1, HX_aKey5.out.cell 0, HX_aKey5.out.cell 1⟩ (fun hHeld => ?_)
              clear hK K
              try simp only [Act.put]
              refine wpAnyH_take (i := 12) (oi := { dst := some 10, op := Op.assign (Operand.tmp 22), type := 4, pos := "exact.go:2790", after := #[{ on := 9, ground := Ground.data }, { on := 11, ground := Ground.chain }, { on := 0, ground := Ground.phase }, { on := 1, ground := Ground.phase }, { on := 2, ground := Ground.phase }, { on := 3, ground := Ground.phase }, { on := 4, ground := Ground.phase }, { on := 5, ground := Ground.phase }, { on := 6, ground := Ground.phase }, { on := 7, ground := Ground.phase }, { on := 8, ground := Ground.phase }, { on := 9, ground := Ground.phase }, { on := 10, ground := Ground.phase }, { on := 11, ground := Ground.phase }], guard := none }) (v := ?_) rfl (by kernel_rfl) (by kernel_rfl) (by kernel_rfl) (fun _ _ _ h => h) (Or.inl ⟨by rfl, ?_⟩) hHeld ?_
              rotate_left
              · intro w hSw; obtain ⟨s0, s1, s2, s3⟩ := hSw; (try dsimp only at hSw); go_simp; (try with_reducible rfl)
              try simp only [Act.put, List.setIfInBounds_toArray, List.set_cons_zero, List.set_cons_succ]
              refine wpAnyH_done (by kernel_rfl) ?_ _
              go_wp2
              go_meet
              case rel => exact ⟨u3.heap.size, rfl, rfl, HX_w05, HX_aBase5, HX_aKey5, by omega, HBl5⟩
            exact AllReadyH.nil
          exact AllReadyH.nil
        refine AllReadyH.cons (o := { dst := some 9, op := Op.alloc 39, type := 0, pos := "exact.go:2790", after := #[], guard := none }) rfl (fun K hK => ?_) ?_
        · go_simp
          obtain ⟨u3, hw3⟩ : ∃ W, Hid (u2.alloc (.cells #[.int .i64 0, .int .i64 0, .int .i64 0, .int .i64 0] 39) = W) := ⟨_, Lib.hid rfl⟩
          rw [hw3.out]
          have zs3 : u2.heap.size < u3.heap.size := by rw [← hw3.out, World.size_alloc]; omega
          have HBl3 : Hid (Below w.heap.size w u3) := Lib.hid (by rw [← hw3.out]; exact HBl2.out.alloc HBl2.out.size _)
          have HX_aBase3 : Hid (Bx u3 w.heap.size #[.int .i64 aBase_0, .int .i64 aBase_1] 37) := Lib.hid (by rw [← hw3.out]; exact HX_aBase2.out.alloc _)
          have HX_aKey3 : Hid (Bx u3 (w.heap.size + 1) #[.int .i64 aKey_0, .int .i64 aKey_1] 37) := Lib.hid (by rw [← hw3.out]; exact HX_aKey2.out.alloc _)
          have HX_w03 : Hid (Bx u3 u2.heap.size #[.int .i64 0, .int .i64 0, .int .i64 0, .int .i64 0] 39) := Lib.hid (by rw [← hw3.out]; exact Bx.new _ _ _)
          have hab3 : Below u2.heap.size u2 u3 := by rw [← hw3.out]; exact (Below.refl _ _).alloc (Nat.le_refl _) _
          clear hHeld hw3 hab3 HBl2 HX_aBase2 HX_aKey2
          refine hK.out _ _ ⟨HX_aBase3.out.cell 0, HX_aBase3.out.cell 1, HX_aKey3.out.cell 0, HX_aKey3.out.cell 1⟩ (fun hHeld => ?_)
          clear hK K
          try simp only [Act.put, List.setIfInBounds_toArray, List.set_cons_zero, List.set_cons_succ]
          refine wpAnyH_ready (rs := [6]) (by kernel_rfl) (by simp) ?_
          refine AllReadyH.cons (o := { dst := some 20, op := Op.call { callee := Callee.value (Operand.func 33), args := #[Operand.tmp 15, Operand.tmp 17, Operand.tmp 18, Operand.tmp 19], argTypes := #[42, 42, 3, 3] }, type := 40, pos := "exact.go:2790", after := #[{ on := 1, ground := Ground.data }, { on := 3, ground := Ground.data }, { on := 4, ground := Ground.data }, { on := 5, ground := Ground.data }, { on := 3, ground := Ground.chain }], guard := none }) rfl (fun K hK => ?_) ?_
          · go_simp
            refine (X_s_TwinFeign aBase_0 aBase_1 aKey_0 aKey_1 aChal aResp u3).mono ?_
            rintro e u4 ⟨rfl, hb_⟩
            have zs4 : u3.heap.size ≤ u4.heap.size := hb_.size
            have HBl4 : Hid (Below w.heap.size w u4) := Lib.hid (HBl3.out.trans (hb_.mono HBl3.out.size))
            have HX_aBase4 : Hid (Bx u4 w.heap.size #[.int .i64 aBase_0, .int .i64 aBase_1] 37) := Lib.hid (HX_aBase3.out.below hb_ HX_aBase3.out.lt)
            have HX_aKey4 : Hid (Bx u4 (w.heap.size + 1) #[.int .i64 aKey_0, .int .i64 aKey_1] 37) := Lib.hid (HX_aKey3.out.below hb_ HX_aKey3.out.lt)
            have HX_w04 : Hid (Bx u4 u2.heap.size #[.int .i64 0, .int .i64 0, .int .i64 0, .int .i64 0] 39) := Lib.hid (HX_w03.out.below hb_ HX_w03.out.lt)
            clear hHeld hb_ HBl3 HX_aBase3 HX_aKey3 HX_w03
            (try dsimp only)
            (try go_wp2_with fail)
            refine hK.out _ _ ⟨HX_aBase4.out.cell 0, HX_aBase4.out.cell 1, HX_aKey4.out.cell 0, HX_aKey4.out.cell 1⟩ (fun hHeld => ?_)
            clear hK K
            try simp only [Act.put, List.setIfInBounds_toArray, List.set_cons_zero, List.set_cons_succ]
            refine wpAnyH_take (i := 7) (oi := { dst := some 13, op := Op.move (Operand.tmp 20), type := 40, pos := "exact.go:2790", after := #[{ on := 6, ground := Ground.data }], guard := none }) (v := ?_) rfl (by kernel_rfl) (by kernel_rfl) (by kernel_rfl) (fun _ _ _ h => h) (Or.inl ⟨by rfl, ?_⟩) hHeld ?_
            rotate_left
            · intro w hSw; obtain ⟨s0, s1, s2, s3⟩ := hSw; (try dsimp only at hSw); go_simp; (try with_reducible rfl)
            try simp only [Act.put, List.setIfInBounds_toArray, List.set_cons_zero, List.set_cons_succ]
            refine wpAnyH_take (i := 8) (oi := { dst := some 21, op := Op.extract (Operand.tmp 13) 0, type := 39, pos := "exact.go:2790", after := #[{ on := 7, ground := Ground.data }], guard := none }) (v := ?_) rfl (by kernel_rfl) (by kernel_rfl) (by kernel_rfl) (fun _ _ _ h => h) (Or.inl ⟨by rfl, ?_⟩) hHeld ?_
            rotate_left
            · intro w hSw; obtain ⟨s0, s1, s2, s3⟩ := hSw; (try dsimp only at hSw); go_simp; (try with_reducible rfl)
            try simp only [Act.put, List.setIfInBounds_toArray, List.set_cons_zero, List.set_cons_succ]
            refine wpAnyH_take (i := 9) (oi := { dst := some 22, op := Op.extract (Operand.tmp 13) 1, type := 4, pos := "exact.go:2790", after := #[{ on := 7, ground := Ground.data }, { on := 11, ground := Ground.gcOnly Departure.lateStores }], guard := none }) (v := ?_) rfl (by kernel_rfl) (by kernel_rfl) (by kernel_rfl) (fun _ _ _ h => h) (Or.inl ⟨by rfl, ?_⟩) hHeld ?_
            rotate_left
            · intro w hSw; obtain ⟨s0, s1, s2, s3⟩ := hSw; (try dsimp only at hSw); go_simp; (try with_reducible rfl)
            try simp only [Act.put, List.setIfInBounds_toArray, List.set_cons_zero, List.set_cons_succ]
            refine wpAnyH_ready (rs := [11]) (by kernel_rfl) (by simp) ?_
            refine AllReadyH.cons (o := { dst := none, op := Op.store 39 (Operand.tmp 9) (Operand.tmp 21), type := 0, pos := "exact.go:2790", after := #[{ on := 10, ground := Ground.data }, { on := 8, ground := Ground.data }, { on := 6, ground := Ground.chain }, { on := 0, ground := Ground.phase }, { on := 1, ground := Ground.phase }, { on := 2, ground := Ground.phase }, { on := 3, ground := Ground.phase }, { on := 4, ground := Ground.phase }, { on := 5, ground := Ground.phase }, { on := 6, ground := Ground.phase }, { on := 7, ground := Ground.phase }, { on := 8, ground := Ground.phase }, { on := 9, ground := Ground.textOnly Departure.lateStores }, { on := 10, ground := Ground.phase }], guard := none }) rfl (fun K hK => ?_) ?_
            · have xc0 : u4.cell? ⟨u2.heap.size, 0, none⟩ = some (.int .i64 0) := HX_w04.out.cell 0
              have xf0 : u4.frozen? ⟨u2.heap.size, 0, none⟩ = false := HX_w04.out.free 0
              have xc1 : u4.cell? ⟨u2.heap.size, 1, none⟩ = some (.int .i64 0) := HX_w04.out.cell 1
              have xf1 : u4.frozen? ⟨u2.heap.size, 1, none⟩ = false := HX_w04.out.free 1
              have xc2 : u4.cell? ⟨u2.heap.size, 2, none⟩ = some (.int .i64 0) := HX_w04.out.cell 2
              have xf2 : u4.frozen? ⟨u2.heap.size, 2, none⟩ = false := HX_w04.out.free 2
              have xc3 : u4.cell? ⟨u2.heap.size, 3, none⟩ = some (.int .i64 0) := HX_w04.out.cell 3
              have xf3 : u4.frozen? ⟨u2.heap.size, 3, none⟩ = false := HX_w04.out.free 3
              go_simp
              obtain ⟨u5, hw5⟩ : ∃ W, Hid (((((u4.setCell ⟨u2.heap.size, 0, none⟩ (.int .i64 (tfeignD aBase_0 aBase_1 aKey_0 aKey_1 aChal aResp).1)).setCell ⟨u2.heap.size, 1, none⟩ (.int .i64 (tfeignD aBase_0 aBase_1 aKey_0 aKey_1 aChal aResp).2.1)).setCell ⟨u2.heap.size, 2, none⟩ (.int .i64 (tfeignD aBase_0 aBase_1 aKey_0 aKey_1 aChal aResp).2.2.1)).setCell ⟨u2.heap.size, 3, none⟩ (.int .i64 (tfeignD aBase_0 aBase_1 aKey_0 aKey_1 aChal aResp).2.2.2)) = W) := ⟨_, Lib.hid rfl⟩
              rw [hw5.out]
              have hk5 : Kept (u2.heap.size) (u2.heap.size + 1) u4 u5 := by rw [← hw5.out]; exact ((((Kept.refl _ _ _).setCell (p := ⟨u2.heap.size, 0, none⟩) (Nat.le_refl _) (Nat.lt_succ_self _) _).setCell (p := ⟨u2.heap.size, 1, none⟩) (Nat.le_refl _) (Nat.lt_succ_self _) _).setCell (p := ⟨u2.heap.size, 2, none⟩) (Nat.le_refl _) (Nat.lt_succ_self _) _).setCell (p := ⟨u2.heap.size, 3, none⟩) (Nat.le_refl _) (Nat.lt_succ_self _) _
              have zs5 : u4.heap.size ≤ u5.heap.size := hk5.size
              have hlo5 := HBl4.out.size
              have HBl5 : Hid (Below w.heap.size w u5) := Lib.hid (HBl4.out.trans ((hk5.to_below (by have := HX_w04.out.lt; omega)).mono (by omega)))
              have HX_w05 : Hid (Bx u5 u2.heap.size #[.int .i64 (tfeignD aBase_0 aBase_1 aKey_0 aKey_1 aChal aResp).1, .int .i64 (tfeignD aBase_0 aBase_1 aKey_0 aKey_1 aChal aResp).2.1, .int .i64 (tfeignD aBase_0 aBase_1 aKey_0 aKey_1 aChal aResp).2.2.1, .int .i64 (tfeignD aBase_0 aBase_1 aKey_0 aKey_1 aChal aResp).2.2.2] 39) := Lib.hid (by have := ((((HX_w04.out).set 0 (.int .i64 (tfeignD aBase_0 aBase_1 aKey_0 aKey_1 aChal aResp).1)).set 1 (.int .i64 (tfeignD aBase_0 aBase_1 aKey_0 aKey_1 aChal aResp).2.1)).set 2 (.int .i64 (tfeignD aBase_0 aBase_1 aKey_0 aKey_1 aChal aResp).2.2.1)).set 3 (.int .i64 (tfeignD aBase_0 aBase_1 aKey_0 aKey_1 aChal aResp).2.2.2); rw [hw5.out] at this; exact this)
              have HX_aBase5 : Hid (Bx u5 w.heap.size #[.int .i64 aBase_0, .int .i64 aBase_1] 37) := Lib.hid (HX_aBase4.out.kept hk5 (by have := HX_aBase4.out.lt; have := HX_aKey4.out.lt; have := HX_w04.out.lt; omega))
              have HX_aKey5 : Hid (Bx u5 (w.heap.size + 1) #[.int .i64 aKey_0, .int .i64 aKey_1] 37) := Lib.hid (HX_aKey4.out.kept hk5 (by have := HX_aBase4.out.lt; have := HX_aKey4.out.lt; have := HX_w04.out.lt; omega))
              clear hHeld hw5 hk5 hlo5 xc0 xf0 xc1 xf1 xc2 xf2 xc3 xf3 HBl4 HX_aBase4 HX_aKey4 HX_w04
              refine hK.out _ _ ⟨HX_aBase5.out.cell 0, HX_aBase5.out.cell 1, HX_aKey5.out.cell 0, HX_aKey5.out.cell 1⟩ (fun hHeld => ?_)
              clear hK K
              try simp only [Act.put]
              refine wpAnyH_take (i := 12) (oi := { dst := some 10, op := Op.assign (Operand.tmp 22), type := 4, pos := "exact.go:2790", after := #[{ on := 9, ground := Ground.data }, { on := 11, ground := Ground.chain }, { on := 0, ground := Ground.phase }, { on := 1, ground := Ground.phase }, { on := 2, ground := Ground.phase }, { on := 3, ground := Ground.phase }, { on := 4, ground := Ground.phase }, { on := 5, ground := Ground.phase }, { on := 6, ground := Ground.phase }, { on := 7, ground := Ground.phase }, { on := 8, ground := Ground.phase }, { on := 9, ground := Ground.phase }, { on := 10, ground := Ground.phase }, { on := 11, ground := Ground.phase }], guard := none }) (v := ?_) rfl (by kernel_rfl) (by kernel_rfl) (by kernel_rfl) (fun _ _ _ h => h) (Or.inl ⟨by rfl, ?_⟩) hHeld ?_
              rotate_left
              · intro w hSw; obtain ⟨s0, s1, s2, s3⟩ := hSw; (try dsimp only at hSw); go_simp; (try with_reducible rfl)
              try simp only [Act.put, List.setIfInBounds_toArray, List.set_cons_zero, List.set_cons_succ]
              refine wpAnyH_done (by kernel_rfl) ?_ _
              go_wp2
              go_meet
              case rel => exact ⟨u2.heap.size, rfl, rfl, HX_w05, HX_aBase5, HX_aKey5, by omega, HBl5⟩
            exact AllReadyH.nil
          exact AllReadyH.nil
        exact AllReadyH.nil
      refine AllReadyH.cons (o := { dst := some 9, op := Op.alloc 39, type := 0, pos := "exact.go:2790", after := #[], guard := none }) rfl (fun K hK => ?_) ?_
      · go_simp
        obtain ⟨u2, hw2⟩ : ∃ W, Hid (u1.alloc (.cells #[.int .i64 0, .int .i64 0, .int .i64 0, .int .i64 0] 39) = W) := ⟨_, Lib.hid rfl⟩
        rw [hw2.out]
        have zs2 : u1.heap.size < u2.heap.size := by rw [← hw2.out, World.size_alloc]; omega
        have HBl2 : Hid (Below w.heap.size w u2) := Lib.hid (by rw [← hw2.out]; exact HBl1.out.alloc HBl1.out.size _)
        have HX_aBase2 : Hid (Bx u2 w.heap.size #[.int .i64 aBase_0, .int .i64 aBase_1] 37) := Lib.hid (by rw [← hw2.out]; exact HX_aBase1.out.alloc _)
        have HX_aKey2 : Hid (Bx u2 (w.heap.size + 1) #[.int .i64 aKey_0, .int .i64 aKey_1] 37) := Lib.hid (by rw [← hw2.out]; exact HX_aKey1.out.alloc _)
        have HX_w02 : Hid (Bx u2 u1.heap.size #[.int .i64 0, .int .i64 0, .int .i64 0, .int .i64 0] 39) := Lib.hid (by rw [← hw2.out]; exact Bx.new _ _ _)
        have hab2 : Below u1.heap.size u1 u2 := by rw [← hw2.out]; exact (Below.refl _ _).alloc (Nat.le_refl _) _
        clear hHeld hw2 hab2 HBl1 HX_aBase1 HX_aKey1
        refine hK.out _ _ ⟨HX_aBase2.out.cell 0, HX_aBase2.out.cell 1, HX_aKey2.out.cell 0, HX_aKey2.out.cell 1⟩ (fun hHeld => ?_)
        clear hK K
        try simp only [Act.put, List.setIfInBounds_toArray, List.set_cons_zero, List.set_cons_succ]
        refine wpAnyH_ready (rs := [3]) (by kernel_rfl) (by simp) ?_
        refine AllReadyH.cons (o := { dst := some 17, op := Op.call { callee := Callee.value (Operand.func 27), args := #[Operand.tmp 16], argTypes := #[37] }, type := 42, pos := "exact.go:2790", after := #[{ on := 2, ground := Ground.data }, { on := 1, ground := Ground.chain }], guard := none }) rfl (fun K hK => ?_) ?_
        · go_simp
          refine (l_toPair aKey_0 aKey_1 u2).mono ?_
          rintro e u3 ⟨rfl, hb_⟩
          have zs3 : u2.heap.size ≤ u3.heap.size := hb_.size
          have HBl3 : Hid (Below w.heap.size w u3) := Lib.hid (HBl2.out.trans (hb_.mono HBl2.out.size))
          have HX_aBase3 : Hid (Bx u3 w.heap.size #[.int .i64 aBase_0, .int .i64 aBase_1] 37) := Lib.hid (HX_aBase2.out.below hb_ HX_aBase2.out.lt)
          have HX_aKey3 : Hid (Bx u3 (w.heap.size + 1) #[.int .i64 aKey_0, .int .i64 aKey_1] 37) := Lib.hid (HX_aKey2.out.below hb_ HX_aKey2.out.lt)
          have HX_w03 : Hid (Bx u3 u1.heap.size #[.int .i64 0, .int .i64 0, .int .i64 0, .int .i64 0] 39) := Lib.hid (HX_w02.out.below hb_ HX_w02.out.lt)
          clear hHeld hb_ HBl2 HX_aBase2 HX_aKey2 HX_w02
          (try dsimp only)
          (try go_wp2_with fail)
          refine hK.out _ _ ⟨HX_aBase3.out.cell 0, HX_aBase3.out.cell 1, HX_aKey3.out.cell 0, HX_aKey3.out.cell 1⟩ (fun hHeld => ?_)
          clear hK K
          try simp only [Act.put, List.setIfInBounds_toArray, List.set_cons_zero, List.set_cons_succ]
          refine wpAnyH_ready (rs := [6]) (by kernel_rfl) (by simp) ?_
          refine AllReadyH.cons (o := { dst := some 20, op := Op.call { callee := Callee.value (Operand.func 33), args := #[Operand.tmp 15, Operand.tmp 17, Operand.tmp 18, Operand.tmp 19], argTypes := #[42, 42, 3, 3] }, type := 40, pos := "exact.go:2790", after := #[{ on := 1, ground := Ground.data }, { on := 3, ground := Ground.data }, { on := 4, ground := Ground.data }, { on := 5, ground := Ground.data }, { on := 3, ground := Ground.chain }], guard := none }) rfl (fun K hK => ?_) ?_
          · go_simp
            refine (X_s_TwinFeign aBase_0 aBase_1 aKey_0 aKey_1 aChal aResp u3).mono ?_
            rintro e u4 ⟨rfl, hb_⟩
            have zs4 : u3.heap.size ≤ u4.heap.size := hb_.size
            have HBl4 : Hid (Below w.heap.size w u4) := Lib.hid (HBl3.out.trans (hb_.mono HBl3.out.size))
            have HX_aBase4 : Hid (Bx u4 w.heap.size #[.int .i64 aBase_0, .int .i64 aBase_1] 37) := Lib.hid (HX_aBase3.out.below hb_ HX_aBase3.out.lt)
            have HX_aKey4 : Hid (Bx u4 (w.heap.size + 1) #[.int .i64 aKey_0, .int .i64 aKey_1] 37) := Lib.hid (HX_aKey3.out.below hb_ HX_aKey3.out.lt)
            have HX_w04 : Hid (Bx u4 u1.heap.size #[.int .i64 0, .int .i64 0, .int .i64 0, .int .i64 0] 39) := Lib.hid (HX_w03.out.below hb_ HX_w03.out.lt)
            clear hHeld hb_ HBl3 HX_aBase3 HX_aKey3 HX_w03
            (try dsimp only)
            (try go_wp2_with fail)
            refine hK.out _ _ ⟨HX_aBase4.out.cell 0, HX_aBase4.out.cell 1, HX_aKey4.out.cell 0, HX_aKey4.out.cell 1⟩ (fun hHeld => ?_)
            clear hK K
            try simp only [Act.put, List.setIfInBounds_toArray, List.set_cons_zero, List.set_cons_succ]
            refine wpAnyH_take (i := 7) (oi := { dst := some 13, op := Op.move (Operand.tmp 20), type := 40, pos := "exact.go:2790", after := #[{ on := 6, ground := Ground.data }], guard := none }) (v := ?_) rfl (by kernel_rfl) (by kernel_rfl) (by kernel_rfl) (fun _ _ _ h => h) (Or.inl ⟨by rfl, ?_⟩) hHeld ?_
            rotate_left
            · intro w hSw; obtain ⟨s0, s1, s2, s3⟩ := hSw; (try dsimp only at hSw); go_simp; (try with_reducible rfl)
            try simp only [Act.put, List.setIfInBounds_toArray, List.set_cons_zero, List.set_cons_succ]
            refine wpAnyH_take (i := 8) (oi := { dst := some 21, op := Op.extract (Operand.tmp 13) 0, type := 39, pos := "exact.go:2790", after := #[{ on := 7, ground := Ground.data }], guard := none }) (v := ?_) rfl (by kernel_rfl) (by kernel_rfl) (by kernel_rfl) (fun _ _ _ h => h) (Or.inl ⟨by rfl, ?_⟩) hHeld ?_
            rotate_left
            · intro w hSw; obtain ⟨s0, s1, s2, s3⟩ := hSw; (try dsimp only at hSw); go_simp; (try with_reducible rfl)
            try simp only [Act.put, List.setIfInBounds_toArray, List.set_cons_zero, List.set_cons_succ]
            refine wpAnyH_take (i := 9) (oi := { dst := some 22, op := Op.extract (Operand.tmp 13) 1, type := 4, pos := "exact.go:2790", after := #[{ on := 7, ground := Ground.data }, { on := 11, ground := Ground.gcOnly Departure.lateStores }], guard := none }) (v := ?_) rfl (by kernel_rfl) (by kernel_rfl) (by kernel_rfl) (fun _ _ _ h => h) (Or.inl ⟨by rfl, ?_⟩) hHeld ?_
            rotate_left
            · intro w hSw; obtain ⟨s0, s1, s2, s3⟩ := hSw; (try dsimp only at hSw); go_simp; (try with_reducible rfl)
            try simp only [Act.put, List.setIfInBounds_toArray, List.set_cons_zero, List.set_cons_succ]
            refine wpAnyH_ready (rs := [11]) (by kernel_rfl) (by simp) ?_
            refine AllReadyH.cons (o := { dst := none, op := Op.store 39 (Operand.tmp 9) (Operand.tmp 21), type := 0, pos := "exact.go:2790", after := #[{ on := 10, ground := Ground.data }, { on := 8, ground := Ground.data }, { on := 6, ground := Ground.chain }, { on := 0, ground := Ground.phase }, { on := 1, ground := Ground.phase }, { on := 2, ground := Ground.phase }, { on := 3, ground := Ground.phase }, { on := 4, ground := Ground.phase }, { on := 5, ground := Ground.phase }, { on := 6, ground := Ground.phase }, { on := 7, ground := Ground.phase }, { on := 8, ground := Ground.phase }, { on := 9, ground := Ground.textOnly Departure.lateStores }, { on := 10, ground := Ground.phase }], guard := none }) rfl (fun K hK => ?_) ?_
            · have xc0 : u4.cell? ⟨u1.heap.size, 0, none⟩ = some (.int .i64 0) := HX_w04.out.cell 0
              have xf0 : u4.frozen? ⟨u1.heap.size, 0, none⟩ = false := HX_w04.out.free 0
              have xc1 : u4.cell? ⟨u1.heap.size, 1, none⟩ = some (.int .i64 0) := HX_w04.out.cell 1
              have xf1 : u4.frozen? ⟨u1.heap.size, 1, none⟩ = false := HX_w04.out.free 1
              have xc2 : u4.cell? ⟨u1.heap.size, 2, none⟩ = some (.int .i64 0) := HX_w04.out.cell 2
              have xf2 : u4.frozen? ⟨u1.heap.size, 2, none⟩ = false := HX_w04.out.free 2
              have xc3 : u4.cell? ⟨u1.heap.size, 3, none⟩ = some (.int .i64 0) := HX_w04.out.cell 3
              have xf3 : u4.frozen? ⟨u1.heap.size, 3, none⟩ = false := HX_w04.out.free 3
              go_simp
              obtain ⟨u5, hw5⟩ : ∃ W, Hid (((((u4.setCell ⟨u1.heap.size, 0, none⟩ (.int .i64 (tfeignD aBase_0 aBase_1 aKey_0 aKey_1 aChal aResp).1)).setCell ⟨u1.heap.size, 1, none⟩ (.int .i64 (tfeignD aBase_0 aBase_1 aKey_0 aKey_1 aChal aResp).2.1)).setCell ⟨u1.heap.size, 2, none⟩ (.int .i64 (tfeignD aBase_0 aBase_1 aKey_0 aKey_1 aChal aResp).2.2.1)).setCell ⟨u1.heap.size, 3, none⟩ (.int .i64 (tfeignD aBase_0 aBase_1 aKey_0 aKey_1 aChal aResp).2.2.2)) = W) := ⟨_, Lib.hid rfl⟩
              rw [hw5.out]
              have hk5 : Kept (u1.heap.size) (u1.heap.size + 1) u4 u5 := by rw [← hw5.out]; exact ((((Kept.refl _ _ _).setCell (p := ⟨u1.heap.size, 0, none⟩) (Nat.le_refl _) (Nat.lt_succ_self _) _).setCell (p := ⟨u1.heap.size, 1, none⟩) (Nat.le_refl _) (Nat.lt_succ_self _) _).setCell (p := ⟨u1.heap.size, 2, none⟩) (Nat.le_refl _) (Nat.lt_succ_self _) _).setCell (p := ⟨u1.heap.size, 3, none⟩) (Nat.le_refl _) (Nat.lt_succ_self _) _
              have zs5 : u4.heap.size ≤ u5.heap.size := hk5.size
              have hlo5 := HBl4.out.size
              have HBl5 : Hid (Below w.heap.size w u5) := Lib.hid (HBl4.out.trans ((hk5.to_below (by have := HX_w04.out.lt; omega)).mono (by omega)))
              have HX_w05 : Hid (Bx u5 u1.heap.size #[.int .i64 (tfeignD aBase_0 aBase_1 aKey_0 aKey_1 aChal aResp).1, .int .i64 (tfeignD aBase_0 aBase_1 aKey_0 aKey_1 aChal aResp).2.1, .int .i64 (tfeignD aBase_0 aBase_1 aKey_0 aKey_1 aChal aResp).2.2.1, .int .i64 (tfeignD aBase_0 aBase_1 aKey_0 aKey_1 aChal aResp).2.2.2] 39) := Lib.hid (by have := ((((HX_w04.out).set 0 (.int .i64 (tfeignD aBase_0 aBase_1 aKey_0 aKey_1 aChal aResp).1)).set 1 (.int .i64 (tfeignD aBase_0 aBase_1 aKey_0 aKey_1 aChal aResp).2.1)).set 2 (.int .i64 (tfeignD aBase_0 aBase_1 aKey_0 aKey_1 aChal aResp).2.2.1)).set 3 (.int .i64 (tfeignD aBase_0 aBase_1 aKey_0 aKey_1 aChal aResp).2.2.2); rw [hw5.out] at this; exact this)
              have HX_aBase5 : Hid (Bx u5 w.heap.size #[.int .i64 aBase_0, .int .i64 aBase_1] 37) := Lib.hid (HX_aBase4.out.kept hk5 (by have := HX_aBase4.out.lt; have := HX_aKey4.out.lt; have := HX_w04.out.lt; omega))
              have HX_aKey5 : Hid (Bx u5 (w.heap.size + 1) #[.int .i64 aKey_0, .int .i64 aKey_1] 37) := Lib.hid (HX_aKey4.out.kept hk5 (by have := HX_aBase4.out.lt; have := HX_aKey4.out.lt; have := HX_w04.out.lt; omega))
              clear hHeld hw5 hk5 hlo5 xc0 xf0 xc1 xf1 xc2 xf2 xc3 xf3 HBl4 HX_aBase4 HX_aKey4 HX_w04
              refine hK.out _ _ ⟨HX_aBase5.out.cell 0, HX_aBase5.out.cell 1, HX_aKey5.out.cell 0, HX_aKey5.out.cell 1⟩ (fun hHeld => ?_)
              clear hK K
              try simp only [Act.put]
              refine wpAnyH_take (i := 12) (oi := { dst := some 10, op := Op.assign (Operand.tmp 22), type := 4, pos := "exact.go:2790", after := #[{ on := 9, ground := Ground.data }, { on := 11, ground := Ground.chain }, { on := 0, ground := Ground.phase }, { on := 1, ground := Ground.phase }, { on := 2, ground := Ground.phase }, { on := 3, ground := Ground.phase }, { on := 4, ground := Ground.phase }, { on := 5, ground := Ground.phase }, { on := 6, ground := Ground.phase }, { on := 7, ground := Ground.phase }, { on := 8, ground := Ground.phase }, { on := 9, ground := Ground.phase }, { on := 10, ground := Ground.phase }, { on := 11, ground := Ground.phase }], guard := none }) (v := ?_) rfl (by kernel_rfl) (by kernel_rfl) (by kernel_rfl) (fun _ _ _ h => h) (Or.inl ⟨by rfl, ?_⟩) hHeld ?_
              rotate_left
              · intro w hSw; obtain ⟨s0, s1, s2, s3⟩ := hSw; (try dsimp only at hSw); go_simp; (try with_reducible rfl)
              try simp only [Act.put, List.setIfInBounds_toArray, List.set_cons_zero, List.set_cons_succ]
              refine wpAnyH_done (by kernel_rfl) ?_ _
              go_wp2
              go_meet
              case rel => exact ⟨u1.heap.size, rfl, rfl, HX_w05, HX_aBase5, HX_aKey5, by omega, HBl5⟩
            exact AllReadyH.nil
          exact AllReadyH.nil
        exact AllReadyH.nil
      exact AllReadyH.nil
    refine AllReadyH.cons (o := { dst := some 9, op := Op.alloc 39, type := 0, pos := "exact.go:2790", after := #[], guard := none }) rfl (fun K hK => ?_) ?_
    · go_simp
      obtain ⟨u1, hw1⟩ : ∃ W, Hid (u0.alloc (.cells #[.int .i64 0, .int .i64 0, .int .i64 0, .int .i64 0] 39) = W) := ⟨_, Lib.hid rfl⟩
      rw [hw1.out]
      have zs1 : u0.heap.size < u1.heap.size := by rw [← hw1.out, World.size_alloc]; omega
      have HBl1 : Hid (Below w.heap.size w u1) := Lib.hid (by rw [← hw1.out]; exact HBl0.out.alloc HBl0.out.size _)
      have HX_aBase1 : Hid (Bx u1 w.heap.size #[.int .i64 aBase_0, .int .i64 aBase_1] 37) := Lib.hid (by rw [← hw1.out]; exact HX_aBase0.out.alloc _)
      have HX_aKey1 : Hid (Bx u1 (w.heap.size + 1) #[.int .i64 aKey_0, .int .i64 aKey_1] 37) := Lib.hid (by rw [← hw1.out]; exact HX_aKey0.out.alloc _)
      have HX_w01 : Hid (Bx u1 u0.heap.size #[.int .i64 0, .int .i64 0, .int .i64 0, .int .i64 0] 39) := Lib.hid (by rw [← hw1.out]; exact Bx.new _ _ _)
      have hab1 : Below u0.heap.size u0 u1 := by rw [← hw1.out]; exact (Below.refl _ _).alloc (Nat.le_refl _) _
      clear hHeld hw1 hab1 HBl0 HX_aBase0 HX_aKey0
      refine hK.out _ _ ⟨HX_aBase1.out.cell 0, HX_aBase1.out.cell 1, HX_aKey1.out.cell 0, HX_aKey1.out.cell 1⟩ (fun hHeld => ?_)
      clear hK K
      try simp only [Act.put, List.setIfInBounds_toArray, List.set_cons_zero, List.set_cons_succ]
      refine wpAnyH_ready (rs := [1]) (by kernel_rfl) (by simp) ?_
      refine AllReadyH.cons (o := { dst := some 15, op := Op.call { callee := Callee.value (Operand.func 27), args := #[Operand.tmp 14], argTypes := #[37] }, type := 42, pos := "exact.go:2790", after := #[{ on := 0, ground := Ground.data }], guard := none }) rfl (fun K hK => ?_) ?_
      · go_simp
        refine (l_toPair aBase_0 aBase_1 u1).mono ?_
        rintro e u2 ⟨rfl, hb_⟩
        have zs2 : u1.heap.size ≤ u2.heap.size := hb_.size
        have HBl2 : Hid (Below w.heap.size w u2) := Lib.hid (HBl1.out.trans (hb_.mono HBl1.out.size))
        have HX_aBase2 : Hid (Bx u2 w.heap.size #[.int .i64 aBase_0, .int .i64 aBase_1] 37) := Lib.hid (HX_aBase1.out.below hb_ HX_aBase1.out.lt)
        have HX_aKey2 : Hid (Bx u2 (w.heap.size + 1) #[.int .i64 aKey_0, .int .i64 aKey_1] 37) := Lib.hid (HX_aKey1.out.below hb_ HX_aKey1.out.lt)
        have HX_w02 : Hid (Bx u2 u0.heap.size #[.int .i64 0, .int .i64 0, .int .i64 0, .int .i64 0] 39) := Lib.hid (HX_w01.out.below hb_ HX_w01.out.lt)
        clear hHeld hb_ HBl1 HX_aBase1 HX_aKey1 HX_w01
        (try dsimp only)
        (try go_wp2_with fail)
        refine hK.out _ _ ⟨HX_aBase2.out.cell 0, HX_aBase2.out.cell 1, HX_aKey2.out.cell 0, HX_aKey2.out.cell 1⟩ (fun hHeld => ?_)
        clear hK K
        try simp only [Act.put, List.setIfInBounds_toArray, List.set_cons_zero, List.set_cons_succ]
        refine wpAnyH_ready (rs := [3]) (by kernel_rfl) (by simp) ?_
        refine AllReadyH.cons (o := { dst := some 17, op := Op.call { callee := Callee.value (Operand.func 27), args := #[Operand.tmp 16], argTypes := #[37] }, type := 42, pos := "exact.go:2790", after := #[{ on := 2, ground := Ground.data }, { on := 1, ground := Ground.chain }], guard := none }) rfl (fun K hK => ?_) ?_
        · go_simp
          refine (l_toPair aKey_0 aKey_1 u2).mono ?_
          rintro e u3 ⟨rfl, hb_⟩
          have zs3 : u2.heap.size ≤ u3.heap.size := hb_.size
          have HBl3 : Hid (Below w.heap.size w u3) := Lib.hid (HBl2.out.trans (hb_.mono HBl2.out.size))
          have HX_aBase3 : Hid (Bx u3 w.heap.size #[.int .i64 aBase_0, .int .i64 aBase_1] 37) := Lib.hid (HX_aBase2.out.below hb_ HX_aBase2.out.lt)
          have HX_aKey3 : Hid (Bx u3 (w.heap.size + 1) #[.int .i64 aKey_0, .int .i64 aKey_1] 37) := Lib.hid (HX_aKey2.out.below hb_ HX_aKey2.out.lt)
          have HX_w03 : Hid (Bx u3 u0.heap.size #[.int .i64 0, .int .i64 0, .int .i64 0, .int .i64 0] 39) := Lib.hid (HX_w02.out.below hb_ HX_w02.out.lt)
          clear hHeld hb_ HBl2 HX_aBase2 HX_aKey2 HX_w02
          (try dsimp only)
          (try go_wp2_with fail)
          refine hK.out _ _ ⟨HX_aBase3.out.cell 0, HX_aBase3.out.cell 1, HX_aKey3.out.cell 0, HX_aKey3.out.cell 1⟩ (fun hHeld => ?_)
          clear hK K
          try simp only [Act.put, List.setIfInBounds_toArray, List.set_cons_zero, List.set_cons_succ]
          refine wpAnyH_ready (rs := [6]) (by kernel_rfl) (by simp) ?_
          refine AllReadyH.cons (o := { dst := some 20, op := Op.call { callee := Callee.value (Operand.func 33), args := #[Operand.tmp 15, Operand.tmp 17, Operand.tmp 18, Operand.tmp 19], argTypes := #[42, 42, 3, 3] }, type := 40, pos := "exact.go:2790", after := #[{ on := 1, ground := Ground.data }, { on := 3, ground := Ground.data }, { on := 4, ground := Ground.data }, { on := 5, ground := Ground.data }, { on := 3, ground := Ground.chain }], guard := none }) rfl (fun K hK => ?_) ?_
          · go_simp
            refine (X_s_TwinFeign aBase_0 aBase_1 aKey_0 aKey_1 aChal aResp u3).mono ?_
            rintro e u4 ⟨rfl, hb_⟩
            have zs4 : u3.heap.size ≤ u4.heap.size := hb_.size
            have HBl4 : Hid (Below w.heap.size w u4) := Lib.hid (HBl3.out.trans (hb_.mono HBl3.out.size))
            have HX_aBase4 : Hid (Bx u4 w.heap.size #[.int .i64 aBase_0, .int .i64 aBase_1] 37) := Lib.hid (HX_aBase3.out.below hb_ HX_aBase3.out.lt)
            have HX_aKey4 : Hid (Bx u4 (w.heap.size + 1) #[.int .i64 aKey_0, .int .i64 aKey_1] 37) := Lib.hid (HX_aKey3.out.below hb_ HX_aKey3.out.lt)
            have HX_w04 : Hid (Bx u4 u0.heap.size #[.int .i64 0, .int .i64 0, .int .i64 0, .int .i64 0] 39) := Lib.hid (HX_w03.out.below hb_ HX_w03.out.lt)
            clear hHeld hb_ HBl3 HX_aBase3 HX_aKey3 HX_w03
            (try dsimp only)
            (try go_wp2_with fail)
            refine hK.out _ _ ⟨HX_aBase4.out.cell 0, HX_aBase4.out.cell 1, HX_aKey4.out.cell 0, HX_aKey4.out.cell 1⟩ (fun hHeld => ?_)
            clear hK K
            try simp only [Act.put, List.setIfInBounds_toArray, List.set_cons_zero, List.set_cons_succ]
            refine wpAnyH_take (i := 7) (oi := { dst := some 13, op := Op.move (Operand.tmp 20), type := 40, pos := "exact.go:2790", after := #[{ on := 6, ground := Ground.data }], guard := none }) (v := ?_) rfl (by kernel_rfl) (by kernel_rfl) (by kernel_rfl) (fun _ _ _ h => h) (Or.inl ⟨by rfl, ?_⟩) hHeld ?_
            rotate_left
            · intro w hSw; obtain ⟨s0, s1, s2, s3⟩ := hSw; (try dsimp only at hSw); go_simp; (try with_reducible rfl)
            try simp only [Act.put, List.setIfInBounds_toArray, List.set_cons_zero, List.set_cons_succ]
            refine wpAnyH_take (i := 8) (oi := { dst := some 21, op := Op.extract (Operand.tmp 13) 0, type := 39, pos := "exact.go:2790", after := #[{ on := 7, ground := Ground.data }], guard := none }) (v := ?_) rfl (by kernel_rfl) (by kernel_rfl) (by kernel_rfl) (fun _ _ _ h => h) (Or.inl ⟨by rfl, ?_⟩) hHeld ?_
            rotate_left
            · intro w hSw; obtain ⟨s0, s1, s2, s3⟩ := hSw; (try dsimp only at hSw); go_simp; (try with_reducible rfl)
            try simp only [Act.put, List.setIfInBounds_toArray, List.set_cons_zero, List.set_cons_succ]
            refine wpAnyH_take (i := 9) (oi := { dst := some 22, op := Op.extract (Operand.tmp 13) 1, type := 4, pos := "exact.go:2790", after := #[{ on := 7, ground := Ground.data }, { on := 11, ground := Ground.gcOnly Departure.lateStores }], guard := none }) (v := ?_) rfl (by kernel_rfl) (by kernel_rfl) (by kernel_rfl) (fun _ _ _ h => h) (Or.inl ⟨by rfl, ?_⟩) hHeld ?_
            rotate_left
            · intro w hSw; obtain ⟨s0, s1, s2, s3⟩ := hSw; (try dsimp only at hSw); go_simp; (try with_reducible rfl)
            try simp only [Act.put, List.setIfInBounds_toArray, List.set_cons_zero, List.set_cons_succ]
            refine wpAnyH_ready (rs := [11]) (by kernel_rfl) (by simp) ?_
            refine AllReadyH.cons (o := { dst := none, op := Op.store 39 (Operand.tmp 9) (Operand.tmp 21), type := 0, pos := "exact.go:2790", after := #[{ on := 10, ground := Ground.data }, { on := 8, ground := Ground.data }, { on := 6, ground := Ground.chain }, { on := 0, ground := Ground.phase }, { on := 1, ground := Ground.phase }, { on := 2, ground := Ground.phase }, { on := 3, ground := Ground.phase }, { on := 4, ground := Ground.phase }, { on := 5, ground := Ground.phase }, { on := 6, ground := Ground.phase }, { on := 7, ground := Ground.phase }, { on := 8, ground := Ground.phase }, { on := 9, ground := Ground.textOnly Departure.lateStores }, { on := 10, ground := Ground.phase }], guard := none }) rfl (fun K hK => ?_) ?_
            · have xc0 : u4.cell? ⟨u0.heap.size, 0, none⟩ = some (.int .i64 0) := HX_w04.out.cell 0
              have xf0 : u4.frozen? ⟨u0.heap.size, 0, none⟩ = false := HX_w04.out.free 0
              have xc1 : u4.cell? ⟨u0.heap.size, 1, none⟩ = some (.int .i64 0) := HX_w04.out.cell 1
              have xf1 : u4.frozen? ⟨u0.heap.size, 1, none⟩ = false := HX_w04.out.free 1
              have xc2 : u4.cell? ⟨u0.heap.size, 2, none⟩ = some (.int .i64 0) := HX_w04.out.cell 2
              have xf2 : u4.frozen? ⟨u0.heap.size, 2, none⟩ = false := HX_w04.out.free 2
              have xc3 : u4.cell? ⟨u0.heap.size, 3, none⟩ = some (.int .i64 0) := HX_w04.out.cell 3
              have xf3 : u4.frozen? ⟨u0.heap.size, 3, none⟩ = false := HX_w04.out.free 3
              go_simp
              obtain ⟨u5, hw5⟩ : ∃ W, Hid (((((u4.setCell ⟨u0.heap.size, 0, none⟩ (.int .i64 (tfeignD aBase_0 aBase_1 aKey_0 aKey_1 aChal aResp).1)).setCell ⟨u0.heap.size, 1, none⟩ (.int .i64 (tfeignD aBase_0 aBase_1 aKey_0 aKey_1 aChal aResp).2.1)).setCell ⟨u0.heap.size, 2, none⟩ (.int .i64 (tfeignD aBase_0 aBase_1 aKey_0 aKey_1 aChal aResp).2.2.1)).setCell ⟨u0.heap.size, 3, none⟩ (.int .i64 (tfeignD aBase_0 aBase_1 aKey_0 aKey_1 aChal aResp).2.2.2)) = W) := ⟨_, Lib.hid rfl⟩
              rw [hw5.out]
              have hk5 : Kept (u0.heap.size) (u0.heap.size + 1) u4 u5 := by rw [← hw5.out]; exact ((((Kept.refl _ _ _).setCell (p := ⟨u0.heap.size, 0, none⟩) (Nat.le_refl _) (Nat.lt_succ_self _) _).setCell (p := ⟨u0.heap.size, 1, none⟩) (Nat.le_refl _) (Nat.lt_succ_self _) _).setCell (p := ⟨u0.heap.size, 2, none⟩) (Nat.le_refl _) (Nat.lt_succ_self _) _).setCell (p := ⟨u0.heap.size, 3, none⟩) (Nat.le_refl _) (Nat.lt_succ_self _) _
              have zs5 : u4.heap.size ≤ u5.heap.size := hk5.size
              have hlo5 := HBl4.out.size
              have HBl5 : Hid (Below w.heap.size w u5) := Lib.hid (HBl4.out.trans ((hk5.to_below (by have := HX_w04.out.lt; omega)).mono (by omega)))
              have HX_w05 : Hid (Bx u5 u0.heap.size #[.int .i64 (tfeignD aBase_0 aBase_1 aKey_0 aKey_1 aChal aResp).1, .int .i64 (tfeignD aBase_0 aBase_1 aKey_0 aKey_1 aChal aResp).2.1, .int .i64 (tfeignD aBase_0 aBase_1 aKey_0 aKey_1 aChal aResp).2.2.1, .int .i64 (tfeignD aBase_0 aBase_1 aKey_0 aKey_1 aChal aResp).2.2.2] 39) := Lib.hid (by have := ((((HX_w04.out).set 0 (.int .i64 (tfeignD aBase_0 aBase_1 aKey_0 aKey_1 aChal aResp).1)).set 1 (.int .i64 (tfeignD aBase_0 aBase_1 aKey_0 aKey_1 aChal aResp).2.1)).set 2 (.int .i64 (tfeignD aBase_0 aBase_1 aKey_0 aKey_1 aChal aResp).2.2.1)).set 3 (.int .i64 (tfeignD aBase_0 aBase_1 aKey_0 aKey_1 aChal aResp).2.2.2); rw [hw5.out] at this; exact this)
              have HX_aBase5 : Hid (Bx u5 w.heap.size #[.int .i64 aBase_0, .int .i64 aBase_1] 37) := Lib.hid (HX_aBase4.out.kept hk5 (by have := HX_aBase4.out.lt; have := HX_aKey4.out.lt; have := HX_w04.out.lt; omega))
              have HX_aKey5 : Hid (Bx u5 (w.heap.size + 1) #[.int .i64 aKey_0, .int .i64 aKey_1] 37) := Lib.hid (HX_aKey4.out.kept hk5 (by have := HX_aBase4.out.lt; have := HX_aKey4.out.lt; have := HX_w04.out.lt; omega))
              clear hHeld hw5 hk5 hlo5 xc0 xf0 xc1 xf1 xc2 xf2 xc3 xf3 HBl4 HX_aBase4 HX_aKey4 HX_w04
              refine hK.out _ _ ⟨HX_aBase5.out.cell 0, HX_aBase5.out.cell 1, HX_aKey5.out.cell 0, HX_aKey5.out.cell 1⟩ (fun hHeld => ?_)
              clear hK K
              try simp only [Act.put]
              refine wpAnyH_take (i := 12) (oi := { dst := some 10, op := Op.assign (Operand.tmp 22), type := 4, pos := "exact.go:2790", after := #[{ on := 9, ground := Ground.data }, { on := 11, ground := Ground.chain }, { on := 0, ground := Ground.phase }, { on := 1, ground := Ground.phase }, { on := 2, ground := Ground.phase }, { on := 3, ground := Ground.phase }, { on := 4, ground := Ground.phase }, { on := 5, ground := Ground.phase }, { on := 6, ground := Ground.phase }, { on := 7, ground := Ground.phase }, { on := 8, ground := Ground.phase }, { on := 9, ground := Ground.phase }, { on := 10, ground := Ground.phase }, { on := 11, ground := Ground.phase }], guard := none }) (v := ?_) rfl (by kernel_rfl) (by kernel_rfl) (by kernel_rfl) (fun _ _ _ h => h) (Or.inl ⟨by rfl, ?_⟩) hHeld ?_
              rotate_left
              · intro w hSw; obtain ⟨s0, s1, s2, s3⟩ := hSw; (try dsimp only at hSw); go_simp; (try with_reducible rfl)
              try simp only [Act.put, List.setIfInBounds_toArray, List.set_cons_zero, List.set_cons_succ]
              refine wpAnyH_done (by kernel_rfl) ?_ _
              go_wp2
              go_meet
              case rel => exact ⟨u0.heap.size, rfl, rfl, HX_w05, HX_aBase5, HX_aKey5, by omega, HBl5⟩
            exact AllReadyH.nil
          exact AllReadyH.nil
        exact AllReadyH.nil
      exact AllReadyH.nil
    exact AllReadyH.nil
  case rest =>
    clear HB HX_aBase HX_aKey
    obtain ⟨B0, rfl, rfl, HX_w0, HX_aBase, HX_aKey, zB0, HB⟩ := hcut
    obtain ⟨wc0, hwc⟩ : ∃ W, W = wc := ⟨_, rfl⟩
    subst hwc
    have zc0 := HB.out.size
    have zL0 := HX_w0.out.lt
    have fc1 : wc0.cell? ⟨w.heap.size, 0, none⟩ = some (.int .i64 aBase_0) := HX_aBase.out.cell 0
    have fc2 : wc0.cell? ⟨w.heap.size, 1, none⟩ = some (.int .i64 aBase_1) := HX_aBase.out.cell 1
    have fc3 : wc0.cell? ⟨(w.heap.size + 1), 0, none⟩ = some (.int .i64 aKey_0) := HX_aKey.out.cell 0
    have fc4 : wc0.cell? ⟨(w.heap.size + 1), 1, none⟩ = some (.int .i64 aKey_1) := HX_aKey.out.cell 1
    have fc5 : wc0.cell? ⟨B0, 0, none⟩ = some (.int .i64 (tfeignD aBase_0 aBase_1 aKey_0 aKey_1 aChal aResp).1) := HX_w0.out.cell 0
    have fc6 : wc0.cell? ⟨B0, 1, none⟩ = some (.int .i64 (tfeignD aBase_0 aBase_1 aKey_0 aKey_1 aChal aResp).2.1) := HX_w0.out.cell 1
    have fc7 : wc0.cell? ⟨B0, 2, none⟩ = some (.int .i64 (tfeignD aBase_0 aBase_1 aKey_0 aKey_1 aChal aResp).2.2.1) := HX_w0.out.cell 2
    have fc8 : wc0.cell? ⟨B0, 3, none⟩ = some (.int .i64 (tfeignD aBase_0 aBase_1 aKey_0 aKey_1 aChal aResp).2.2.2) := HX_w0.out.cell 3
    go_upto_region 2 with (fail)
    clear fc1 fc2 fc3 fc4 fc5 fc6 fc7 fc8
    go_cut [11, 12] from 23 (fun p q0 w' => ∃ B1 : Nat, p = .pointer (some ⟨B1, 0, none⟩) ∧ q0 = .bool (twinFB aBase_0 aBase_1 aKey_0 aKey_1 aChal aResp) ∧ Hid (Bx w' B1 #[.int .i64 (tfeignD aBase_0 aBase_1 aKey_0 aKey_1 aChal aResp).1, .int .i64 (tfeignD aBase_0 aBase_1 aKey_0 aKey_1 aChal aResp).2.1, .int .i64 (tfeignD aBase_0 aBase_1 aKey_0 aKey_1 aChal aResp).2.2.1, .int .i64 (tfeignD aBase_0 aBase_1 aKey_0 aKey_1 aChal aResp).2.2.2] 39) ∧ Hid (Bx w' w.heap.size #[.int .i64 aBase_0, .int .i64 aBase_1] 37) ∧ Hid (Bx w' (w.heap.size + 1) #[.int .i64 aKey_0, .int .i64 aKey_1] 37) ∧ Hid (Bx w' B0 #[.int .i64 (tfeignD aBase_0 aBase_1 aKey_0 aKey_1 aChal aResp).1, .int .i64 (tfeignD aBase_0 aBase_1 aKey_0 aKey_1 aChal aResp).2.1, .int .i64 (tfeignD aBase_0 aBase_1 aKey_0 aKey_1 aChal aResp).2.2.1, .int .i64 (tfeignD aBase_0 aBase_1 aKey_0 aKey_1 aChal aResp).2.2.2] 39) ∧ wc0.heap.size ≤ B1 ∧ Hid (Below w.heap.size w w'))
    case first =>
      go_wp2
      refine wp_region_held_drew (S := fun w' => w'.cell? ⟨w.heap.size, 0, none⟩ = some (.int .i64 aBase_0) ∧ w'.cell? ⟨w.heap.size, 1, none⟩ = some (.int .i64 aBase_1) ∧ w'.cell? ⟨(w.heap.size + 1), 0, none⟩ = some (.int .i64 aKey_0) ∧ w'.cell? ⟨(w.heap.size + 1), 1, none⟩ = some (.int .i64 aKey_1) ∧ w'.cell? ⟨B0, 0, none⟩ = some (.int .i64 (tfeignD aBase_0 aBase_1 aKey_0 aKey_1 aChal aResp).1) ∧ w'.cell? ⟨B0, 1, none⟩ = some (.int .i64 (tfeignD aBase_0 aBase_1 aKey_0 aKey_1 aChal aResp).2.1) ∧ w'.cell? ⟨B0, 2, none⟩ = some (.int .i64 (tfeignD aBase_0 aBase_1 aKey_0 aKey_1 aChal aResp).2.2.1) ∧ w'.cell? ⟨B0, 3, none⟩ = some (.int .i64 (tfeignD aBase_0 aBase_1 aKey_0 aKey_1 aChal aResp).2.2.2)) (by kernel_rfl) ⟨HX_aBase.out.cell 0, HX_aBase.out.cell 1, HX_aKey.out.cell 0, HX_aKey.out.cell 1, HX_w0.out.cell 0, HX_w0.out.cell 1, HX_w0.out.cell 2, HX_w0.out.cell 3⟩ (fun hHeld => ?_)
      obtain ⟨u0, hu0⟩ : ∃ u0, Hid (wc0.drew = u0) := ⟨_, Lib.hid rfl⟩
      rw [hu0.out] at hHeld ⊢
      have zs0 : wc0.heap.size = u0.heap.size := by rw [← hu0.out]; rfl
      replace zs0 := Nat.le_of_eq zs0
      have HBl0 : Hid (Below w.heap.size w u0) := Lib.hid (by rw [← hu0.out]; exact HB.out.drew)
      have HX_aBase0 : Hid (Bx u0 w.heap.size #[.int .i64 aBase_0, .int .i64 aBase_1] 37) := Lib.hid (by rw [← hu0.out]; exact HX_aBase.out)
      have HX_aKey0 : Hid (Bx u0 (w.heap.size + 1) #[.int .i64 aKey_0, .int .i64 aKey_1] 37) := Lib.hid (by rw [← hu0.out]; exact HX_aKey.out)
      have HX_w00 : Hid (Bx u0 B0 #[.int .i64 (tfeignD aBase_0 aBase_1 aKey_0 aKey_1 aChal aResp).1, .int .i64 (tfeignD aBase_0 aBase_1 aKey_0 aKey_1 aChal aResp).2.1, .int .i64 (tfeignD aBase_0 aBase_1 aKey_0 aKey_1 aChal aResp).2.2.1, .int .i64 (tfeignD aBase_0 aBase_1 aKey_0 aKey_1 aChal aResp).2.2.2] 39) := Lib.hid (by rw [← hu0.out]; exact HX_w0.out)
      clear hu0
      refine wpAnyH_take (i := 0) (oi := { dst := some 24, op := Op.load 37 (Operand.tmp 4), type := 37, pos := "exact.go:2791", after := #[], guard := none }) (v := ?_) rfl (by kernel_rfl) (by kernel_rfl) (by kernel_rfl) (fun _ _ _ h => h) (Or.inl ⟨by rfl, ?_⟩) hHeld ?_
      rotate_left
      · intro w hSw; obtain ⟨s0, s1, s2, s3, s4, s5, s6, s7⟩ := hSw; (try dsimp only at hSw); go_simp; (try with_reducible rfl)
      try simp only [Act.put, List.setIfInBounds_toArray, List.set_cons_zero, List.set_cons_succ]
      refine wpAnyH_take (i := 2) (oi := { dst := some 26, op := Op.load 37 (Operand.tmp 5), type := 37, pos := "exact.go:2791", after := #[], guard := none }) (v := ?_) rfl (by kernel_rfl) (by kernel_rfl) (by kernel_rfl) (fun _ _ _ h => h) (Or.inl ⟨by rfl, ?_⟩) hHeld ?_
      rotate_left
      · intro w hSw; obtain ⟨s0, s1, s2, s3, s4, s5, s6, s7⟩ := hSw; (try dsimp only at hSw); go_simp; (try with_reducible rfl)
      try simp only [Act.put, List.setIfInBounds_toArray, List.set_cons_zero, List.set_cons_succ]
      refine wpAnyH_take (i := 4) (oi := { dst := some 28, op := Op.move (Operand.tmp 2), type := 3, pos := "exact.go:2791", after := #[], guard := none }) (v := ?_) rfl (by kernel_rfl) (by kernel_rfl) (by kernel_rfl) (fun _ _ _ h => h) (Or.inl ⟨by rfl, ?_⟩) hHeld ?_
      rotate_left
      · intro w hSw; obtain ⟨s0, s1, s2, s3, s4, s5, s6, s7⟩ := hSw; (try dsimp only at hSw); go_simp; (try with_reducible rfl)
      try simp only [Act.put, List.setIfInBounds_toArray, List.set_cons_zero, List.set_cons_succ]
      refine wpAnyH_take (i := 5) (oi := { dst := some 29, op := Op.move (Operand.tmp 3), type := 3, pos := "exact.go:2791", after := #[], guard := none }) (v := ?_) rfl (by kernel_rfl) (by kernel_rfl) (by kernel_rfl) (fun _ _ _ h => h) (Or.inl ⟨by rfl, ?_⟩) hHeld ?_
      rotate_left
      · intro w hSw; obtain ⟨s0, s1, s2, s3, s4, s5, s6, s7⟩ := hSw; (try dsimp only at hSw); go_simp; (try with_reducible rfl)
      try simp only [Act.put, List.setIfInBounds_toArray, List.set_cons_zero, List.set_cons_succ]
      refine wpAnyH_ready (rs := [1, 10]) (by kernel_rfl) (by simp) ?_
      refine AllReadyH.cons (o := { dst := some 25, op := Op.call { callee := Callee.value (Operand.func 27), args := #[Operand.tmp 24], argTypes := #[37] }, type := 42, pos := "exact.go:2791", after := #[{ on := 0, ground := Ground.data }], guard := none }) rfl (fun K hK => ?_) ?_
      · go_simp
        refine (l_toPair aBase_0 aBase_1 u0).mono ?_
        rintro e u1 ⟨rfl, hb_⟩
        have zs1 : u0.heap.size ≤ u1.heap.size := hb_.size
        have HBl1 : Hid (Below w.heap.size w u1) := Lib.hid (HBl0.out.trans (hb_.mono HBl0.out.size))
        have HX_aBase1 : Hid (Bx u1 w.heap.size #[.int .i64 aBase_0, .int .i64 aBase_1] 37) := Lib.hid (HX_aBase0.out.below hb_ HX_aBase0.out.lt)
        have HX_aKey1 : Hid (Bx u1 (w.heap.size + 1) #[.int .i64 aKey_0, .int .i64 aKey_1] 37) := Lib.hid (HX_aKey0.out.below hb_ HX_aKey0.out.lt)
        have HX_w01 : Hid (Bx u1 B0 #[.int .i64 (tfeignD aBase_0 aBase_1 aKey_0 aKey_1 aChal aResp).1, .int .i64 (tfeignD aBase_0 aBase_1 aKey_0 aKey_1 aChal aResp).2.1, .int .i64 (tfeignD aBase_0 aBase_1 aKey_0 aKey_1 aChal aResp).2.2.1, .int .i64 (tfeignD aBase_0 aBase_1 aKey_0 aKey_1 aChal aResp).2.2.2] 39) := Lib.hid (HX_w00.out.below hb_ HX_w00.out.lt)
        clear hHeld hb_ HBl0 HX_aBase0 HX_aKey0 HX_w00
        (try dsimp only)
        (try go_wp2_with fail)
        refine hK.out _ _ ⟨HX_aBase1.out.cell 0, HX_aBase1.out.cell 1, HX_aKey1.out.cell 0, HX_aKey1.out.cell 1, HX_w01.out.cell 0, HX_w01.out.cell 1, HX_w01.out.cell 2, HX_w01.out.cell 3⟩ (fun hHeld => ?_)
        clear hK K
        try simp only [Act.put, List.setIfInBounds_toArray, List.set_cons_zero, List.set_cons_succ]
        refine wpAnyH_ready (rs := [3, 10]) (by kernel_rfl) (by simp) ?_
        refine AllReadyH.cons (o := { dst := some 27, op := Op.call { callee := Callee.value (Operand.func 27), args := #[Operand.tmp 26], argTypes := #[37] }, type := 42, pos := "exact.go:2791", after := #[{ on := 2, ground := Ground.data }, { on := 1, ground := Ground.chain }], guard := none }) rfl (fun K hK => ?_) ?_
        · go_simp
          refine (l_toPair aKey_0 aKey_1 u1).mono ?_
          rintro e u2 ⟨rfl, hb_⟩
          have zs2 : u1.heap.size ≤ u2.heap.size := hb_.size
          have HBl2 : Hid (Below w.heap.size w u2) := Lib.hid (HBl1.out.trans (hb_.mono HBl1.out.size))
          have HX_aBase2 : Hid (Bx u2 w.heap.size #[.int .i64 aBase_0, .int .i64 aBase_1] 37) := Lib.hid (HX_aBase1.out.below hb_ HX_aBase1.out.lt)
          have HX_aKey2 : Hid (Bx u2 (w.heap.size + 1) #[.int .i64 aKey_0, .int .i64 aKey_1] 37) := Lib.hid (HX_aKey1.out.below hb_ HX_aKey1.out.lt)
          have HX_w02 : Hid (Bx u2 B0 #[.int .i64 (tfeignD aBase_0 aBase_1 aKey_0 aKey_1 aChal aResp).1, .int .i64 (tfeignD aBase_0 aBase_1 aKey_0 aKey_1 aChal aResp).2.1, .int .i64 (tfeignD aBase_0 aBase_1 aKey_0 aKey_1 aChal aResp).2.2.1, .int .i64 (tfeignD aBase_0 aBase_1 aKey_0 aKey_1 aChal aResp).2.2.2] 39) := Lib.hid (HX_w01.out.below hb_ HX_w01.out.lt)
          clear hHeld hb_ HBl1 HX_aBase1 HX_aKey1 HX_w01
          (try dsimp only)
          (try go_wp2_with fail)
          refine hK.out _ _ ⟨HX_aBase2.out.cell 0, HX_aBase2.out.cell 1, HX_aKey2.out.cell 0, HX_aKey2.out.cell 1, HX_w02.out.cell 0, HX_w02.out.cell 1, HX_w02.out.cell 2, HX_w02.out.cell 3⟩ (fun hHeld => ?_)
          clear hK K
          try simp only [Act.put, List.setIfInBounds_toArray, List.set_cons_zero, List.set_cons_succ]
          refine wpAnyH_ready (rs := [6, 10]) (by kernel_rfl) (by simp) ?_
          refine AllReadyH.cons (o := { dst := some 30, op := Op.call { callee := Callee.value (Operand.func 34), args := #[Operand.tmp 25, Operand.tmp 27, Operand.tmp 28, Operand.tmp 29], argTypes := #[42, 42, 3, 3] }, type := 40, pos := "exact.go:2791", after := #[{ on := 1, ground := Ground.data }, { on := 3, ground := Ground.data }, { on := 4, ground := Ground.data }, { on := 5, ground := Ground.data }, { on := 3, ground := Ground.chain }], guard := none }) rfl (fun K hK => ?_) ?_
          · go_simp
            refine (X_i_TwinFeign aBase_0 aBase_1 aKey_0 aKey_1 aChal aResp u2).mono ?_
            rintro e u3 ⟨rfl, hb_⟩
            have zs3 : u2.heap.size ≤ u3.heap.size := hb_.size
            have HBl3 : Hid (Below w.heap.size w u3) := Lib.hid (HBl2.out.trans (hb_.mono HBl2.out.size))
            have HX_aBase3 : Hid (Bx u3 w.heap.size #[.int .i64 aBase_0, .int .i64 aBase_1] 37) := Lib.hid (HX_aBase2.out.below hb_ HX_aBase2.out.lt)
            have HX_aKey3 : Hid (Bx u3 (w.heap.size + 1) #[.int .i64 aKey_0, .int .i64 aKey_1] 37) := Lib.hid (HX_aKey2.out.below hb_ HX_aKey2.out.lt)
            have HX_w03 : Hid (Bx u3 B0 #[.int .i64 (tfeignD aBase_0 aBase_1 aKey_0 aKey_1 aChal aResp).1, .int .i64 (tfeignD aBase_0 aBase_1 aKey_0 aKey_1 aChal aResp).2.1, .int .i64 (tfeignD aBase_0 aBase_1 aKey_0 aKey_1 aChal aResp).2.2.1, .int .i64 (tfeignD aBase_0 aBase_1 aKey_0 aKey_1 aChal aResp).2.2.2] 39) := Lib.hid (HX_w02.out.below hb_ HX_w02.out.lt)
            clear hHeld hb_ HBl2 HX_aBase2 HX_aKey2 HX_w02
            (try dsimp only)
            (try go_wp2_with fail)
            refine hK.out _ _ ⟨HX_aBase3.out.cell 0, HX_aBase3.out.cell 1, HX_aKey3.out.cell 0, HX_aKey3.out.cell 1, HX_w03.out.cell 0, HX_w03.out.cell 1, HX_w03.out.cell 2, HX_w03.out.cell 3⟩ (fun hHeld => ?_)
            clear hK K
            try simp only [Act.put, List.setIfInBounds_toArray, List.set_cons_zero, List.set_cons_succ]
            refine wpAnyH_take (i := 7) (oi := { dst := some 23, op := Op.move (Operand.tmp 30), type := 40, pos := "exact.go:2791", after := #[{ on := 6, ground := Ground.data }], guard := none }) (v := ?_) rfl (by kernel_rfl) (by kernel_rfl) (by kernel_rfl) (fun _ _ _ h => h) (Or.inl ⟨by rfl, ?_⟩) hHeld ?_
            rotate_left
            · intro w hSw; obtain ⟨s0, s1, s2, s3, s4, s5, s6, s7⟩ := hSw; (try dsimp only at hSw); go_simp; (try with_reducible rfl)
            try simp only [Act.put, List.setIfInBounds_toArray, List.set_cons_zero, List.set_cons_succ]
            refine wpAnyH_take (i := 8) (oi := { dst := some 31, op := Op.extract (Operand.tmp 23) 0, type := 39, pos := "exact.go:2791", after := #[{ on := 7, ground := Ground.data }], guard := none }) (v := ?_) rfl (by kernel_rfl) (by kernel_rfl) (by kernel_rfl) (fun _ _ _ h => h) (Or.inl ⟨by rfl, ?_⟩) hHeld ?_
            rotate_left
            · intro w hSw; obtain ⟨s0, s1, s2, s3, s4, s5, s6, s7⟩ := hSw; (try dsimp only at hSw); go_simp; (try with_reducible rfl)
            try simp only [Act.put, List.setIfInBounds_toArray, List.set_cons_zero, List.set_cons_succ]
            refine wpAnyH_take (i := 9) (oi := { dst := some 32, op := Op.extract (Operand.tmp 23) 1, type := 4, pos := "exact.go:2791", after := #[{ on := 7, ground := Ground.data }, { on := 11, ground := Ground.gcOnly Departure.lateStores }], guard := none }) (v := ?_) rfl (by kernel_rfl) (by kernel_rfl) (by kernel_rfl) (fun _ _ _ h => h) (Or.inl ⟨by rfl, ?_⟩) hHeld ?_
            rotate_left
            · intro w hSw; obtain ⟨s0, s1, s2, s3, s4, s5, s6, s7⟩ := hSw; (try dsimp only at hSw); go_simp; (try with_reducible rfl)
            try simp only [Act.put, List.setIfInBounds_toArray, List.set_cons_zero, List.set_cons_succ]
            refine wpAnyH_ready (rs := [10]) (by kernel_rfl) (by simp) ?_
            refine AllReadyH.cons (o := { dst := some 11, op := Op.alloc 39, type := 0, pos := "exact.go:2791", after := #[], guard := none }) rfl (fun K hK => ?_) ?_
            · go_simp
              obtain ⟨u4, hw4⟩ : ∃ W, Hid (u3.alloc (.cells #[.int .i64 0, .int .i64 0, .int .i64 0, .int .i64 0] 39) = W) := ⟨_, Lib.hid rfl⟩
              rw [hw4.out]
              have zs4 : u3.heap.size < u4.heap.size := by rw [← hw4.out, World.size_alloc]; omega
              have HBl4 : Hid (Below w.heap.size w u4) := Lib.hid (by rw [← hw4.out]; exact HBl3.out.alloc HBl3.out.size _)
              have HX_aBase4 : Hid (Bx u4 w.heap.size #[.int .i64 aBase_0, .int .i64 aBase_1] 37) := Lib.hid (by rw [← hw4.out]; exact HX_aBase3.out.alloc _)
              have HX_aKey4 : Hid (Bx u4 (w.heap.size + 1) #[.int .i64 aKey_0, .int .i64 aKey_1] 37) := Lib.hid (by rw [← hw4.out]; exact HX_aKey3.out.alloc _)
              have HX_w04 : Hid (Bx u4 B0 #[.int .i64 (tfeignD aBase_0 aBase_1 aKey_0 aKey_1 aChal aResp).1, .int .i64 (tfeignD aBase_0 aBase_1 aKey_0 aKey_1 aChal aResp).2.1, .int .i64 (tfeignD aBase_0 aBase_1 aKey_0 aKey_1 aChal aResp).2.2.1, .int .i64 (tfeignD aBase_0 aBase_1 aKey_0 aKey_1 aChal aResp).2.2.2] 39) := Lib.hid (by rw [← hw4.out]; exact HX_w03.out.alloc _)
              have HX_g04 : Hid (Bx u4 u3.heap.size #[.int .i64 0, .int .i64 0, .int .i64 0, .int .i64 0] 39) := Lib.hid (by rw [← hw4.out]; exact Bx.new _ _ _)
              have hab4 : Below u3.heap.size u3 u4 := by rw [← hw4.out]; exact (Below.refl _ _).alloc (Nat.le_refl _) _
              clear hHeld hw4 hab4 HBl3 HX_aBase3 HX_aKey3 HX_w03
              refine hK.out _ _ ⟨HX_aBase4.out.cell 0, HX_aBase4.out.cell 1, HX_aKey4.out.cell 0, HX_aKey4.out.cell 1, HX_w04.out.cell 0, HX_w04.out.cell 1, HX_w04.out.cell 2, HX_w04.out.cell 3⟩ (fun hHeld => ?_)
              clear hK K
              try simp only [Act.put, List.setIfInBounds_toArray, List.set_cons_zero, List.set_cons_succ]
              refine wpAnyH_ready (rs := [11]) (by kernel_rfl) (by simp) ?_
              refine AllReadyH.cons (o := { dst := none, op := Op.store 39 (Operand.tmp 11) (Operand.tmp 31), type := 0, pos := "exact.go:2791", after := #[{ on := 10, ground := Ground.data }, { on := 8, ground := Ground.data }, { on := 6, ground := Ground.chain }, { on := 0, ground := Ground.phase }, { on := 1, ground := Ground.phase }, { on := 2, ground := Ground.phase }, { on := 3, ground := Ground.phase }, { on := 4, ground := Ground.phase }, { on := 5, ground := Ground.phase }, { on := 6, ground := Ground.phase }, { on := 7, ground := Ground.phase }, { on := 8, ground := Ground.phase }, { on := 9, ground := Ground.textOnly Departure.lateStores }, { on := 10, ground := Ground.phase }], guard := none }) rfl (fun K hK => ?_) ?_
              · have xc0 : u4.cell? ⟨u3.heap.size, 0, none⟩ = some (.int .i64 0) := HX_g04.out.cell 0
                have xf0 : u4.frozen? ⟨u3.heap.size, 0, none⟩ = false := HX_g04.out.free 0
                have xc1 : u4.cell? ⟨u3.heap.size, 1, none⟩ = some (.int .i64 0) := HX_g04.out.cell 1
                have xf1 : u4.frozen? ⟨u3.heap.size, 1, none⟩ = false := HX_g04.out.free 1
                have xc2 : u4.cell? ⟨u3.heap.size, 2, none⟩ = some (.int .i64 0) := HX_g04.out.cell 2
                have xf2 : u4.frozen? ⟨u3.heap.size, 2, none⟩ = false := HX_g04.out.free 2
                have xc3 : u4.cell? ⟨u3.heap.size, 3, none⟩ = some (.int .i64 0) := HX_g04.out.cell 3
                have xf3 : u4.frozen? ⟨u3.heap.size, 3, none⟩ = false := HX_g04.out.free 3
                go_simp
                obtain ⟨u5, hw5⟩ : ∃ W, Hid (((((u4.setCell ⟨u3.heap.size, 0, none⟩ (.int .i64 (tfeignD aBase_0 aBase_1 aKey_0 aKey_1 aChal aResp).1)).setCell ⟨u3.heap.size, 1, none⟩ (.int .i64 (tfeignD aBase_0 aBase_1 aKey_0 aKey_1 aChal aResp).2.1)).setCell ⟨u3.heap.size, 2, none⟩ (.int .i64 (tfeignD aBase_0 aBase_1 aKey_0 aKey_1 aChal aResp).2.2.1)).setCell ⟨u3.heap.size, 3, none⟩ (.int .i64 (tfeignD aBase_0 aBase_1 aKey_0 aKey_1 aChal aResp).2.2.2)) = W) := ⟨_, Lib.hid rfl⟩
                rw [hw5.out]
                have hk5 : Kept (u3.heap.size) (u3.heap.size + 1) u4 u5 := by rw [← hw5.out]; exact ((((Kept.refl _ _ _).setCell (p := ⟨u3.heap.size, 0, none⟩) (Nat.le_refl _) (Nat.lt_succ_self _) _).setCell (p := ⟨u3.heap.size, 1, none⟩) (Nat.le_refl _) (Nat.lt_succ_self _) _).setCell (p := ⟨u3.heap.size, 2, none⟩) (Nat.le_refl _) (Nat.lt_succ_self _) _).setCell (p := ⟨u3.heap.size, 3, none⟩) (Nat.le_refl _) (Nat.lt_succ_self _) _
                have zs5 : u4.heap.size ≤ u5.heap.size := hk5.size
                have hlo5 := HBl4.out.size
                have HBl5 : Hid (Below w.heap.size w u5) := Lib.hid (HBl4.out.trans ((hk5.to_below (by have := HX_g04.out.lt; omega)).mono (by omega)))
                have HX_g05 : Hid (Bx u5 u3.heap.size #[.int .i64 (tfeignD aBase_0 aBase_1 aKey_0 aKey_1 aChal aResp).1, .int .i64 (tfeignD aBase_0 aBase_1 aKey_0 aKey_1 aChal aResp).2.1, .int .i64 (tfeignD aBase_0 aBase_1 aKey_0 aKey_1 aChal aResp).2.2.1, .int .i64 (tfeignD aBase_0 aBase_1 aKey_0 aKey_1 aChal aResp).2.2.2] 39) := Lib.hid (by have := ((((HX_g04.out).set 0 (.int .i64 (tfeignD aBase_0 aBase_1 aKey_0 aKey_1 aChal aResp).1)).set 1 (.int .i64 (tfeignD aBase_0 aBase_1 aKey_0 aKey_1 aChal aResp).2.1)).set 2 (.int .i64 (tfeignD aBase_0 aBase_1 aKey_0 aKey_1 aChal aResp).2.2.1)).set 3 (.int .i64 (tfeignD aBase_0 aBase_1 aKey_0 aKey_1 aChal aResp).2.2.2); rw [hw5.out] at this; exact this)
                have HX_aBase5 : Hid (Bx u5 w.heap.size #[.int .i64 aBase_0, .int .i64 aBase_1] 37) := Lib.hid (HX_aBase4.out.kept hk5 (by have := HX_aBase4.out.lt; have := HX_aKey4.out.lt; have := HX_w04.out.lt; have := HX_g04.out.lt; omega))
                have HX_aKey5 : Hid (Bx u5 (w.heap.size + 1) #[.int .i64 aKey_0, .int .i64 aKey_1] 37) := Lib.hid (HX_aKey4.out.kept hk5 (by have := HX_aBase4.out.lt; have := HX_aKey4.out.lt; have := HX_w04.out.lt; have := HX_g04.out.lt; omega))
                have HX_w05 : Hid (Bx u5 B0 #[.int .i64 (tfeignD aBase_0 aBase_1 aKey_0 aKey_1 aChal aResp).1, .int .i64 (tfeignD aBase_0 aBase_1 aKey_0 aKey_1 aChal aResp).2.1, .int .i64 (tfeignD aBase_0 aBase_1 aKey_0 aKey_1 aChal aResp).2.2.1, .int .i64 (tfeignD aBase_0 aBase_1 aKey_0 aKey_1 aChal aResp).2.2.2] 39) := Lib.hid (HX_w04.out.kept hk5 (by have := HX_aBase4.out.lt; have := HX_aKey4.out.lt; have := HX_w04.out.lt; have := HX_g04.out.lt; omega))
                clear hHeld hw5 hk5 hlo5 xc0 xf0 xc1 xf1 xc2 xf2 xc3 xf3 HBl4 HX_aBase4 HX_aKey4 HX_w04 HX_g04
                refine hK.out _ _ ⟨HX_aBase5.out.cell 0, HX_aBase5.out.cell 1, HX_aKey5.out.cell 0, HX_aKey5.out.cell 1, HX_w05.out.cell 0, HX_w05.out.cell 1, HX_w05.out.cell 2, HX_w05.out.cell 3⟩ (fun hHeld => ?_)
                clear hK K
                try simp only [Act.put]
                refine wpAnyH_take (i := 12) (oi := { dst := some 12, op := Op.assign (Operand.tmp 32), type := 4, pos := "exact.go:2791", after := #[{ on := 9, ground := Ground.data }, { on := 11, ground := Ground.chain }, { on := 0, ground := Ground.phase }, { on := 1, ground := Ground.phase }, { on := 2, ground := Ground.phase }, { on := 3, ground := Ground.phase }, { on := 4, ground := Ground.phase }, { on := 5, ground := Ground.phase }, { on := 6, ground := Ground.phase }, { on := 7, ground := Ground.phase }, { on := 8, ground := Ground.phase }, { on := 9, ground := Ground.phase }, { on := 10, ground := Ground.phase }, { on := 11, ground := Ground.phase }], guard := none }) (v := ?_) rfl (by kernel_rfl) (by kernel_rfl) (by kernel_rfl) (fun _ _ _ h => h) (Or.inl ⟨by rfl, ?_⟩) hHeld ?_
                rotate_left
                · intro w hSw; obtain ⟨s0, s1, s2, s3, s4, s5, s6, s7⟩ := hSw; (try dsimp only at hSw); go_simp; (try with_reducible rfl)
                try simp only [Act.put, List.setIfInBounds_toArray, List.set_cons_zero, List.set_cons_succ]
                refine wpAnyH_done (by kernel_rfl) ?_ _
                go_wp2
                go_meet
                case rel => exact ⟨u3.heap.size, rfl, rfl, HX_g05, HX_aBase5, HX_aKey5, HX_w05, by omega, HBl5⟩
              exact AllReadyH.nil
            exact AllReadyH.nil
          refine AllReadyH.cons (o := { dst := some 11, op := Op.alloc 39, type := 0, pos := "exact.go:2791", after := #[], guard := none }) rfl (fun K hK => ?_) ?_
          · go_simp
            obtain ⟨u3, hw3⟩ : ∃ W, Hid (u2.alloc (.cells #[.int .i64 0, .int .i64 0, .int .i64 0, .int .i64 0] 39) = W) := ⟨_, Lib.hid rfl⟩
            rw [hw3.out]
            have zs3 : u2.heap.size < u3.heap.size := by rw [← hw3.out, World.size_alloc]; omega
            have HBl3 : Hid (Below w.heap.size w u3) := Lib.hid (by rw [← hw3.out]; exact HBl2.out.alloc HBl2.out.size _)
            have HX_aBase3 : Hid (Bx u3 w.heap.size #[.int .i64 aBase_0, .int .i64 aBase_1] 37) := Lib.hid (by rw [← hw3.out]; exact HX_aBase2.out.alloc _)
            have HX_aKey3 : Hid (Bx u3 (w.heap.size + 1) #[.int .i64 aKey_0, .int .i64 aKey_1] 37) := Lib.hid (by rw [← hw3.out]; exact HX_aKey2.out.alloc _)
            have HX_w03 : Hid (Bx u3 B0 #[.int .i64 (tfeignD aBase_0 aBase_1 aKey_0 aKey_1 aChal aResp).1, .int .i64 (tfeignD aBase_0 aBase_1 aKey_0 aKey_1 aChal aResp).2.1, .int .i64 (tfeignD aBase_0 aBase_1 aKey_0 aKey_1 aChal aResp).2.2.1, .int .i64 (tfeignD aBase_0 aBase_1 aKey_0 aKey_1 aChal aResp).2.2.2] 39) := Lib.hid (by rw [← hw3.out]; exact HX_w02.out.alloc _)
            have HX_g03 : Hid (Bx u3 u2.heap.size #[.int .i64 0, .int .i64 0, .int .i64 0, .int .i64 0] 39) := Lib.hid (by rw [← hw3.out]; exact Bx.new _ _ _)
            have hab3 : Below u2.heap.size u2 u3 := by rw [← hw3.out]; exact (Below.refl _ _).alloc (Nat.le_refl _) _
            clear hHeld hw3 hab3 HBl2 HX_aBase2 HX_aKey2 HX_w02
            refine hK.out _ _ ⟨HX_aBase3.out.cell 0, HX_aBase3.out.cell 1, HX_aKey3.out.cell 0, HX_aKey3.out.cell 1, HX_w03.out.cell 0, HX_w03.out.cell 1, HX_w03.out.cell 2, HX_w03.out.cell 3⟩ (fun hHeld => ?_)
            clear hK K
            try simp only [Act.put, List.setIfInBounds_toArray, List.set_cons_zero, List.set_cons_succ]
            refine wpAnyH_ready (rs := [6]) (by kernel_rfl) (by simp) ?_
            refine AllReadyH.cons (o := { dst := some 30, op := Op.call { callee := Callee.value (Operand.func 34), args := #[Operand.tmp 25, Operand.tmp 27, Operand.tmp 28, Operand.tmp 29], argTypes := #[42, 42, 3, 3] }, type := 40, pos := "exact.go:2791", after := #[{ on := 1, ground := Ground.data }, { on := 3, ground := Ground.data }, { on := 4, ground := Ground.data }, { on := 5, ground := Ground.data }, { on := 3, ground := Ground.chain }], guard := none }) rfl (fun K hK => ?_) ?_
            · go_simp
              refine (X_i_TwinFeign aBase_0 aBase_1 aKey_0 aKey_1 aChal aResp u3).mono ?_
              rintro e u4 ⟨rfl, hb_⟩
              have zs4 : u3.heap.size ≤ u4.heap.size := hb_.size
              have HBl4 : Hid (Below w.heap.size w u4) := Lib.hid (HBl3.out.trans (hb_.mono HBl3.out.size))
              have HX_aBase4 : Hid (Bx u4 w.heap.size #[.int .i64 aBase_0, .int .i64 aBase_1] 37) := Lib.hid (HX_aBase3.out.below hb_ HX_aBase3.out.lt)
              have HX_aKey4 : Hid (Bx u4 (w.heap.size + 1) #[.int .i64 aKey_0, .int .i64 aKey_1] 37) := Lib.hid (HX_aKey3.out.below hb_ HX_aKey3.out.lt)
              have HX_w04 : Hid (Bx u4 B0 #[.int .i64 (tfeignD aBase_0 aBase_1 aKey_0 aKey_1 aChal aResp).1, .int .i64 (tfeignD aBase_0 aBase_1 aKey_0 aKey_1 aChal aResp).2.1, .int .i64 (tfeignD aBase_0 aBase_1 aKey_0 aKey_1 aChal aResp).2.2.1, .int .i64 (tfeignD aBase_0 aBase_1 aKey_0 aKey_1 aChal aResp).2.2.2] 39) := Lib.hid (HX_w03.out.below hb_ HX_w03.out.lt)
              have HX_g04 : Hid (Bx u4 u2.heap.size #[.int .i64 0, .int .i64 0, .int .i64 0, .int .i64 0] 39) := Lib.hid (HX_g03.out.below hb_ HX_g03.out.lt)
              clear hHeld hb_ HBl3 HX_aBase3 HX_aKey3 HX_w03 HX_g03
              (try dsimp only)
              (try go_wp2_with fail)
              refine hK.out _ _ ⟨HX_aBase4.out.cell 0, HX_aBase4.out.cell 1, HX_aKey4.out.cell 0, HX_aKey4.out.cell 1, HX_w04.out.cell 0, HX_w04.out.cell 1, HX_w04.out.cell 2, HX_w04.out.cell 3⟩ (fun hHeld => ?_)
              clear hK K
              try simp only [Act.put, List.setIfInBounds_toArray, List.set_cons_zero, List.set_cons_succ]
              refine wpAnyH_take (i := 7) (oi := { dst := some 23, op := Op.move (Operand.tmp 30), type := 40, pos := "exact.go:2791", after := #[{ on := 6, ground := Ground.data }], guard := none }) (v := ?_) rfl (by kernel_rfl) (by kernel_rfl) (by kernel_rfl) (fun _ _ _ h => h) (Or.inl ⟨by rfl, ?_⟩) hHeld ?_
              rotate_left
              · intro w hSw; obtain ⟨s0, s1, s2, s3, s4, s5, s6, s7⟩ := hSw; (try dsimp only at hSw); go_simp; (try with_reducible rfl)
              try simp only [Act.put, List.setIfInBounds_toArray, List.set_cons_zero, List.set_cons_succ]
              refine wpAnyH_take (i := 8) (oi := { dst := some 31, op := Op.extract (Operand.tmp 23) 0, type := 39, pos := "exact.go:2791", after := #[{ on := 7, ground := Ground.data }], guard := none }) (v := ?_) rfl (by kernel_rfl) (by kernel_rfl) (by kernel_rfl) (fun _ _ _ h => h) (Or.inl ⟨by rfl, ?_⟩) hHeld ?_
              rotate_left
              · intro w hSw; obtain ⟨s0, s1, s2, s3, s4, s5, s6, s7⟩ := hSw; (try dsimp only at hSw); go_simp; (try with_reducible rfl)
              try simp only [Act.put, List.setIfInBounds_toArray, List.set_cons_zero, List.set_cons_succ]
              refine wpAnyH_take (i := 9) (oi := { dst := some 32, op := Op.extract (Operand.tmp 23) 1, type := 4, pos := "exact.go:2791", after := #[{ on := 7, ground := Ground.data }, { on := 11, ground := Ground.gcOnly Departure.lateStores }], guard := none }) (v := ?_) rfl (by kernel_rfl) (by kernel_rfl) (by kernel_rfl) (fun _ _ _ h => h) (Or.inl ⟨by rfl, ?_⟩) hHeld ?_
              rotate_left
              · intro w hSw; obtain ⟨s0, s1, s2, s3, s4, s5, s6, s7⟩ := hSw; (try dsimp only at hSw); go_simp; (try with_reducible rfl)
              try simp only [Act.put, List.setIfInBounds_toArray, List.set_cons_zero, List.set_cons_succ]
              refine wpAnyH_ready (rs := [11]) (by kernel_rfl) (by simp) ?_
              refine AllReadyH.cons (o := { dst := none, op := Op.store 39 (Operand.tmp 11) (Operand.tmp 31), type := 0, pos := "exact.go:2791", after := #[{ on := 10, ground := Ground.data }, { on := 8, ground := Ground.data }, { on := 6, ground := Ground.chain }, { on := 0, ground := Ground.phase }, { on := 1, ground := Ground.phase }, { on := 2, ground := Ground.phase }, { on := 3, ground := Ground.phase }, { on := 4, ground := Ground.phase }, { on := 5, ground := Ground.phase }, { on := 6, ground := Ground.phase }, { on := 7, ground := Ground.phase }, { on := 8, ground := Ground.phase }, { on := 9, ground := Ground.textOnly Departure.lateStores }, { on := 10, ground := Ground.phase }], guard := none }) rfl (fun K hK => ?_) ?_
              · have xc0 : u4.cell? ⟨u2.heap.size, 0, none⟩ = some (.int .i64 0) := HX_g04.out.cell 0
                have xf0 : u4.frozen? ⟨u2.heap.size, 0, none⟩ = false := HX_g04.out.free 0
                have xc1 : u4.cell? ⟨u2.heap.size, 1, none⟩ = some (.int .i64 0) := HX_g04.out.cell 1
                have xf1 : u4.frozen? ⟨u2.heap.size, 1, none⟩ = false := HX_g04.out.free 1
                have xc2 : u4.cell? ⟨u2.heap.size, 2, none⟩ = some (.int .i64 0) := HX_g04.out.cell 2
                have xf2 : u4.frozen? ⟨u2.heap.size, 2, none⟩ = false := HX_g04.out.free 2
                have xc3 : u4.cell? ⟨u2.heap.size, 3, none⟩ = some (.int .i64 0) := HX_g04.out.cell 3
                have xf3 : u4.frozen? ⟨u2.heap.size, 3, none⟩ = false := HX_g04.out.free 3
                go_simp
                obtain ⟨u5, hw5⟩ : ∃ W, Hid (((((u4.setCell ⟨u2.heap.size, 0, none⟩ (.int .i64 (tfeignD aBase_0 aBase_1 aKey_0 aKey_1 aChal aResp).1)).setCell ⟨u2.heap.size, 1, none⟩ (.int .i64 (tfeignD aBase_0 aBase_1 aKey_0 aKey_1 aChal aResp).2.1)).setCell ⟨u2.heap.size, 2, none⟩ (.int .i64 (tfeignD aBase_0 aBase_1 aKey_0 aKey_1 aChal aResp).2.2.1)).setCell ⟨u2.heap.size, 3, none⟩ (.int .i64 (tfeignD aBase_0 aBase_1 aKey_0 aKey_1 aChal aResp).2.2.2)) = W) := ⟨_, Lib.hid rfl⟩
                rw [hw5.out]
                have hk5 : Kept (u2.heap.size) (u2.heap.size + 1) u4 u5 := by rw [← hw5.out]; exact ((((Kept.refl _ _ _).setCell (p := ⟨u2.heap.size, 0, none⟩) (Nat.le_refl _) (Nat.lt_succ_self _) _).setCell (p := ⟨u2.heap.size, 1, none⟩) (Nat.le_refl _) (Nat.lt_succ_self _) _).setCell (p := ⟨u2.heap.size, 2, none⟩) (Nat.le_refl _) (Nat.lt_succ_self _) _).setCell (p := ⟨u2.heap.size, 3, none⟩) (Nat.le_refl _) (Nat.lt_succ_self _) _
                have zs5 : u4.heap.size ≤ u5.heap.size := hk5.size
                have hlo5 := HBl4.out.size
                have HBl5 : Hid (Below w.heap.size w u5) := Lib.hid (HBl4.out.trans ((hk5.to_below (by have := HX_g04.out.lt; omega)).mono (by omega)))
                have HX_g05 : Hid (Bx u5 u2.heap.size #[.int .i64 (tfeignD aBase_0 aBase_1 aKey_0 aKey_1 aChal aResp).1, .int .i64 (tfeignD aBase_0 aBase_1 aKey_0 aKey_1 aChal aResp).2.1, .int .i64 (tfeignD aBase_0 aBase_1 aKey_0 aKey_1 aChal aResp).2.2.1, .int .i64 (tfeignD aBase_0 aBase_1 aKey_0 aKey_1 aChal aResp).2.2.2] 39) := Lib.hid (by have := ((((HX_g04.out).set 0 (.int .i64 (tfeignD aBase_0 aBase_1 aKey_0 aKey_1 aChal aResp).1)).set 1 (.int .i64 (tfeignD aBase_0 aBase_1 aKey_0 aKey_1 aChal aResp).2.1)).set 2 (.int .i64 (tfeignD aBase_0 aBase_1 aKey_0 aKey_1 aChal aResp).2.2.1)).set 3 (.int .i64 (tfeignD aBase_0 aBase_1 aKey_0 aKey_1 aChal aResp).2.2.2); rw [hw5.out] at this; exact this)
                have HX_aBase5 : Hid (Bx u5 w.heap.size #[.int .i64 aBase_0, .int .i64 aBase_1] 37) := Lib.hid (HX_aBase4.out.kept hk5 (by have := HX_aBase4.out.lt; have := HX_aKey4.out.lt; have := HX_w04.out.lt; have := HX_g04.out.lt; omega))
                have HX_aKey5 : Hid (Bx u5 (w.heap.size + 1) #[.int .i64 aKey_0, .int .i64 aKey_1] 37) := Lib.hid (HX_aKey4.out.kept hk5 (by have := HX_aBase4.out.lt; have := HX_aKey4.out.lt; have := HX_w04.out.lt; have := HX_g04.out.lt; omega))
                have HX_w05 : Hid (Bx u5 B0 #[.int .i64 (tfeignD aBase_0 aBase_1 aKey_0 aKey_1 aChal aResp).1, .int .i64 (tfeignD aBase_0 aBase_1 aKey_0 aKey_1 aChal aResp).2.1, .int .i64 (tfeignD aBase_0 aBase_1 aKey_0 aKey_1 aChal aResp).2.2.1, .int .i64 (tfeignD aBase_0 aBase_1 aKey_0 aKey_1 aChal aResp).2.2.2] 39) := Lib.hid (HX_w04.out.kept hk5 (by have := HX_aBase4.out.lt; have := HX_aKey4.out.lt; have := HX_w04.out.lt; have := HX_g04.out.lt; omega))
                clear hHeld hw5 hk5 hlo5 xc0 xf0 xc1 xf1 xc2 xf2 xc3 xf3 HBl4 HX_aBase4 HX_aKey4 HX_w04 HX_g04
                refine hK.out _ _ ⟨HX_aBase5.out.cell 0, HX_aBase5.out.cell 1, HX_aKey5.out.cell 0, HX_aKey5.out.cell 1, HX_w05.out.cell 0, HX_w05.out.cell 1, HX_w05.out.cell 2, HX_w05.out.cell 3⟩ (fun hHeld => ?_)
                clear hK K
                try simp only [Act.put]
                refine wpAnyH_take (i := 12) (oi := { dst := some 12, op := Op.assign (Operand.tmp 32), type := 4, pos := "exact.go:2791", after := #[{ on := 9, ground := Ground.data }, { on := 11, ground := Ground.chain }, { on := 0, ground := Ground.phase }, { on := 1, ground := Ground.phase }, { on := 2, ground := Ground.phase }, { on := 3, ground := Ground.phase }, { on := 4, ground := Ground.phase }, { on := 5, ground := Ground.phase }, { on := 6, ground := Ground.phase }, { on := 7, ground := Ground.phase }, { on := 8, ground := Ground.phase }, { on := 9, ground := Ground.phase }, { on := 10, ground := Ground.phase }, { on := 11, ground := Ground.phase }], guard := none }) (v := ?_) rfl (by kernel_rfl) (by kernel_rfl) (by kernel_rfl) (fun _ _ _ h => h) (Or.inl ⟨by rfl, ?_⟩) hHeld ?_
                rotate_left
                · intro w hSw; obtain ⟨s0, s1, s2, s3, s4, s5, s6, s7⟩ := hSw; (try dsimp only at hSw); go_simp; (try with_reducible rfl)
                try simp only [Act.put, List.setIfInBounds_toArray, List.set_cons_zero, List.set_cons_succ]
                refine wpAnyH_done (by kernel_rfl) ?_ _
                go_wp2
                go_meet
                case rel => exact ⟨u2.heap.size, rfl, rfl, HX_g05, HX_aBase5, HX_aKey5, HX_w05, by omega, HBl5⟩
              exact AllReadyH.nil
            exact AllReadyH.nil
          exact AllReadyH.nil
        refine AllReadyH.cons (o := { dst := some 11, op := Op.alloc 39, type := 0, pos := "exact.go:2791", after := #[], guard := none }) rfl (fun K hK => ?_) ?_
        · go_simp
          obtain ⟨u2, hw2⟩ : ∃ W, Hid (u1.alloc (.cells #[.int .i64 0, .int .i64 0, .int .i64 0, .int .i64 0] 39) = W) := ⟨_, Lib.hid rfl⟩
          rw [hw2.out]
          have zs2 : u1.heap.size < u2.heap.size := by rw [← hw2.out, World.size_alloc]; omega
          have HBl2 : Hid (Below w.heap.size w u2) := Lib.hid (by rw [← hw2.out]; exact HBl1.out.alloc HBl1.out.size _)
          have HX_aBase2 : Hid (Bx u2 w.heap.size #[.int .i64 aBase_0, .int .i64 aBase_1] 37) := Lib.hid (by rw [← hw2.out]; exact HX_aBase1.out.alloc _)
          have HX_aKey2 : Hid (Bx u2 (w.heap.size + 1) #[.int .i64 aKey_0, .int .i64 aKey_1] 37) := Lib.hid (by rw [← hw2.out]; exact HX_aKey1.out.alloc _)
          have HX_w02 : Hid (Bx u2 B0 #[.int .i64 (tfeignD aBase_0 aBase_1 aKey_0 aKey_1 aChal aResp).1, .int .i64 (tfeignD aBase_0 aBase_1 aKey_0 aKey_1 aChal aResp).2.1, .int .i64 (tfeignD aBase_0 aBase_1 aKey_0 aKey_1 aChal aResp).2.2.1, .int .i64 (tfeignD aBase_0 aBase_1 aKey_0 aKey_1 aChal aResp).2.2.2] 39) := Lib.hid (by rw [← hw2.out]; exact HX_w01.out.alloc _)
          have HX_g02 : Hid (Bx u2 u1.heap.size #[.int .i64 0, .int .i64 0, .int .i64 0, .int .i64 0] 39) := Lib.hid (by rw [← hw2.out]; exact Bx.new _ _ _)
          have hab2 : Below u1.heap.size u1 u2 := by rw [← hw2.out]; exact (Below.refl _ _).alloc (Nat.le_refl _) _
          clear hHeld hw2 hab2 HBl1 HX_aBase1 HX_aKey1 HX_w01
          refine hK.out _ _ ⟨HX_aBase2.out.cell 0, HX_aBase2.out.cell 1, HX_aKey2.out.cell 0, HX_aKey2.out.cell 1, HX_w02.out.cell 0, HX_w02.out.cell 1, HX_w02.out.cell 2, HX_w02.out.cell 3⟩ (fun hHeld => ?_)
          clear hK K
          try simp only [Act.put, List.setIfInBounds_toArray, List.set_cons_zero, List.set_cons_succ]
          refine wpAnyH_ready (rs := [3]) (by kernel_rfl) (by simp) ?_
          refine AllReadyH.cons (o := { dst := some 27, op := Op.call { callee := Callee.value (Operand.func 27), args := #[Operand.tmp 26], argTypes := #[37] }, type := 42, pos := "exact.go:2791", after := #[{ on := 2, ground := Ground.data }, { on := 1, ground := Ground.chain }], guard := none }) rfl (fun K hK => ?_) ?_
          · go_simp
            refine (l_toPair aKey_0 aKey_1 u2).mono ?_
            rintro e u3 ⟨rfl, hb_⟩
            have zs3 : u2.heap.size ≤ u3.heap.size := hb_.size
            have HBl3 : Hid (Below w.heap.size w u3) := Lib.hid (HBl2.out.trans (hb_.mono HBl2.out.size))
            have HX_aBase3 : Hid (Bx u3 w.heap.size #[.int .i64 aBase_0, .int .i64 aBase_1] 37) := Lib.hid (HX_aBase2.out.below hb_ HX_aBase2.out.lt)
            have HX_aKey3 : Hid (Bx u3 (w.heap.size + 1) #[.int .i64 aKey_0, .int .i64 aKey_1] 37) := Lib.hid (HX_aKey2.out.below hb_ HX_aKey2.out.lt)
            have HX_w03 : Hid (Bx u3 B0 #[.int .i64 (tfeignD aBase_0 aBase_1 aKey_0 aKey_1 aChal aResp).1, .int .i64 (tfeignD aBase_0 aBase_1 aKey_0 aKey_1 aChal aResp).2.1, .int .i64 (tfeignD aBase_0 aBase_1 aKey_0 aKey_1 aChal aResp).2.2.1, .int .i64 (tfeignD aBase_0 aBase_1 aKey_0 aKey_1 aChal aResp).2.2.2] 39) := Lib.hid (HX_w02.out.below hb_ HX_w02.out.lt)
            have HX_g03 : Hid (Bx u3 u1.heap.size #[.int .i64 0, .int .i64 0, .int .i64 0, .int .i64 0] 39) := Lib.hid (HX_g02.out.below hb_ HX_g02.out.lt)
            clear hHeld hb_ HBl2 HX_aBase2 HX_aKey2 HX_w02 HX_g02
            (try dsimp only)
            (try go_wp2_with fail)
            refine hK.out _ _ ⟨HX_aBase3.out.cell 0, HX_aBase3.out.cell 1, HX_aKey3.out.cell 0, HX_aKey3.out.cell 1, HX_w03.out.cell 0, HX_w03.out.cell 1, HX_w03.out.cell 2, HX_w03.out.cell 3⟩ (fun hHeld => ?_)
            clear hK K
            try simp only [Act.put, List.setIfInBounds_toArray, List.set_cons_zero, List.set_cons_succ]
            refine wpAnyH_ready (rs := [6]) (by kernel_rfl) (by simp) ?_
            refine AllReadyH.cons (o := { dst := some 30, op := Op.call { callee := Callee.value (Operand.func 34), args := #[Operand.tmp 25, Operand.tmp 27, Operand.tmp 28, Operand.tmp 29], argTypes := #[42, 42, 3, 3] }, type := 40, pos := "exact.go:2791", after := #[{ on := 1, ground := Ground.data }, { on := 3, ground := Ground.data }, { on := 4, ground := Ground.data }, { on := 5, ground := Ground.data }, { on := 3, ground := Ground.chain }], guard := none }) rfl (fun K hK => ?_) ?_
            · go_simp
              refine (X_i_TwinFeign aBase_0 aBase_1 aKey_0 aKey_1 aChal aResp u3).mono ?_
              rintro e u4 ⟨rfl, hb_⟩
              have zs4 : u3.heap.size ≤ u4.heap.size := hb_.size
              have HBl4 : Hid (Below w.heap.size w u4) := Lib.hid (HBl3.out.trans (hb_.mono HBl3.out.size))
              have HX_aBase4 : Hid (Bx u4 w.heap.size #[.int .i64 aBase_0, .int .i64 aBase_1] 37) := Lib.hid (HX_aBase3.out.below hb_ HX_aBase3.out.lt)
              have HX_aKey4 : Hid (Bx u4 (w.heap.size + 1) #[.int .i64 aKey_0, .int .i64 aKey_1] 37) := Lib.hid (HX_aKey3.out.below hb_ HX_aKey3.out.lt)
              have HX_w04 : Hid (Bx u4 B0 #[.int .i64 (tfeignD aBase_0 aBase_1 aKey_0 aKey_1 aChal aResp).1, .int .i64 (tfeignD aBase_0 aBase_1 aKey_0 aKey_1 aChal aResp).2.1, .int .i64 (tfeignD aBase_0 aBase_1 aKey_0 aKey_1 aChal aResp).2.2.1, .int .i64 (tfeignD aBase_0 aBase_1 aKey_0 aKey_1 aChal aResp).2.2.2] 39) := Lib.hid (HX_w03.out.below hb_ HX_w03.out.lt)
              have HX_g04 : Hid (Bx u4 u1.heap.size #[.int .i64 0, .int .i64 0, .int .i64 0, .int .i64 0] 39) := Lib.hid (HX_g03.out.below hb_ HX_g03.out.lt)
              clear hHeld hb_ HBl3 HX_aBase3 HX_aKey3 HX_w03 HX_g03
              (try dsimp only)
              (try go_wp2_with fail)
              refine hK.out _ _ ⟨HX_aBase4.out.cell 0, HX_aBase4.out.cell 1, HX_aKey4.out.cell 0, HX_aKey4.out.cell 1, HX_w04.out.cell 0, HX_w04.out.cell 1, HX_w04.out.cell 2, HX_w04.out.cell 3⟩ (fun hHeld => ?_)
              clear hK K
              try simp only [Act.put, List.setIfInBounds_toArray, List.set_cons_zero, List.set_cons_succ]
              refine wpAnyH_take (i := 7) (oi := { dst := some 23, op := Op.move (Operand.tmp 30), type := 40, pos := "exact.go:2791", after := #[{ on := 6, ground := Ground.data }], guard := none }) (v := ?_) rfl (by kernel_rfl) (by kernel_rfl) (by kernel_rfl) (fun _ _ _ h => h) (Or.inl ⟨by rfl, ?_⟩) hHeld ?_
              rotate_left
              · intro w hSw; obtain ⟨s0, s1, s2, s3, s4, s5, s6, s7⟩ := hSw; (try dsimp only at hSw); go_simp; (try with_reducible rfl)
              try simp only [Act.put, List.setIfInBounds_toArray, List.set_cons_zero, List.set_cons_succ]
              refine wpAnyH_take (i := 8) (oi := { dst := some 31, op := Op.extract (Operand.tmp 23) 0, type := 39, pos := "exact.go:2791", after := #[{ on := 7, ground := Ground.data }], guard := none }) (v := ?_) rfl (by kernel_rfl) (by kernel_rfl) (by kernel_rfl) (fun _ _ _ h => h) (Or.inl ⟨by rfl, ?_⟩) hHeld ?_
              rotate_left
              · intro w hSw; obtain ⟨s0, s1, s2, s3, s4, s5, s6, s7⟩ := hSw; (try dsimp only at hSw); go_simp; (try with_reducible rfl)
              try simp only [Act.put, List.setIfInBounds_toArray, List.set_cons_zero, List.set_cons_succ]
              refine wpAnyH_take (i := 9) (oi := { dst := some 32, op := Op.extract (Operand.tmp 23) 1, type := 4, pos := "exact.go:2791", after := #[{ on := 7, ground := Ground.data }, { on := 11, ground := Ground.gcOnly Departure.lateStores }], guard := none }) (v := ?_) rfl (by kernel_rfl) (by kernel_rfl) (by kernel_rfl) (fun _ _ _ h => h) (Or.inl ⟨by rfl, ?_⟩) hHeld ?_
              rotate_left
              · intro w hSw; obtain ⟨s0, s1, s2, s3, s4, s5, s6, s7⟩ := hSw; (try dsimp only at hSw); go_simp; (try with_reducible rfl)
              try simp only [Act.put, List.setIfInBounds_toArray, List.set_cons_zero, List.set_cons_succ]
              refine wpAnyH_ready (rs := [11]) (by kernel_rfl) (by simp) ?_
              refine AllReadyH.cons (o := { dst := none, op := Op.store 39 (Operand.tmp 11) (Operand.tmp 31), type := 0, pos := "exact.go:2791", after := #[{ on := 10, ground := Ground.data }, { on := 8, ground := Ground.data }, { on := 6, ground := Ground.chain }, { on := 0, ground := Ground.phase }, { on := 1, ground := Ground.phase }, { on := 2, ground := Ground.phase }, { on := 3, ground := Ground.phase }, { on := 4, ground := Ground.phase }, { on := 5, ground := Ground.phase }, { on := 6, ground := Ground.phase }, { on := 7, ground := Ground.phase }, { on := 8, ground := Ground.phase }, { on := 9, ground := Ground.textOnly Departure.lateStores }, { on := 10, ground := Ground.phase }], guard := none }) rfl (fun K hK => ?_) ?_
              · have xc0 : u4.cell? ⟨u1.heap.size, 0, none⟩ = some (.int .i64 0) := HX_g04.out.cell 0
                have xf0 : u4.frozen? ⟨u1.heap.size, 0, none⟩ = false := HX_g04.out.free 0
                have xc1 : u4.cell? ⟨u1.heap.size, 1, none⟩ = some (.int .i64 0) := HX_g04.out.cell 1
                have xf1 : u4.frozen? ⟨u1.heap.size, 1, none⟩ = false := HX_g04.out.free 1
                have xc2 : u4.cell? ⟨u1.heap.size, 2, none⟩ = some (.int .i64 0) := HX_g04.out.cell 2
                have xf2 : u4.frozen? ⟨u1.heap.size, 2, none⟩ = false := HX_g04.out.free 2
                have xc3 : u4.cell? ⟨u1.heap.size, 3, none⟩ = some (.int .i64 0) := HX_g04.out.cell 3
                have xf3 : u4.frozen? ⟨u1.heap.size, 3, none⟩ = false := HX_g04.out.free 3
                go_simp
                obtain ⟨u5, hw5⟩ : ∃ W, Hid (((((u4.setCell ⟨u1.heap.size, 0, none⟩ (.int .i64 (tfeignD aBase_0 aBase_1 aKey_0 aKey_1 aChal aResp).1)).setCell ⟨u1.heap.size, 1, none⟩ (.int .i64 (tfeignD aBase_0 aBase_1 aKey_0 aKey_1 aChal aResp).2.1)).setCell ⟨u1.heap.size, 2, none⟩ (.int .i64 (tfeignD aBase_0 aBase_1 aKey_0 aKey_1 aChal aResp).2.2.1)).setCell ⟨u1.heap.size, 3, none⟩ (.int .i64 (tfeignD aBase_0 aBase_1 aKey_0 aKey_1 aChal aResp).2.2.2)) = W) := ⟨_, Lib.hid rfl⟩
                rw [hw5.out]
                have hk5 : Kept (u1.heap.size) (u1.heap.size + 1) u4 u5 := by rw [← hw5.out]; exact ((((Kept.refl _ _ _).setCell (p := ⟨u1.heap.size, 0, none⟩) (Nat.le_refl _) (Nat.lt_succ_self _) _).setCell (p := ⟨u1.heap.size, 1, none⟩) (Nat.le_refl _) (Nat.lt_succ_self _) _).setCell (p := ⟨u1.heap.size, 2, none⟩) (Nat.le_refl _) (Nat.lt_succ_self _) _).setCell (p := ⟨u1.heap.size, 3, none⟩) (Nat.le_refl _) (Nat.lt_succ_self _) _
                have zs5 : u4.heap.size ≤ u5.heap.size := hk5.size
                have hlo5 := HBl4.out.size
                have HBl5 : Hid (Below w.heap.size w u5) := Lib.hid (HBl4.out.trans ((hk5.to_below (by have := HX_g04.out.lt; omega)).mono (by omega)))
                have HX_g05 : Hid (Bx u5 u1.heap.size #[.int .i64 (tfeignD aBase_0 aBase_1 aKey_0 aKey_1 aChal aResp).1, .int .i64 (tfeignD aBase_0 aBase_1 aKey_0 aKey_1 aChal aResp).2.1, .int .i64 (tfeignD aBase_0 aBase_1 aKey_0 aKey_1 aChal aResp).2.2.1, .int .i64 (tfeignD aBase_0 aBase_1 aKey_0 aKey_1 aChal aResp).2.2.2] 39) := Lib.hid (by have := ((((HX_g04.out).set 0 (.int .i64 (tfeignD aBase_0 aBase_1 aKey_0 aKey_1 aChal aResp).1)).set 1 (.int .i64 (tfeignD aBase_0 aBase_1 aKey_0 aKey_1 aChal aResp).2.1)).set 2 (.int .i64 (tfeignD aBase_0 aBase_1 aKey_0 aKey_1 aChal aResp).2.2.1)).set 3 (.int .i64 (tfeignD aBase_0 aBase_1 aKey_0 aKey_1 aChal aResp).2.2.2); rw [hw5.out] at this; exact this)
                have HX_aBase5 : Hid (Bx u5 w.heap.size #[.int .i64 aBase_0, .int .i64 aBase_1] 37) := Lib.hid (HX_aBase4.out.kept hk5 (by have := HX_aBase4.out.lt; have := HX_aKey4.out.lt; have := HX_w04.out.lt; have := HX_g04.out.lt; omega))
                have HX_aKey5 : Hid (Bx u5 (w.heap.size + 1) #[.int .i64 aKey_0, .int .i64 aKey_1] 37) := Lib.hid (HX_aKey4.out.kept hk5 (by have := HX_aBase4.out.lt; have := HX_aKey4.out.lt; have := HX_w04.out.lt; have := HX_g04.out.lt; omega))
                have HX_w05 : Hid (Bx u5 B0 #[.int .i64 (tfeignD aBase_0 aBase_1 aKey_0 aKey_1 aChal aResp).1, .int .i64 (tfeignD aBase_0 aBase_1 aKey_0 aKey_1 aChal aResp).2.1, .int .i64 (tfeignD aBase_0 aBase_1 aKey_0 aKey_1 aChal aResp).2.2.1, .int .i64 (tfeignD aBase_0 aBase_1 aKey_0 aKey_1 aChal aResp).2.2.2] 39) := Lib.hid (HX_w04.out.kept hk5 (by have := HX_aBase4.out.lt; have := HX_aKey4.out.lt; have := HX_w04.out.lt; have := HX_g04.out.lt; omega))
                clear hHeld hw5 hk5 hlo5 xc0 xf0 xc1 xf1 xc2 xf2 xc3 xf3 HBl4 HX_aBase4 HX_aKey4 HX_w04 HX_g04
                refine hK.out _ _ ⟨HX_aBase5.out.cell 0, HX_aBase5.out.cell 1, HX_aKey5.out.cell 0, HX_aKey5.out.cell 1, HX_w05.out.cell 0, HX_w05.out.cell 1, HX_w05.out.cell 2, HX_w05.out.cell 3⟩ (fun hHeld => ?_)
                clear hK K
                try simp only [Act.put]
                refine wpAnyH_take (i := 12) (oi := { dst := some 12, op := Op.assign (Operand.tmp 32), type := 4, pos := "exact.go:2791", after := #[{ on := 9, ground := Ground.data }, { on := 11, ground := Ground.chain }, { on := 0, ground := Ground.phase }, { on := 1, ground := Ground.phase }, { on := 2, ground := Ground.phase }, { on := 3, ground := Ground.phase }, { on := 4, ground := Ground.phase }, { on := 5, ground := Ground.phase }, { on := 6, ground := Ground.phase }, { on := 7, ground := Ground.phase }, { on := 8, ground := Ground.phase }, { on := 9, ground := Ground.phase }, { on := 10, ground := Ground.phase }, { on := 11, ground := Ground.phase }], guard := none }) (v := ?_) rfl (by kernel_rfl) (by kernel_rfl) (by kernel_rfl) (fun _ _ _ h => h) (Or.inl ⟨by rfl, ?_⟩) hHeld ?_
                rotate_left
                · intro w hSw; obtain ⟨s0, s1, s2, s3, s4, s5, s6, s7⟩ := hSw; (try dsimp only at hSw); go_simp; (try with_reducible rfl)
                try simp only [Act.put, List.setIfInBounds_toArray, List.set_cons_zero, List.set_cons_succ]
                refine wpAnyH_done (by kernel_rfl) ?_ _
                go_wp2
                go_meet
                case rel => exact ⟨u1.heap.size, rfl, rfl, HX_g05, HX_aBase5, HX_aKey5, HX_w05, by omega, HBl5⟩
              exact AllReadyH.nil
            exact AllReadyH.nil
          exact AllReadyH.nil
        exact AllReadyH.nil
      refine AllReadyH.cons (o := { dst := some 11, op := Op.alloc 39, type := 0, pos := "exact.go:2791", after := #[], guard := none }) rfl (fun K hK => ?_) ?_
      · go_simp
        obtain ⟨u1, hw1⟩ : ∃ W, Hid (u0.alloc (.cells #[.int .i64 0, .int .i64 0, .int .i64 0, .int .i64 0] 39) = W) := ⟨_, Lib.hid rfl⟩
        rw [hw1.out]
        have zs1 : u0.heap.size < u1.heap.size := by rw [← hw1.out, World.size_alloc]; omega
        have HBl1 : Hid (Below w.heap.size w u1) := Lib.hid (by rw [← hw1.out]; exact HBl0.out.alloc HBl0.out.size _)
        have HX_aBase1 : Hid (Bx u1 w.heap.size #[.int .i64 aBase_0, .int .i64 aBase_1] 37) := Lib.hid (by rw [← hw1.out]; exact HX_aBase0.out.alloc _)
        have HX_aKey1 : Hid (Bx u1 (w.heap.size + 1) #[.int .i64 aKey_0, .int .i64 aKey_1] 37) := Lib.hid (by rw [← hw1.out]; exact HX_aKey0.out.alloc _)
        have HX_w01 : Hid (Bx u1 B0 #[.int .i64 (tfeignD aBase_0 aBase_1 aKey_0 aKey_1 aChal aResp).1, .int .i64 (tfeignD aBase_0 aBase_1 aKey_0 aKey_1 aChal aResp).2.1, .int .i64 (tfeignD aBase_0 aBase_1 aKey_0 aKey_1 aChal aResp).2.2.1, .int .i64 (tfeignD aBase_0 aBase_1 aKey_0 aKey_1 aChal aResp).2.2.2] 39) := Lib.hid (by rw [← hw1.out]; exact HX_w00.out.alloc _)
        have HX_g01 : Hid (Bx u1 u0.heap.size #[.int .i64 0, .int .i64 0, .int .i64 0, .int .i64 0] 39) := Lib.hid (by rw [← hw1.out]; exact Bx.new _ _ _)
        have hab1 : Below u0.heap.size u0 u1 := by rw [← hw1.out]; exact (Below.refl _ _).alloc (Nat.le_refl _) _
        clear hHeld hw1 hab1 HBl0 HX_aBase0 HX_aKey0 HX_w00
        refine hK.out _ _ ⟨HX_aBase1.out.cell 0, HX_aBase1.out.cell 1, HX_aKey1.out.cell 0, HX_aKey1.out.cell 1, HX_w01.out.cell 0, HX_w01.out.cell 1, HX_w01.out.cell 2, HX_w01.out.cell 3⟩ (fun hHeld => ?_)
        clear hK K
        try simp only [Act.put, List.setIfInBounds_toArray, List.set_cons_zero, List.set_cons_succ]
        refine wpAnyH_ready (rs := [1]) (by kernel_rfl) (by simp) ?_
        refine AllReadyH.cons (o := { dst := some 25, op := Op.call { callee := Callee.value (Operand.func 27), args := #[Operand.tmp 24], argTypes := #[37] }, type := 42, pos := "exact.go:2791", after := #[{ on := 0, ground := Ground.data }], guard := none }) rfl (fun K hK => ?_) ?_
        · go_simp
          refine (l_toPair aBase_0 aBase_1 u1).mono ?_
          rintro e u2 ⟨rfl, hb_⟩
          have zs2 : u1.heap.size ≤ u2.heap.size := hb_.size
          have HBl2 : Hid (Below w.heap.size w u2) := Lib.hid (HBl1.out.trans (hb_.mono HBl1.out.size))
          have HX_aBase2 : Hid (Bx u2 w.heap.size #[.int .i64 aBase_0, .int .i64 aBase_1] 37) := Lib.hid (HX_aBase1.out.below hb_ HX_aBase1.out.lt)
          have HX_aKey2 : Hid (Bx u2 (w.heap.size + 1) #[.int .i64 aKey_0, .int .i64 aKey_1] 37) := Lib.hid (HX_aKey1.out.below hb_ HX_aKey1.out.lt)
          have HX_w02 : Hid (Bx u2 B0 #[.int .i64 (tfeignD aBase_0 aBase_1 aKey_0 aKey_1 aChal aResp).1, .int .i64 (tfeignD aBase_0 aBase_1 aKey_0 aKey_1 aChal aResp).2.1, .int .i64 (tfeignD aBase_0 aBase_1 aKey_0 aKey_1 aChal aResp).2.2.1, .int .i64 (tfeignD aBase_0 aBase_1 aKey_0 aKey_1 aChal aResp).2.2.2] 39) := Lib.hid (HX_w01.out.below hb_ HX_w01.out.lt)
          have HX_g02 : Hid (Bx u2 u0.heap.size #[.int .i64 0, .int .i64 0, .int .i64 0, .int .i64 0] 39) := Lib.hid (HX_g01.out.below hb_ HX_g01.out.lt)
          clear hHeld hb_ HBl1 HX_aBase1 HX_aKey1 HX_w01 HX_g01
          (try dsimp only)
          (try go_wp2_with fail)
          refine hK.out _ _ ⟨HX_aBase2.out.cell 0, HX_aBase2.out.cell 1, HX_aKey2.out.cell 0, HX_aKey2.out.cell 1, HX_w02.out.cell 0, HX_w02.out.cell 1, HX_w02.out.cell 2, HX_w02.out.cell 3⟩ (fun hHeld => ?_)
          clear hK K
          try simp only [Act.put, List.setIfInBounds_toArray, List.set_cons_zero, List.set_cons_succ]
          refine wpAnyH_ready (rs := [3]) (by kernel_rfl) (by simp) ?_
          refine AllReadyH.cons (o := { dst := some 27, op := Op.call { callee := Callee.value (Operand.func 27), args := #[Operand.tmp 26], argTypes := #[37] }, type := 42, pos := "exact.go:2791", after := #[{ on := 2, ground := Ground.data }, { on := 1, ground := Ground.chain }], guard := none }) rfl (fun K hK => ?_) ?_
          · go_simp
            refine (l_toPair aKey_0 aKey_1 u2).mono ?_
            rintro e u3 ⟨rfl, hb_⟩
            have zs3 : u2.heap.size ≤ u3.heap.size := hb_.size
            have HBl3 : Hid (Below w.heap.size w u3) := Lib.hid (HBl2.out.trans (hb_.mono HBl2.out.size))
            have HX_aBase3 : Hid (Bx u3 w.heap.size #[.int .i64 aBase_0, .int .i64 aBase_1] 37) := Lib.hid (HX_aBase2.out.below hb_ HX_aBase2.out.lt)
            have HX_aKey3 : Hid (Bx u3 (w.heap.size + 1) #[.int .i64 aKey_0, .int .i64 aKey_1] 37) := Lib.hid (HX_aKey2.out.below hb_ HX_aKey2.out.lt)
            have HX_w03 : Hid (Bx u3 B0 #[.int .i64 (tfeignD aBase_0 aBase_1 aKey_0 aKey_1 aChal aResp).1, .int .i64 (tfeignD aBase_0 aBase_1 aKey_0 aKey_1 aChal aResp).2.1, .int .i64 (tfeignD aBase_0 aBase_1 aKey_0 aKey_1 aChal aResp).2.2.1, .int .i64 (tfeignD aBase_0 aBase_1 aKey_0 aKey_1 aChal aResp).2.2.2] 39) := Lib.hid (HX_w02.out.below hb_ HX_w02.out.lt)
            have HX_g03 : Hid (Bx u3 u0.heap.size #[.int .i64 0, .int .i64 0, .int .i64 0, .int .i64 0] 39) := Lib.hid (HX_g02.out.below hb_ HX_g02.out.lt)
            clear hHeld hb_ HBl2 HX_aBase2 HX_aKey2 HX_w02 HX_g02
            (try dsimp only)
            (try go_wp2_with fail)
            refine hK.out _ _ ⟨HX_aBase3.out.cell 0, HX_aBase3.out.cell 1, HX_aKey3.out.cell 0, HX_aKey3.out.cell 1, HX_w03.out.cell 0, HX_w03.out.cell 1, HX_w03.out.cell 2, HX_w03.out.cell 3⟩ (fun hHeld => ?_)
            clear hK K
            try simp only [Act.put, List.setIfInBounds_toArray, List.set_cons_zero, List.set_cons_succ]
            refine wpAnyH_ready (rs := [6]) (by kernel_rfl) (by simp) ?_
            refine AllReadyH.cons (o := { dst := some 30, op := Op.call { callee := Callee.value (Operand.func 34), args := #[Operand.tmp 25, Operand.tmp 27, Operand.tmp 28, Operand.tmp 29], argTypes := #[42, 42, 3, 3] }, type := 40, pos := "exact.go:2791", after := #[{ on := 1, ground := Ground.data }, { on := 3, ground := Ground.data }, { on := 4, ground := Ground.data }, { on := 5, ground := Ground.data }, { on := 3, ground := Ground.chain }], guard := none }) rfl (fun K hK => ?_) ?_
            · go_simp
              refine (X_i_TwinFeign aBase_0 aBase_1 aKey_0 aKey_1 aChal aResp u3).mono ?_
              rintro e u4 ⟨rfl, hb_⟩
              have zs4 : u3.heap.size ≤ u4.heap.size := hb_.size
              have HBl4 : Hid (Below w.heap.size w u4) := Lib.hid (HBl3.out.trans (hb_.mono HBl3.out.size))
              have HX_aBase4 : Hid (Bx u4 w.heap.size #[.int .i64 aBase_0, .int .i64 aBase_1] 37) := Lib.hid (HX_aBase3.out.below hb_ HX_aBase3.out.lt)
              have HX_aKey4 : Hid (Bx u4 (w.heap.size + 1) #[.int .i64 aKey_0, .int .i64 aKey_1] 37) := Lib.hid (HX_aKey3.out.below hb_ HX_aKey3.out.lt)
              have HX_w04 : Hid (Bx u4 B0 #[.int .i64 (tfeignD aBase_0 aBase_1 aKey_0 aKey_1 aChal aResp).1, .int .i64 (tfeignD aBase_0 aBase_1 aKey_0 aKey_1 aChal aResp).2.1, .int .i64 (tfeignD aBase_0 aBase_1 aKey_0 aKey_1 aChal aResp).2.2.1, .int .i64 (tfeignD aBase_0 aBase_1 aKey_0 aKey_1 aChal aResp).2.2.2] 39) := Lib.hid (HX_w03.out.below hb_ HX_w03.out.lt)
              have HX_g04 : Hid (Bx u4 u0.heap.size #[.int .i64 0, .int .i64 0, .int .i64 0, .int .i64 0] 39) := Lib.hid (HX_g03.out.below hb_ HX_g03.out.lt)
              clear hHeld hb_ HBl3 HX_aBase3 HX_aKey3 HX_w03 HX_g03
              (try dsimp only)
              (try go_wp2_with fail)
              refine hK.out _ _ ⟨HX_aBase4.out.cell 0, HX_aBase4.out.cell 1, HX_aKey4.out.cell 0, HX_aKey4.out.cell 1, HX_w04.out.cell 0, HX_w04.out.cell 1, HX_w04.out.cell 2, HX_w04.out.cell 3⟩ (fun hHeld => ?_)
              clear hK K
              try simp only [Act.put, List.setIfInBounds_toArray, List.set_cons_zero, List.set_cons_succ]
              refine wpAnyH_take (i := 7) (oi := { dst := some 23, op := Op.move (Operand.tmp 30), type := 40, pos := "exact.go:2791", after := #[{ on := 6, ground := Ground.data }], guard := none }) (v := ?_) rfl (by kernel_rfl) (by kernel_rfl) (by kernel_rfl) (fun _ _ _ h => h) (Or.inl ⟨by rfl, ?_⟩) hHeld ?_
              rotate_left
              · intro w hSw; obtain ⟨s0, s1, s2, s3, s4, s5, s6, s7⟩ := hSw; (try dsimp only at hSw); go_simp; (try with_reducible rfl)
              try simp only [Act.put, List.setIfInBounds_toArray, List.set_cons_zero, List.set_cons_succ]
              refine wpAnyH_take (i := 8) (oi := { dst := some 31, op := Op.extract (Operand.tmp 23) 0, type := 39, pos := "exact.go:2791", after := #[{ on := 7, ground := Ground.data }], guard := none }) (v := ?_) rfl (by kernel_rfl) (by kernel_rfl) (by kernel_rfl) (fun _ _ _ h => h) (Or.inl ⟨by rfl, ?_⟩) hHeld ?_
              rotate_left
              · intro w hSw; obtain ⟨s0, s1, s2, s3, s4, s5, s6, s7⟩ := hSw; (try dsimp only at hSw); go_simp; (try with_reducible rfl)
              try simp only [Act.put, List.setIfInBounds_toArray, List.set_cons_zero, List.set_cons_succ]
              refine wpAnyH_take (i := 9) (oi := { dst := some 32, op := Op.extract (Operand.tmp 23) 1, type := 4, pos := "exact.go:2791", after := #[{ on := 7, ground := Ground.data }, { on := 11, ground := Ground.gcOnly Departure.lateStores }], guard := none }) (v := ?_) rfl (by kernel_rfl) (by kernel_rfl) (by kernel_rfl) (fun _ _ _ h => h) (Or.inl ⟨by rfl, ?_⟩) hHeld ?_
              rotate_left
              · intro w hSw; obtain ⟨s0, s1, s2, s3, s4, s5, s6, s7⟩ := hSw; (try dsimp only at hSw); go_simp; (try with_reducible rfl)
              try simp only [Act.put, List.setIfInBounds_toArray, List.set_cons_zero, List.set_cons_succ]
              refine wpAnyH_ready (rs := [11]) (by kernel_rfl) (by simp) ?_
              refine AllReadyH.cons (o := { dst := none, op := Op.store 39 (Operand.tmp 11) (Operand.tmp 31), type := 0, pos := "exact.go:2791", after := #[{ on := 10, ground := Ground.data }, { on := 8, ground := Ground.data }, { on := 6, ground := Ground.chain }, { on := 0, ground := Ground.phase }, { on := 1, ground := Ground.phase }, { on := 2, ground := Ground.phase }, { on := 3, ground := Ground.phase }, { on := 4, ground := Ground.phase }, { on := 5, ground := Ground.phase }, { on := 6, ground := Ground.phase }, { on := 7, ground := Ground.phase }, { on := 8, ground := Ground.phase }, { on := 9, ground := Ground.textOnly Departure.lateStores }, { on := 10, ground := Ground.phase }], guard := none }) rfl (fun K hK => ?_) ?_
              · have xc0 : u4.cell? ⟨u0.heap.size, 0, none⟩ = some (.int .i64 0) := HX_g04.out.cell 0
                have xf0 : u4.frozen? ⟨u0.heap.size, 0, none⟩ = false := HX_g04.out.free 0
                have xc1 : u4.cell? ⟨u0.heap.size, 1, none⟩ = some (.int .i64 0) := HX_g04.out.cell 1
                have xf1 : u4.frozen? ⟨u0.heap.size, 1, none⟩ = false := HX_g04.out.free 1
                have xc2 : u4.cell? ⟨u0.heap.size, 2, none⟩ = some (.int .i64 0) := HX_g04.out.cell 2
                have xf2 : u4.frozen? ⟨u0.heap.size, 2, none⟩ = false := HX_g04.out.free 2
                have xc3 : u4.cell? ⟨u0.heap.size, 3, none⟩ = some (.int .i64 0) := HX_g04.out.cell 3
                have xf3 : u4.frozen? ⟨u0.heap.size, 3, none⟩ = false := HX_g04.out.free 3
                go_simp
                obtain ⟨u5, hw5⟩ : ∃ W, Hid (((((u4.setCell ⟨u0.heap.size, 0, none⟩ (.int .i64 (tfeignD aBase_0 aBase_1 aKey_0 aKey_1 aChal aResp).1)).setCell ⟨u0.heap.size, 1, none⟩ (.int .i64 (tfeignD aBase_0 aBase_1 aKey_0 aKey_1 aChal aResp).2.1)).setCell ⟨u0.heap.size, 2, none⟩ (.int .i64 (tfeignD aBase_0 aBase_1 aKey_0 aKey_1 aChal aResp).2.2.1)).setCell ⟨u0.heap.size, 3, none⟩ (.int .i64 (tfeignD aBase_0 aBase_1 aKey_0 aKey_1 aChal aResp).2.2.2)) = W) := ⟨_, Lib.hid rfl⟩
                rw [hw5.out]
                have hk5 : Kept (u0.heap.size) (u0.heap.size + 1) u4 u5 := by rw [← hw5.out]; exact ((((Kept.refl _ _ _).setCell (p := ⟨u0.heap.size, 0, none⟩) (Nat.le_refl _) (Nat.lt_succ_self _) _).setCell (p := ⟨u0.heap.size, 1, none⟩) (Nat.le_refl _) (Nat.lt_succ_self _) _).setCell (p := ⟨u0.heap.size, 2, none⟩) (Nat.le_refl _) (Nat.lt_succ_self _) _).setCell (p := ⟨u0.heap.size, 3, none⟩) (Nat.le_refl _) (Nat.lt_succ_self _) _
                have zs5 : u4.heap.size ≤ u5.heap.size := hk5.size
                have hlo5 := HBl4.out.size
                have HBl5 : Hid (Below w.heap.size w u5) := Lib.hid (HBl4.out.trans ((hk5.to_below (by have := HX_g04.out.lt; omega)).mono (by omega)))
                have HX_g05 : Hid (Bx u5 u0.heap.size #[.int .i64 (tfeignD aBase_0 aBase_1 aKey_0 aKey_1 aChal aResp).1, .int .i64 (tfeignD aBase_0 aBase_1 aKey_0 aKey_1 aChal aResp).2.1, .int .i64 (tfeignD aBase_0 aBase_1 aKey_0 aKey_1 aChal aResp).2.2.1, .int .i64 (tfeignD aBase_0 aBase_1 aKey_0 aKey_1 aChal aResp).2.2.2] 39) := Lib.hid (by have := ((((HX_g04.out).set 0 (.int .i64 (tfeignD aBase_0 aBase_1 aKey_0 aKey_1 aChal aResp).1)).set 1 (.int .i64 (tfeignD aBase_0 aBase_1 aKey_0 aKey_1 aChal aResp).2.1)).set 2 (.int .i64 (tfeignD aBase_0 aBase_1 aKey_0 aKey_1 aChal aResp).2.2.1)).set 3 (.int .i64 (tfeignD aBase_0 aBase_1 aKey_0 aKey_1 aChal aResp).2.2.2); rw [hw5.out] at this; exact this)
                have HX_aBase5 : Hid (Bx u5 w.heap.size #[.int .i64 aBase_0, .int .i64 aBase_1] 37) := Lib.hid (HX_aBase4.out.kept hk5 (by have := HX_aBase4.out.lt; have := HX_aKey4.out.lt; have := HX_w04.out.lt; have := HX_g04.out.lt; omega))
                have HX_aKey5 : Hid (Bx u5 (w.heap.size + 1) #[.int .i64 aKey_0, .int .i64 aKey_1] 37) := Lib.hid (HX_aKey4.out.kept hk5 (by have := HX_aBase4.out.lt; have := HX_aKey4.out.lt; have := HX_w04.out.lt; have := HX_g04.out.lt; omega))
                have HX_w05 : Hid (Bx u5 B0 #[.int .i64 (tfeignD aBase_0 aBase_1 aKey_0 aKey_1 aChal aResp).1, .int .i64 (tfeignD aBase_0 aBase_1 aKey_0 aKey_1 aChal aResp).2.1, .int .i64 (tfeignD aBase_0 aBase_1 aKey_0 aKey_1 aChal aResp).2.2.1, .int .i64 (tfeignD aBase_0 aBase_1 aKey_0 aKey_1 aChal aResp).2.2.2] 39) := Lib.hid (HX_w04.out.kept hk5 (by have := HX_aBase4.out.lt; have := HX_aKey4.out.lt; have := HX_w04.out.lt; have := HX_g04.out.lt; omega))
                clear hHeld hw5 hk5 hlo5 xc0 xf0 xc1 xf1 xc2 xf2 xc3 xf3 HBl4 HX_aBase4 HX_aKey4 HX_w04 HX_g04
                refine hK.out _ _ ⟨HX_aBase5.out.cell 0, HX_aBase5.out.cell 1, HX_aKey5.out.cell 0, HX_aKey5.out.cell 1, HX_w05.out.cell 0, HX_w05.out.cell 1, HX_w05.out.cell 2, HX_w05.out.cell 3⟩ (fun hHeld => ?_)
                clear hK K
                try simp only [Act.put]
                refine wpAnyH_take (i := 12) (oi := { dst := some 12, op := Op.assign (Operand.tmp 32), type := 4, pos := "exact.go:2791", after := #[{ on := 9, ground := Ground.data }, { on := 11, ground := Ground.chain }, { on := 0, ground := Ground.phase }, { on := 1, ground := Ground.phase }, { on := 2, ground := Ground.phase }, { on := 3, ground := Ground.phase }, { on := 4, ground := Ground.phase }, { on := 5, ground := Ground.phase }, { on := 6, ground := Ground.phase }, { on := 7, ground := Ground.phase }, { on := 8, ground := Ground.phase }, { on := 9, ground := Ground.phase }, { on := 10, ground := Ground.phase }, { on := 11, ground := Ground.phase }], guard := none }) (v := ?_) rfl (by kernel_rfl) (by kernel_rfl) (by kernel_rfl) (fun _ _ _ h => h) (Or.inl ⟨by rfl, ?_⟩) hHeld ?_
                rotate_left
                · intro w hSw; obtain ⟨s0, s1, s2, s3, s4, s5, s6, s7⟩ := hSw; (try dsimp only at hSw); go_simp; (try with_reducible rfl)
                try simp only [Act.put, List.setIfInBounds_toArray, List.set_cons_zero, List.set_cons_succ]
                refine wpAnyH_done (by kernel_rfl) ?_ _
                go_wp2
                go_meet
                case rel => exact ⟨u0.heap.size, rfl, rfl, HX_g05, HX_aBase5, HX_aKey5, HX_w05, by omega, HBl5⟩
              exact AllReadyH.nil
            exact AllReadyH.nil
          exact AllReadyH.nil
        exact AllReadyH.nil
      exact AllReadyH.nil
    case rest =>
      clear HB HX_aBase HX_aKey HX_w0
      obtain ⟨B1, rfl, rfl, HX_g0, HX_aBase, HX_aKey, HX_w0, zB1, HB⟩ := hcut
      obtain ⟨wc1, hwc⟩ : ∃ W, W = wc := ⟨_, rfl⟩
      subst hwc
      have zc1 := HB.out.size
      have zL1 := HX_g0.out.lt
      have fc9 : wc1.cell? ⟨w.heap.size, 0, none⟩ = some (.int .i64 aBase_0) := HX_aBase.out.cell 0
      have fc10 : wc1.cell? ⟨w.heap.size, 1, none⟩ = some (.int .i64 aBase_1) := HX_aBase.out.cell 1
      have fc11 : wc1.cell? ⟨(w.heap.size + 1), 0, none⟩ = some (.int .i64 aKey_0) := HX_aKey.out.cell 0
      have fc12 : wc1.cell? ⟨(w.heap.size + 1), 1, none⟩ = some (.int .i64 aKey_1) := HX_aKey.out.cell 1
      have fc13 : wc1.cell? ⟨B0, 0, none⟩ = some (.int .i64 (tfeignD aBase_0 aBase_1 aKey_0 aKey_1 aChal aResp).1) := HX_w0.out.cell 0
      have fc14 : wc1.cell? ⟨B0, 1, none⟩ = some (.int .i64 (tfeignD aBase_0 aBase_1 aKey_0 aKey_1 aChal aResp).2.1) := HX_w0.out.cell 1
      have fc15 : wc1.cell? ⟨B0, 2, none⟩ = some (.int .i64 (tfeignD aBase_0 aBase_1 aKey_0 aKey_1 aChal aResp).2.2.1) := HX_w0.out.cell 2
      have fc16 : wc1.cell? ⟨B0, 3, none⟩ = some (.int .i64 (tfeignD aBase_0 aBase_1 aKey_0 aKey_1 aChal aResp).2.2.2) := HX_w0.out.cell 3
      have fc17 : wc1.cell? ⟨B1, 0, none⟩ = some (.int .i64 (tfeignD aBase_0 aBase_1 aKey_0 aKey_1 aChal aResp).1) := HX_g0.out.cell 0
      have fc18 : wc1.cell? ⟨B1, 1, none⟩ = some (.int .i64 (tfeignD aBase_0 aBase_1 aKey_0 aKey_1 aChal aResp).2.1) := HX_g0.out.cell 1
      have fc19 : wc1.cell? ⟨B1, 2, none⟩ = some (.int .i64 (tfeignD aBase_0 aBase_1 aKey_0 aKey_1 aChal aResp).2.2.1) := HX_g0.out.cell 2
      have fc20 : wc1.cell? ⟨B1, 3, none⟩ = some (.int .i64 (tfeignD aBase_0 aBase_1 aKey_0 aKey_1 aChal aResp).2.2.2) := HX_g0.out.cell 3
      go_wp2_with fail
      clear fc9 fc10 fc11 fc12 fc13 fc14 fc15 fc16 fc17 fc18 fc19 fc20
      refine (l_eqTwin _ _ _ _ _).mono ?_
      rintro e w21 ⟨rfl, hb⟩
      have z21 : wc1.heap.size ≤ w21.heap.size := hb.size
      replace HX_aBase := Lib.hid (HX_aBase.out.below hb HX_aBase.out.lt)
      replace HX_aKey := Lib.hid (HX_aKey.out.below hb HX_aKey.out.lt)
      replace HX_w0 := Lib.hid (HX_w0.out.below hb HX_w0.out.lt)
      replace HX_g0 := Lib.hid (HX_g0.out.below hb HX_g0.out.lt)
      replace HB := Lib.hid (HB.out.trans (hb.mono (by omega)))
      clear hb
      have fc22 : w21.cell? ⟨w.heap.size, 0, none⟩ = some (.int .i64 aBase_0) := HX_aBase.out.cell 0
      have fc23 : w21.cell? ⟨w.heap.size, 1, none⟩ = some (.int .i64 aBase_1) := HX_aBase.out.cell 1
      have fc24 : w21.cell? ⟨(w.heap.size + 1), 0, none⟩ = some (.int .i64 aKey_0) := HX_aKey.out.cell 0
      have fc25 : w21.cell? ⟨(w.heap.size + 1), 1, none⟩ = some (.int .i64 aKey_1) := HX_aKey.out.cell 1
      have fc26 : w21.cell? ⟨B0, 0, none⟩ = some (.int .i64 (tfeignD aBase_0 aBase_1 aKey_0 aKey_1 aChal aResp).1) := HX_w0.out.cell 0
      have fc27 : w21.cell? ⟨B0, 1, none⟩ = some (.int .i64 (tfeignD aBase_0 aBase_1 aKey_0 aKey_1 aChal aResp).2.1) := HX_w0.out.cell 1
      have fc28 : w21.cell? ⟨B0, 2, none⟩ = some (.int .i64 (tfeignD aBase_0 aBase_1 aKey_0 aKey_1 aChal aResp).2.2.1) := HX_w0.out.cell 2
      have fc29 : w21.cell? ⟨B0, 3, none⟩ = some (.int .i64 (tfeignD aBase_0 aBase_1 aKey_0 aKey_1 aChal aResp).2.2.2) := HX_w0.out.cell 3
      have fc30 : w21.cell? ⟨B1, 0, none⟩ = some (.int .i64 (tfeignD aBase_0 aBase_1 aKey_0 aKey_1 aChal aResp).1) := HX_g0.out.cell 0
      have fc31 : w21.cell? ⟨B1, 1, none⟩ = some (.int .i64 (tfeignD aBase_0 aBase_1 aKey_0 aKey_1 aChal aResp).2.1) := HX_g0.out.cell 1
      have fc32 : w21.cell? ⟨B1, 2, none⟩ = some (.int .i64 (tfeignD aBase_0 aBase_1 aKey_0 aKey_1 aChal aResp).2.2.1) := HX_g0.out.cell 2
      have fc33 : w21.cell? ⟨B1, 3, none⟩ = some (.int .i64 (tfeignD aBase_0 aBase_1 aKey_0 aKey_1 aChal aResp).2.2.2) := HX_g0.out.cell 3
      go_wp2
      go_ret
      exact ⟨rfl, HB.out⟩

end Go.Proofs.Ytjaejgpihonjhaa
