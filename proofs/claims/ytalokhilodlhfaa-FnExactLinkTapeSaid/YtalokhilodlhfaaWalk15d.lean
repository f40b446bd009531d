/- Chapter 15: EitherSecret of the model. Made by tools/gen15/c.py. -/
import Derived.Test.YtalokhilodlhfaaWalk15c
namespace Go.Proofs.Ytalokhilodlhfaa
open Go.RowKit
set_option maxRecDepth 100000

set_option maxHeartbeats 8000000 in
theorem X_s_EitherSecret (v v1 v2 : Value) (ks : List Int) (a b : List Pf) (w : World) (h : RdIntS w w.heap.size v ks) (h1 : RdProofS w w.heap.size v1 a) (h2 : RdProofS w w.heap.size v2 b) (hs : szIntS ks ≤ 1048576) (hs1 : szProofS a ≤ 1048576) (hs2 : szProofS b ≤ 1048576) :
    Calls Try.prog 26 #[v, v1, v2] w fun e w' => e = .returned (.tuple #[.int .i64 (esecI ks a b), .int .i64 (esecV ks a b), .bool (esecB ks a b)]) ∧ Below w.heap.size w w' := by
  obtain ⟨A, n, c, rfl, _, h⟩ := h
  obtain ⟨A1, n1, c1, rfl, _, h1⟩ := h1
  obtain ⟨A2, n2, c2, rfl, _, h2⟩ := h2
  have HL := Lib.hid h.len
  have HL1 := Lib.hid h1.Prooflen
  have HL2 := Lib.hid h2.Prooflen
  have hn : n ≤ 1048576 := by have := HL.out; unfold szIntS at hs; omega
  have hn1 : n1 ≤ 1048576 := by have := HL1.out; unfold szProofS at hs1; omega
  have hn2 : n2 ≤ 1048576 := by have := HL2.out; unfold szProofS at hs2; omega
  have H := Lib.hid h
  have H1 := Lib.hid h1
  have H2 := Lib.hid h2
  clear h h1 h2 hs hs1 hs2
  go_enter Try.func26, Try.ntmps26
  by_cases h12 : n1 = n2
  rotate_left
  · have e1 : ((n1 : Int) != (n2 : Int)) = true := by rw [bne_iff_ne]; omega
    have e2 : ¬ (n1 : Int) = (n2 : Int) := by omega
    have HF := esec_no (ks := ks) (a := a) (b := b) (by exact esec_len (by rw [HL1.out, HL2.out]; exact h12))
    go_wp2
    go_ret3
    exact ⟨ret_iib HF.out.1 HF.out.2.1 HF.out.2.2, Below.refl _ _⟩
  subst h12
  go_wp2_with fail
  refine (s_l15Keys _ _ _ _ _ H.out hn).mono ?_
  rintro e w' ⟨rfl, rfl⟩
  cases hk : keysB ks
  · have HF := esec_no (ks := ks) (a := a) (b := b) (by unfold esecB; rw [hk]; rfl)
    go_wp2
    go_ret3
    exact ⟨ret_iib HF.out.1 HF.out.2.1 HF.out.2.2, Below.refl _ _⟩
  by_cases h1n : n1 = n
  rotate_left
  · have e1 : ((n1 : Int) != (n : Int)) = true := by rw [bne_iff_ne]; omega
    have e2 : ¬ (n1 : Int) = (n : Int) := by omega
    have HF := esec_no (ks := ks) (a := a) (b := b) (by unfold esecB goodsB; rw [HL1.out, HL.out]; simp [h1n])
    go_wp2
    go_ret3
    exact ⟨ret_iib HF.out.1 HF.out.2.1 HF.out.2.2, Below.refl _ _⟩
  subst h1n
  obtain ⟨m, hm⟩ : ∃ m : Nat, n1 = m := ⟨_, rfl⟩
  subst hm
  have HKB := Lib.hid hk
  clear hk
  go_wp2
  go_loopw [9] (fun i wr => ∃ k : Nat, k ≤ n1 ∧ i = .int .i64 k ∧ Hid (goodsK ks a k = true) ∧ Hid (goodsK ks b k = true) ∧ Hid (comsK a b k = true) ∧ Hid (Below w.heap.size w wr)) (fun i _ => n1 - (intOf i).toNat)
  case atStart => exact ⟨0, Nat.zero_le _, rfl, Lib.hid rfl, Lib.hid rfl, Lib.hid rfl, Lib.hid (Below.refl _ _)⟩
  case round =>
    obtain ⟨k, hk, rfl, HGA, HGB, HCM, HB⟩ := hrel
    by_cases hlt : k < n1
    · obtain ⟨p0, q, rfl, hbb, hcq, HQ⟩ := H.out.intAt hlt
      obtain ⟨p1, x, y, z, rfl, hab, hcx, hcy, hcz, HP⟩ := H1.out.ProofAt hlt
      obtain ⟨p2, x', y', z', rfl, hab', hcx', hcy', hcz', HP'⟩ := H2.out.ProofAt hlt
      have i0 : (0 : Int) ≤ (k : Int) := by omega
      have i1 : (k : Int) < (n1 : Int) := by omega
      have hbw_hbb : (p0.add k).block < w.heap.size := by rw [add_block]; exact hbb
      have hbw_hab : (p1.add (k * 3)).block < w.heap.size := by rw [add_block]; exact hab
      have hbw_hab2 : (p2.add (k * 3)).block < w.heap.size := by rw [add_block]; exact hab'
      have E1 : Hid (pfGood (ks.getD k 0) (a.getD k (0, 0, 0)) = goodB q x y z) := Lib.hid (by rw [← HQ.out, HP.out]; rfl)
      have E2 : Hid (pfGood (ks.getD k 0) (b.getD k (0, 0, 0)) = goodB q x' y' z') := Lib.hid (by rw [← HQ.out, HP'.out]; rfl)
      have E3 : Hid ((a.getD k (0, 0, 0)).1 = x ∧ (b.getD k (0, 0, 0)).1 = x') := Lib.hid (by rw [HP.out, HP'.out]; exact ⟨rfl, rfl⟩)
      clear HQ HP HP'
      have HGa : Hid (∀ W : World, Calls Try.prog 64 #[.int .i64 q, .agg #[.int .i64 x, .int .i64 y, .int .i64 z]] W fun e w' => e = .returned (.bool (goodB q x y z)) ∧ Below W.heap.size W w') := Lib.hid fun W => X_s_ProofGood q x y z W
      have HGb : Hid (∀ W : World, Calls Try.prog 64 #[.int .i64 q, .agg #[.int .i64 x', .int .i64 y', .int .i64 z']] W fun e w' => e = .returned (.bool (goodB q x' y' z')) ∧ Below W.heap.size W w') := Lib.hid fun W => X_s_ProofGood q x' y' z' W
      cases g1 : goodB q x y z
      · rw [g1] at HGa
        go_wp2
        refine wp_region_held_drew (S := fun w' => w'.cell? (p0.add k) = some (.int .i64 q) ∧ w'.cell? (p1.add (k * 3)) = some (.int .i64 x) ∧ w'.cell? ⟨(p1.add (k * 3)).block, (p1.add (k * 3)).off + 1, none⟩ = some (.int .i64 y) ∧ w'.cell? ⟨(p1.add (k * 3)).block, (p1.add (k * 3)).off + 2, none⟩ = some (.int .i64 z) ∧ w'.cell? (p2.add (k * 3)) = some (.int .i64 x') ∧ w'.cell? ⟨(p2.add (k * 3)).block, (p2.add (k * 3)).off + 1, none⟩ = some (.int .i64 y') ∧ w'.cell? ⟨(p2.add (k * 3)).block, (p2.add (k * 3)).off + 2, none⟩ = some (.int .i64 z')) (by kernel_rfl) ⟨(HB.out.cell (p := (p0.add k)) hbw_hbb).trans hcq, (HB.out.cell (p := (p1.add (k * 3))) hbw_hab).trans hcx, (HB.out.cell (p := ⟨(p1.add (k * 3)).block, (p1.add (k * 3)).off + 1, none⟩) hbw_hab).trans hcy, (HB.out.cell (p := ⟨(p1.add (k * 3)).block, (p1.add (k * 3)).off + 2, none⟩) hbw_hab).trans hcz, (HB.out.cell (p := (p2.add (k * 3))) hbw_hab2).trans hcx', (HB.out.cell (p := ⟨(p2.add (k * 3)).block, (p2.add (k * 3)).off + 1, none⟩) hbw_hab2).trans hcy', (HB.out.cell (p := ⟨(p2.add (k * 3)).block, (p2.add (k * 3)).off + 2, none⟩) hbw_hab2).trans hcz'⟩ (fun hHeld => ?_)
        obtain ⟨u0, hu0⟩ : ∃ u0, Hid (wr.drew = u0) := ⟨_, Lib.hid rfl⟩
        rw [hu0.out] at hHeld ⊢
        have zs0 : wr.heap.size = u0.heap.size := by rw [← hu0.out]; rfl
        replace zs0 := Nat.le_of_eq zs0
        have HBl0 : Hid (Below w.heap.size w u0) := Lib.hid (by rw [← hu0.out]; exact HB.out.drew)
        clear hu0
        refine wpAnyH_take (i := 0) (oi := { dst := some 36, op := Op.move (Operand.tmp 0), type := 22, pos := "l15_either.go:66", after := #[], guard := none }) (v := ?_) rfl (by kernel_rfl) (by kernel_rfl) (by kernel_rfl) (fun _ _ _ h => h) (Or.inl ⟨by rfl, ?_⟩) hHeld ?_
        rotate_left
        · intro w hSw; obtain ⟨s0, s1, s2, s3, s4, s5, s6⟩ := hSw; (try dsimp only at hSw); go_simp; (try with_reducible rfl)
        try simp only [Act.put, List.setIfInBounds_toArray, List.set_cons_zero, List.set_cons_succ]
        refine wpAnyH_take (i := 1) (oi := { dst := some 37, op := Op.move (Operand.tmp 9), type := 3, pos := "l15_either.go:66", after := #[], guard := none }) (v := ?_) rfl (by kernel_rfl) (by kernel_rfl) (by kernel_rfl) (fun _ _ _ h => h) (Or.inl ⟨by rfl, ?_⟩) hHeld ?_
        rotate_left
        · intro w hSw; obtain ⟨s0, s1, s2, s3, s4, s5, s6⟩ := hSw; (try dsimp only at hSw); go_simp; (try with_reducible rfl)
        try simp only [Act.put, List.setIfInBounds_toArray, List.set_cons_zero, List.set_cons_succ]
        refine wpAnyH_take (i := 2) (oi := { dst := some 38, op := Op.indexAddr 22 (Operand.tmp 36) (Operand.tmp 37), type := 0, pos := "l15_either.go:66", after := #[{ on := 0, ground := Ground.data }, { on := 1, ground := Ground.data }], guard := none }) (v := ?_) rfl (by kernel_rfl) (by kernel_rfl) (by kernel_rfl) (fun _ _ _ h => h) (Or.inl ⟨by rfl, ?_⟩) hHeld ?_
        rotate_left
        · intro w hSw; obtain ⟨s0, s1, s2, s3, s4, s5, s6⟩ := hSw; (try dsimp only at hSw); go_simp; (try with_reducible rfl)
        try simp only [Act.put, List.setIfInBounds_toArray, List.set_cons_zero, List.set_cons_succ]
        refine wpAnyH_take (i := 3) (oi := { dst := some 39, op := Op.load 3 (Operand.tmp 38), type := 3, pos := "l15_either.go:66", after := #[{ on := 2, ground := Ground.data }], guard := none }) (v := ?_) rfl (by kernel_rfl) (by kernel_rfl) (by kernel_rfl) (fun _ _ _ h => h) (Or.inl ⟨by rfl, ?_⟩) hHeld ?_
        rotate_left
        · intro w hSw; obtain ⟨s0, s1, s2, s3, s4, s5, s6⟩ := hSw; (try dsimp only at hSw); go_simp; (try with_reducible rfl)
        try simp only [Act.put, List.setIfInBounds_toArray, List.set_cons_zero, List.set_cons_succ]
        refine wpAnyH_take (i := 4) (oi := { dst := some 40, op := Op.move (Operand.tmp 1), type := 23, pos := "l15_either.go:66", after := #[], guard := none }) (v := ?_) rfl (by kernel_rfl) (by kernel_rfl) (by kernel_rfl) (fun _ _ _ h => h) (Or.inl ⟨by rfl, ?_⟩) hHeld ?_
        rotate_left
        · intro w hSw; obtain ⟨s0, s1, s2, s3, s4, s5, s6⟩ := hSw; (try dsimp only at hSw); go_simp; (try with_reducible rfl)
        try simp only [Act.put, List.setIfInBounds_toArray, List.set_cons_zero, List.set_cons_succ]
        refine wpAnyH_take (i := 5) (oi := { dst := some 41, op := Op.move (Operand.tmp 9), type := 3, pos := "l15_either.go:66", after := #[], guard := none }) (v := ?_) rfl (by kernel_rfl) (by kernel_rfl) (by kernel_rfl) (fun _ _ _ h => h) (Or.inl ⟨by rfl, ?_⟩) hHeld ?_
        rotate_left
        · intro w hSw; obtain ⟨s0, s1, s2, s3, s4, s5, s6⟩ := hSw; (try dsimp only at hSw); go_simp; (try with_reducible rfl)
        try simp only [Act.put, List.setIfInBounds_toArray, List.set_cons_zero, List.set_cons_succ]
        refine wpAnyH_take (i := 6) (oi := { dst := some 42, op := Op.indexAddr 23 (Operand.tmp 40) (Operand.tmp 41), type := 0, pos := "l15_either.go:66", after := #[{ on := 4, ground := Ground.data }, { on := 5, ground := Ground.data }], guard := none }) (v := ?_) rfl (by kernel_rfl) (by kernel_rfl) (by kernel_rfl) (fun _ _ _ h => h) (Or.inl ⟨by rfl, ?_⟩) hHeld ?_
        rotate_left
        · intro w hSw; obtain ⟨s0, s1, s2, s3, s4, s5, s6⟩ := hSw; (try dsimp only at hSw); go_simp; (try with_reducible rfl)
        try simp only [Act.put, List.setIfInBounds_toArray, List.set_cons_zero, List.set_cons_succ]
        refine wpAnyH_take (i := 7) (oi := { dst := some 43, op := Op.load 69 (Operand.tmp 42), type := 69, pos := "l15_either.go:66", after := #[{ on := 6, ground := Ground.data }], guard := none }) (v := ?_) rfl (by kernel_rfl) (by kernel_rfl) (by kernel_rfl) (fun _ _ _ h => h) (Or.inl ⟨by rfl, ?_⟩) hHeld ?_
        rotate_left
        · intro w hSw; obtain ⟨s0, s1, s2, s3, s4, s5, s6⟩ := hSw; (try dsimp only at hSw); go_simp; (try with_reducible rfl)
        try simp only [Act.put, List.setIfInBounds_toArray, List.set_cons_zero, List.set_cons_succ]
        refine wpAnyH_ready (rs := [8]) (by kernel_rfl) (by simp) ?_
        refine AllReadyH.cons (o := { dst := some 44, op := Op.call { callee := Callee.value (Operand.func 64), args := #[Operand.tmp 39, Operand.tmp 43], argTypes := #[3, 69] }, type := 4, pos := "l15_either.go:66", after := #[{ on := 3, ground := Ground.data }, { on := 7, ground := Ground.data }], guard := none }) rfl (fun K hK => ?_) ?_
        · go_simp
          refine (HGa.out u0).mono ?_
          rintro e u1 ⟨rfl, hb_⟩
          have zs1 : u0.heap.size ≤ u1.heap.size := hb_.size
          have HBl1 : Hid (Below w.heap.size w u1) := Lib.hid (HBl0.out.trans (hb_.mono HBl0.out.size))
          clear hHeld hb_ HBl0
          (try dsimp only)
          (try go_wp2_with fail)
          refine hK.out _ _ ⟨((HBl1.out.cell (p := (p0.add k)) hbw_hbb).trans hcq), ((HBl1.out.cell (p := (p1.add (k * 3))) hbw_hab).trans hcx), ((HBl1.out.cell (p := ⟨(p1.add (k * 3)).block, (p1.add (k * 3)).off + 1, none⟩) hbw_hab).trans hcy), ((HBl1.out.cell (p := ⟨(p1.add (k * 3)).block, (p1.add (k * 3)).off + 2, none⟩) hbw_hab).trans hcz), ((HBl1.out.cell (p := (p2.add (k * 3))) hbw_hab2).trans hcx'), ((HBl1.out.cell (p := ⟨(p2.add (k * 3)).block, (p2.add (k * 3)).off + 1, none⟩) hbw_hab2).trans hcy'), ((HBl1.out.cell (p := ⟨(p2.add (k * 3)).block, (p2.add (k * 3)).off + 2, none⟩) hbw_hab2).trans hcz')⟩ (fun hHeld => ?_)
          clear hK K
          try simp only [Act.put, List.setIfInBounds_toArray, List.set_cons_zero, List.set_cons_succ]
          refine wpAnyH_take (i := 9) (oi := { dst := some 45, op := Op.unOp UnOp.not 4 (Operand.tmp 44), type := 4, pos := "l15_either.go:66", after := #[{ on := 8, ground := Ground.data }], guard := none }) (v := ?_) rfl (by kernel_rfl) (by kernel_rfl) (by kernel_rfl) (fun _ _ _ h => h) (Or.inl ⟨by rfl, ?_⟩) hHeld ?_
          rotate_left
          · intro w hSw; obtain ⟨s0, s1, s2, s3, s4, s5, s6⟩ := hSw; (try dsimp only at hSw); go_simp; (try with_reducible rfl)
          try simp only [Act.put, List.setIfInBounds_toArray, List.set_cons_zero, List.set_cons_succ]
          refine wpAnyH_take (i := 10) (oi := { dst := some 46, op := Op.move (Operand.tmp 45), type := 4, pos := "l15_either.go:66", after := #[{ on := 9, ground := Ground.data }, { on := 8, ground := Ground.chain }], guard := none }) (v := ?_) rfl (by kernel_rfl) (by kernel_rfl) (by kernel_rfl) (fun _ _ _ h => h) (Or.inl ⟨by rfl, ?_⟩) hHeld ?_
          rotate_left
          · intro w hSw; obtain ⟨s0, s1, s2, s3, s4, s5, s6⟩ := hSw; (try dsimp only at hSw); go_simp; (try with_reducible rfl)
          try simp only [Act.put, List.setIfInBounds_toArray, List.set_cons_zero, List.set_cons_succ]
          refine wpAnyH_take (i := 11) (oi := { dst := some 47, op := Op.move (Operand.tmp 0), type := 22, pos := "l15_either.go:66", after := #[{ on := 10, ground := Ground.guard }], guard := some (10, false) }) rfl (by kernel_rfl) (by kernel_rfl) (by kernel_rfl) (fun _ _ _ h => h) (Or.inr ⟨by rfl, rfl⟩) hHeld ?_
          try simp only [Act.put, List.setIfInBounds_toArray, List.set_cons_zero, List.set_cons_succ]
          refine wpAnyH_take (i := 12) (oi := { dst := some 48, op := Op.move (Operand.tmp 9), type := 3, pos := "l15_either.go:66", after := #[{ on := 10, ground := Ground.guard }], guard := some (10, false) }) rfl (by kernel_rfl) (by kernel_rfl) (by kernel_rfl) (fun _ _ _ h => h) (Or.inr ⟨by rfl, rfl⟩) hHeld ?_
          try simp only [Act.put, List.setIfInBounds_toArray, List.set_cons_zero, List.set_cons_succ]
          refine wpAnyH_take (i := 13) (oi := { dst := some 49, op := Op.indexAddr 22 (Operand.tmp 47) (Operand.tmp 48), type := 0, pos := "l15_either.go:66", after := #[{ on := 11, ground := Ground.data }, { on := 12, ground := Ground.data }, { on := 10, ground := Ground.guard }], guard := some (10, false) }) rfl (by kernel_rfl) (by kernel_rfl) (by kernel_rfl) (fun _ _ _ h => h) (Or.inr ⟨by rfl, rfl⟩) hHeld ?_
          try simp only [Act.put, List.setIfInBounds_toArray, List.set_cons_zero, List.set_cons_succ]
          refine wpAnyH_take (i := 14) (oi := { dst := some 50, op := Op.load 3 (Operand.tmp 49), type := 3, pos := "l15_either.go:66", after := #[{ on := 13, ground := Ground.data }, { on := 10, ground := Ground.guard }], guard := some (10, false) }) rfl (by kernel_rfl) (by kernel_rfl) (by kernel_rfl) (fun _ _ _ h => h) (Or.inr ⟨by rfl, rfl⟩) hHeld ?_
          try simp only [Act.put, List.setIfInBounds_toArray, List.set_cons_zero, List.set_cons_succ]
          refine wpAnyH_take (i := 15) (oi := { dst := some 51, op := Op.move (Operand.tmp 2), type := 23, pos := "l15_either.go:66", after := #[{ on := 10, ground := Ground.guard }], guard := some (10, false) }) rfl (by kernel_rfl) (by kernel_rfl) (by kernel_rfl) (fun _ _ _ h => h) (Or.inr ⟨by rfl, rfl⟩) hHeld ?_
          try simp only [Act.put, List.setIfInBounds_toArray, List.set_cons_zero, List.set_cons_succ]
          refine wpAnyH_take (i := 16) (oi := { dst := some 52, op := Op.move (Operand.tmp 9), type := 3, pos := "l15_either.go:66", after := #[{ on := 10, ground := Ground.guard }], guard := some (10, false) }) rfl (by kernel_rfl) (by kernel_rfl) (by kernel_rfl) (fun _ _ _ h => h) (Or.inr ⟨by rfl, rfl⟩) hHeld ?_
          try simp only [Act.put, List.setIfInBounds_toArray, List.set_cons_zero, List.set_cons_succ]
          refine wpAnyH_take (i := 17) (oi := { dst := some 53, op := Op.indexAddr 23 (Operand.tmp 51) (Operand.tmp 52), type := 0, pos := "l15_either.go:66", after := #[{ on := 15, ground := Ground.data }, { on := 16, ground := Ground.data }, { on := 10, ground := Ground.guard }], guard := some (10, false) }) rfl (by kernel_rfl) (by kernel_rfl) (by kernel_rfl) (fun _ _ _ h => h) (Or.inr ⟨by rfl, rfl⟩) hHeld ?_
          try simp only [Act.put, List.setIfInBounds_toArray, List.set_cons_zero, List.set_cons_succ]
          refine wpAnyH_take (i := 18) (oi := { dst := some 54, op := Op.load 69 (Operand.tmp 53), type := 69, pos := "l15_either.go:66", after := #[{ on := 17, ground := Ground.data }, { on := 10, ground := Ground.guard }], guard := some (10, false) }) rfl (by kernel_rfl) (by kernel_rfl) (by kernel_rfl) (fun _ _ _ h => h) (Or.inr ⟨by rfl, rfl⟩) hHeld ?_
          try simp only [Act.put, List.setIfInBounds_toArray, List.set_cons_zero, List.set_cons_succ]
          refine wpAnyH_take (i := 19) (oi := { dst := some 55, op := Op.call { callee := Callee.value (Operand.func 64), args := #[Operand.tmp 50, Operand.tmp 54], argTypes := #[3, 69] }, type := 4, pos := "l15_either.go:66", after := #[{ on := 14, ground := Ground.data }, { on := 18, ground := Ground.data }, { on := 10, ground := Ground.chain }, { on := 10, ground := Ground.guard }], guard := some (10, false) }) rfl (by kernel_rfl) (by kernel_rfl) (by kernel_rfl) (fun _ _ _ h => h) (Or.inr ⟨by rfl, rfl⟩) hHeld ?_
          try simp only [Act.put, List.setIfInBounds_toArray, List.set_cons_zero, List.set_cons_succ]
          refine wpAnyH_take (i := 20) (oi := { dst := some 56, op := Op.unOp UnOp.not 4 (Operand.tmp 55), type := 4, pos := "l15_either.go:66", after := #[{ on := 19, ground := Ground.data }, { on := 10, ground := Ground.guard }], guard := some (10, false) }) rfl (by kernel_rfl) (by kernel_rfl) (by kernel_rfl) (fun _ _ _ h => h) (Or.inr ⟨by rfl, rfl⟩) hHeld ?_
          try simp only [Act.put, List.setIfInBounds_toArray, List.set_cons_zero, List.set_cons_succ]
          refine wpAnyH_take (i := 21) (oi := { dst := some 57, op := Op.pick (Operand.tmp 46) (Operand.const (Value.bool true)) (Operand.tmp 56), type := 4, pos := "l15_either.go:66", after := #[{ on := 10, ground := Ground.data }, { on := 20, ground := Ground.data }], guard := none }) (v := ?_) rfl (by kernel_rfl) (by kernel_rfl) (by kernel_rfl) (fun _ _ _ h => h) (Or.inl ⟨by rfl, ?_⟩) hHeld ?_
          rotate_left
          · intro w hSw; obtain ⟨s0, s1, s2, s3, s4, s5, s6⟩ := hSw; (try dsimp only at hSw); go_simp; (try with_reducible rfl)
          try simp only [Act.put, List.setIfInBounds_toArray, List.set_cons_zero, List.set_cons_succ]
          refine wpAnyH_take (i := 22) (oi := { dst := some 58, op := Op.move (Operand.tmp 57), type := 4, pos := "l15_either.go:66", after := #[{ on := 21, ground := Ground.data }, { on := 19, ground := Ground.chain }], guard := none }) (v := ?_) rfl (by kernel_rfl) (by kernel_rfl) (by kernel_rfl) (fun _ _ _ h => h) (Or.inl ⟨by rfl, ?_⟩) hHeld ?_
          rotate_left
          · intro w hSw; obtain ⟨s0, s1, s2, s3, s4, s5, s6⟩ := hSw; (try dsimp only at hSw); go_simp; (try with_reducible rfl)
          try simp only [Act.put, List.setIfInBounds_toArray, List.set_cons_zero, List.set_cons_succ]
          refine wpAnyH_take (i := 23) (oi := { dst := some 59, op := Op.move (Operand.tmp 1), type := 23, pos := "l15_either.go:66", after := #[{ on := 22, ground := Ground.guard }], guard := some (22, false) }) rfl (by kernel_rfl) (by kernel_rfl) (by kernel_rfl) (fun _ _ _ h => h) (Or.inr ⟨by rfl, rfl⟩) hHeld ?_
          try simp only [Act.put, List.setIfInBounds_toArray, List.set_cons_zero, List.set_cons_succ]
          refine wpAnyH_take (i := 24) (oi := { dst := some 60, op := Op.move (Operand.tmp 9), type := 3, pos := "l15_either.go:66", after := #[{ on := 22, ground := Ground.guard }], guard := some (22, false) }) rfl (by kernel_rfl) (by kernel_rfl) (by kernel_rfl) (fun _ _ _ h => h) (Or.inr ⟨by rfl, rfl⟩) hHeld ?_
          try simp only [Act.put, List.setIfInBounds_toArray, List.set_cons_zero, List.set_cons_succ]
          refine wpAnyH_take (i := 25) (oi := { dst := some 61, op := Op.indexAddr 23 (Operand.tmp 59) (Operand.tmp 60), type := 0, pos := "l15_either.go:66", after := #[{ on := 23, ground := Ground.data }, { on := 24, ground := Ground.data }, { on := 22, ground := Ground.guard }], guard := some (22, false) }) rfl (by kernel_rfl) (by kernel_rfl) (by kernel_rfl) (fun _ _ _ h => h) (Or.inr ⟨by rfl, rfl⟩) hHeld ?_
          try simp only [Act.put, List.setIfInBounds_toArray, List.set_cons_zero, List.set_cons_succ]
          refine wpAnyH_take (i := 26) (oi := { dst := some 62, op := Op.fieldAddr 69 (Operand.tmp 61) 0, type := 0, pos := "l15_either.go:66", after := #[{ on := 25, ground := Ground.data }, { on := 22, ground := Ground.guard }], guard := some (22, false) }) rfl (by kernel_rfl) (by kernel_rfl) (by kernel_rfl) (fun _ _ _ h => h) (Or.inr ⟨by rfl, rfl⟩) hHeld ?_
          try simp only [Act.put, List.setIfInBounds_toArray, List.set_cons_zero, List.set_cons_succ]
          refine wpAnyH_take (i := 27) (oi := { dst := some 63, op := Op.load 3 (Operand.tmp 62), type := 3, pos := "l15_either.go:66", after := #[{ on := 26, ground := Ground.data }, { on := 22, ground := Ground.guard }], guard := some (22, false) }) rfl (by kernel_rfl) (by kernel_rfl) (by kernel_rfl) (fun _ _ _ h => h) (Or.inr ⟨by rfl, rfl⟩) hHeld ?_
          try simp only [Act.put, List.setIfInBounds_toArray, List.set_cons_zero, List.set_cons_succ]
          refine wpAnyH_take (i := 28) (oi := { dst := some 64, op := Op.move (Operand.tmp 2), type := 23, pos := "l15_either.go:66", after := #[{ on := 22, ground := Ground.guard }], guard := some (22, false) }) rfl (by kernel_rfl) (by kernel_rfl) (by kernel_rfl) (fun _ _ _ h => h) (Or.inr ⟨by rfl, rfl⟩) hHeld ?_
          try simp only [Act.put, List.setIfInBounds_toArray, List.set_cons_zero, List.set_cons_succ]
          refine wpAnyH_take (i := 29) (oi := { dst := some 65, op := Op.move (Operand.tmp 9), type := 3, pos := "l15_either.go:66", after := #[{ on := 22, ground := Ground.guard }], guard := some (22, false) }) rfl (by kernel_rfl) (by kernel_rfl) (by kernel_rfl) (fun _ _ _ h => h) (Or.inr ⟨by rfl, rfl⟩) hHeld ?_
          try simp only [Act.put, List.setIfInBounds_toArray, List.set_cons_zero, List.set_cons_succ]
          refine wpAnyH_take (i := 30) (oi := { dst := some 66, op := Op.indexAddr 23 (Operand.tmp 64) (Operand.tmp 65), type := 0, pos := "l15_either.go:66", after := #[{ on := 28, ground := Ground.data }, { on := 29, ground := Ground.data }, { on := 22, ground := Ground.guard }], guard := some (22, false) }) rfl (by kernel_rfl) (by kernel_rfl) (by kernel_rfl) (fun _ _ _ h => h) (Or.inr ⟨by rfl, rfl⟩) hHeld ?_
          try simp only [Act.put, List.setIfInBounds_toArray, List.set_cons_zero, List.set_cons_succ]
          refine wpAnyH_take (i := 31) (oi := { dst := some 67, op := Op.fieldAddr 69 (Operand.tmp 66) 0, type := 0, pos := "l15_either.go:66", after := #[{ on := 30, ground := Ground.data }, { on := 22, ground := Ground.guard }], guard := some (22, false) }) rfl (by kernel_rfl) (by kernel_rfl) (by kernel_rfl) (fun _ _ _ h => h) (Or.inr ⟨by rfl, rfl⟩) hHeld ?_
          try simp only [Act.put, List.setIfInBounds_toArray, List.set_cons_zero, List.set_cons_succ]
          refine wpAnyH_take (i := 32) (oi := { dst := some 68, op := Op.load 3 (Operand.tmp 67), type := 3, pos := "l15_either.go:66", after := #[{ on := 31, ground := Ground.data }, { on := 22, ground := Ground.guard }], guard := some (22, false) }) rfl (by kernel_rfl) (by kernel_rfl) (by kernel_rfl) (fun _ _ _ h => h) (Or.inr ⟨by rfl, rfl⟩) hHeld ?_
          try simp only [Act.put, List.setIfInBounds_toArray, List.set_cons_zero, List.set_cons_succ]
          refine wpAnyH_take (i := 33) (oi := { dst := some 69, op := Op.binOp BinOp.neq 3 (Operand.tmp 63) (Operand.tmp 68) 3, type := 4, pos := "l15_either.go:66", after := #[{ on := 27, ground := Ground.data }, { on := 32, ground := Ground.data }, { on := 22, ground := Ground.guard }], guard := some (22, false) }) rfl (by kernel_rfl) (by kernel_rfl) (by kernel_rfl) (fun _ _ _ h => h) (Or.inr ⟨by rfl, rfl⟩) hHeld ?_
          try simp only [Act.put, List.setIfInBounds_toArray, List.set_cons_zero, List.set_cons_succ]
          refine wpAnyH_take (i := 34) (oi := { dst := some 70, op := Op.pick (Operand.tmp 58) (Operand.const (Value.bool true)) (Operand.tmp 69), type := 4, pos := "l15_either.go:66", after := #[{ on := 22, ground := Ground.data }, { on := 33, ground := Ground.data }], guard := none }) (v := ?_) rfl (by kernel_rfl) (by kernel_rfl) (by kernel_rfl) (fun _ _ _ h => h) (Or.inl ⟨by rfl, ?_⟩) hHeld ?_
          rotate_left
          · intro w hSw; obtain ⟨s0, s1, s2, s3, s4, s5, s6⟩ := hSw; (try dsimp only at hSw); go_simp; (try with_reducible rfl)
          try simp only [Act.put, List.setIfInBounds_toArray, List.set_cons_zero, List.set_cons_succ]
          refine wpAnyH_done (by kernel_rfl) ?_ _
          have HF := esec_no (ks := ks) (a := a) (b := b) (by unfold esecB goodsB; rw [HL.out, goodsK_no hlt (by rw [E1.out, g1])]; simp)
          go_wp2
          go_ret3
          exact ⟨ret_iib HF.out.1 HF.out.2.1 HF.out.2.2, HBl1.out⟩
        exact AllReadyH.nil
      rw [g1] at HGa
      cases g2 : goodB q x' y' z'
      · rw [g2] at HGb
        go_wp2
        refine wp_region_held_drew (S := fun w' => w'.cell? (p0.add k) = some (.int .i64 q) ∧ w'.cell? (p1.add (k * 3)) = some (.int .i64 x) ∧ w'.cell? ⟨(p1.add (k * 3)).block, (p1.add (k * 3)).off + 1, none⟩ = some (.int .i64 y) ∧ w'.cell? ⟨(p1.add (k * 3)).block, (p1.add (k * 3)).off + 2, none⟩ = some (.int .i64 z) ∧ w'.cell? (p2.add (k * 3)) = some (.int .i64 x') ∧ w'.cell? ⟨(p2.add (k * 3)).block, (p2.add (k * 3)).off + 1, none⟩ = some (.int .i64 y') ∧ w'.cell? ⟨(p2.add (k * 3)).block, (p2.add (k * 3)).off + 2, none⟩ = some (.int .i64 z')) (by kernel_rfl) ⟨(HB.out.cell (p := (p0.add k)) hbw_hbb).trans hcq, (HB.out.cell (p := (p1.add (k * 3))) hbw_hab).trans hcx, (HB.out.cell (p := ⟨(p1.add (k * 3)).block, (p1.add (k * 3)).off + 1, none⟩) hbw_hab).trans hcy, (HB.out.cell (p := ⟨(p1.add (k * 3)).block, (p1.add (k * 3)).off + 2, none⟩) hbw_hab).trans hcz, (HB.out.cell (p := (p2.add (k * 3))) hbw_hab2).trans hcx', (HB.out.cell (p := ⟨(p2.add (k * 3)).block, (p2.add (k * 3)).off + 1, none⟩) hbw_hab2).trans hcy', (HB.out.cell (p := ⟨(p2.add (k * 3)).block, (p2.add (k * 3)).off + 2, none⟩) hbw_hab2).trans hcz'⟩ (fun hHeld => ?_)
        obtain ⟨u0, hu0⟩ : ∃ u0, Hid (wr.drew = u0) := ⟨_, Lib.hid rfl⟩
        rw [hu0.out] at hHeld ⊢
        have zs0 : wr.heap.size = u0.heap.size := by rw [← hu0.out]; rfl
        replace zs0 := Nat.le_of_eq zs0
        have HBl0 : Hid (Below w.heap.size w u0) := Lib.hid (by rw [← hu0.out]; exact HB.out.drew)
        clear hu0
        refine wpAnyH_take (i := 0) (oi := { dst := some 36, op := Op.move (Operand.tmp 0), type := 22, pos := "l15_either.go:66", after := #[], guard := none }) (v := ?_) rfl (by kernel_rfl) (by kernel_rfl) (by kernel_rfl) (fun _ _ _ h => h) (Or.inl ⟨by rfl, ?_⟩) hHeld ?_
        rotate_left
        · intro w hSw; obtain ⟨s0, s1, s2, s3, s4, s5, s6⟩ := hSw; (try dsimp only at hSw); go_simp; (try with_reducible rfl)
        try simp only [Act.put, List.setIfInBounds_toArray, List.set_cons_zero, List.set_cons_succ]
        refine wpAnyH_take (i := 1) (oi := { dst := some 37, op := Op.move (Operand.tmp 9), type := 3, pos := "l15_either.go:66", after := #[], guard := none }) (v := ?_) rfl (by kernel_rfl) (by kernel_rfl) (by kernel_rfl) (fun _ _ _ h => h) (Or.inl ⟨by rfl, ?_⟩) hHeld ?_
        rotate_left
        · intro w hSw; obtain ⟨s0, s1, s2, s3, s4, s5, s6⟩ := hSw; (try dsimp only at hSw); go_simp; (try with_reducible rfl)
        try simp only [Act.put, List.setIfInBounds_toArray, List.set_cons_zero, List.set_cons_succ]
        refine wpAnyH_take (i := 2) (oi := { dst := some 38, op := Op.indexAddr 22 (Operand.tmp 36) (Operand.tmp 37), type := 0, pos := "l15_either.go:66", after := #[{ on := 0, ground := Ground.data }, { on := 1, ground := Ground.data }], guard := none }) (v := ?_) rfl (by kernel_rfl) (by kernel_rfl) (by kernel_rfl) (fun _ _ _ h => h) (Or.inl ⟨by rfl, ?_⟩) hHeld ?_
        rotate_left
        · intro w hSw; obtain ⟨s0, s1, s2, s3, s4, s5, s6⟩ := hSw; (try dsimp only at hSw); go_simp; (try with_reducible rfl)
        try simp only [Act.put, List.setIfInBounds_toArray, List.set_cons_zero, List.set_cons_succ]
        refine wpAnyH_take (i := 3) (oi := { dst := some 39, op := Op.load 3 (Operand.tmp 38), type := 3, pos := "l15_either.go:66", after := #[{ on := 2, ground := Ground.data }], guard := none }) (v := ?_) rfl (by kernel_rfl) (by kernel_rfl) (by kernel_rfl) (fun _ _ _ h => h) (Or.inl ⟨by rfl, ?_⟩) hHeld ?_
        rotate_left
        · intro w hSw; obtain ⟨s0, s1, s2, s3, s4, s5, s6⟩ := hSw; (try dsimp only at hSw); go_simp; (try with_reducible rfl)
        try simp only [Act.put, List.setIfInBounds_toArray, List.set_cons_zero, List.set_cons_succ]
        refine wpAnyH_take (i := 4) (oi := { dst := some 40, op := Op.move (Operand.tmp 1), type := 23, pos := "l15_either.go:66", after := #[], guard := none }) (v := ?_) rfl (by kernel_rfl) (by kernel_rfl) (by kernel_rfl) (fun _ _ _ h => h) (Or.inl ⟨by rfl, ?_⟩) hHeld ?_
        rotate_left
        · intro w hSw; obtain ⟨s0, s1, s2, s3, s4, s5, s6⟩ := hSw; (try dsimp only at hSw); go_simp; (try with_reducible rfl)
        try simp only [Act.put, List.setIfInBounds_toArray, List.set_cons_zero, List.set_cons_succ]
        refine wpAnyH_take (i := 5) (oi := { dst := some 41, op := Op.move (Operand.tmp 9), type := 3, pos := "l15_either.go:66", after := #[], guard := none }) (v := ?_) rfl (by kernel_rfl) (by kernel_rfl) (by kernel_rfl) (fun _ _ _ h => h) (Or.inl ⟨by rfl, ?_⟩) hHeld ?_
        rotate_left
        · intro w hSw; obtain ⟨s0, s1, s2, s3, s4, s5, s6⟩ := hSw; (try dsimp only at hSw); go_simp; (try with_reducible rfl)
        try simp only [Act.put, List.setIfInBounds_toArray, List.set_cons_zero, List.set_cons_succ]
        refine wpAnyH_take (i := 6) (oi := { dst := some 42, op := Op.indexAddr 23 (Operand.tmp 40) (Operand.tmp 41), type := 0, pos := "l15_either.go:66", after := #[{ on := 4, ground := Ground.data }, { on := 5, ground := Ground.data }], guard := none }) (v := ?_) rfl (by kernel_rfl) (by kernel_rfl) (by kernel_rfl) (fun _ _ _ h => h) (Or.inl ⟨by rfl, ?_⟩) hHeld ?_
        rotate_left
        · intro w hSw; obtain ⟨s0, s1, s2, s3, s4, s5, s6⟩ := hSw; (try dsimp only at hSw); go_simp; (try with_reducible rfl)
        try simp only [Act.put, List.setIfInBounds_toArray, List.set_cons_zero, List.set_cons_succ]
        refine wpAnyH_take (i := 7) (oi := { dst := some 43, op := Op.load 69 (Operand.tmp 42), type := 69, pos := "l15_either.go:66", after := #[{ on := 6, ground := Ground.data }], guard := none }) (v := ?_) rfl (by kernel_rfl) (by kernel_rfl) (by kernel_rfl) (fun _ _ _ h => h) (Or.inl ⟨by rfl, ?_⟩) hHeld ?_
        rotate_left
        · intro w hSw; obtain ⟨s0, s1, s2, s3, s4, s5, s6⟩ := hSw; (try dsimp only at hSw); go_simp; (try with_reducible rfl)
        try simp only [Act.put, List.setIfInBounds_toArray, List.set_cons_zero, List.set_cons_succ]
        refine wpAnyH_ready (rs := [8]) (by kernel_rfl) (by simp) ?_
        refine AllReadyH.cons (o := { dst := some 44, op := Op.call { callee := Callee.value (Operand.func 64), args := #[Operand.tmp 39, Operand.tmp 43], argTypes := #[3, 69] }, type := 4, pos := "l15_either.go:66", after := #[{ on := 3, ground := Ground.data }, { on := 7, ground := Ground.data }], guard := none }) rfl (fun K hK => ?_) ?_
        · go_simp
          refine (HGa.out u0).mono ?_
          rintro e u1 ⟨rfl, hb_⟩
          have zs1 : u0.heap.size ≤ u1.heap.size := hb_.size
          have HBl1 : Hid (Below w.heap.size w u1) := Lib.hid (HBl0.out.trans (hb_.mono HBl0.out.size))
          clear hHeld hb_ HBl0
          (try dsimp only)
          (try go_wp2_with fail)
          refine hK.out _ _ ⟨((HBl1.out.cell (p := (p0.add k)) hbw_hbb).trans hcq), ((HBl1.out.cell (p := (p1.add (k * 3))) hbw_hab).trans hcx), ((HBl1.out.cell (p := ⟨(p1.add (k * 3)).block, (p1.add (k * 3)).off + 1, none⟩) hbw_hab).trans hcy), ((HBl1.out.cell (p := ⟨(p1.add (k * 3)).block, (p1.add (k * 3)).off + 2, none⟩) hbw_hab).trans hcz), ((HBl1.out.cell (p := (p2.add (k * 3))) hbw_hab2).trans hcx'), ((HBl1.out.cell (p := ⟨(p2.add (k * 3)).block, (p2.add (k * 3)).off + 1, none⟩) hbw_hab2).trans hcy'), ((HBl1.out.cell (p := ⟨(p2.add (k * 3)).block, (p2.add (k * 3)).off + 2, none⟩) hbw_hab2).trans hcz')⟩ (fun hHeld => ?_)
          clear hK K
          try simp only [Act.put, List.setIfInBounds_toArray, List.set_cons_zero, List.set_cons_succ]
          refine wpAnyH_take (i := 9) (oi := { dst := some 45, op := Op.unOp UnOp.not 4 (Operand.tmp 44), type := 4, pos := "l15_either.go:66", after := #[{ on := 8, ground := Ground.data }], guard := none }) (v := ?_) rfl (by kernel_rfl) (by kernel_rfl) (by kernel_rfl) (fun _ _ _ h => h) (Or.inl ⟨by rfl, ?_⟩) hHeld ?_
          rotate_left
          · intro w hSw; obtain ⟨s0, s1, s2, s3, s4, s5, s6⟩ := hSw; (try dsimp only at hSw); go_simp; (try with_reducible rfl)
          try simp only [Act.put, List.setIfInBounds_toArray, List.set_cons_zero, List.set_cons_succ]
          refine wpAnyH_take (i := 10) (oi := { dst := some 46, op := Op.move (Operand.tmp 45), type := 4, pos := "l15_either.go:66", after := #[{ on := 9, ground := Ground.data }, { on := 8, ground := Ground.chain }], guard := none }) (v := ?_) rfl (by kernel_rfl) (by kernel_rfl) (by kernel_rfl) (fun _ _ _ h => h) (Or.inl ⟨by rfl, ?_⟩) hHeld ?_
          rotate_left
          · intro w hSw; obtain ⟨s0, s1, s2, s3, s4, s5, s6⟩ := hSw; (try dsimp only at hSw); go_simp; (try with_reducible rfl)
          try simp only [Act.put, List.setIfInBounds_toArray, List.set_cons_zero, List.set_cons_succ]
          refine wpAnyH_take (i := 11) (oi := { dst := some 47, op := Op.move (Operand.tmp 0), type := 22, pos := "l15_either.go:66", after := #[{ on := 10, ground := Ground.guard }], guard := some (10, false) }) (v := ?_) rfl (by kernel_rfl) (by kernel_rfl) (by kernel_rfl) (fun _ _ _ h => h) (Or.inl ⟨by rfl, ?_⟩) hHeld ?_
          rotate_left
          · intro w hSw; obtain ⟨s0, s1, s2, s3, s4, s5, s6⟩ := hSw; (try dsimp only at hSw); go_simp; (try with_reducible rfl)
          try simp only [Act.put, List.setIfInBounds_toArray, List.set_cons_zero, List.set_cons_succ]
          refine wpAnyH_take (i := 12) (oi := { dst := some 48, op := Op.move (Operand.tmp 9), type := 3, pos := "l15_either.go:66", after := #[{ on := 10, ground := Ground.guard }], guard := some (10, false) }) (v := ?_) rfl (by kernel_rfl) (by kernel_rfl) (by kernel_rfl) (fun _ _ _ h => h) (Or.inl ⟨by rfl, ?_⟩) hHeld ?_
          rotate_left
          · intro w hSw; obtain ⟨s0, s1, s2, s3, s4, s5, s6⟩ := hSw; (try dsimp only at hSw); go_simp; (try with_reducible rfl)
          try simp only [Act.put, List.setIfInBounds_toArray, List.set_cons_zero, List.set_cons_succ]
          refine wpAnyH_take (i := 13) (oi := { dst := some 49, op := Op.indexAddr 22 (Operand.tmp 47) (Operand.tmp 48), type := 0, pos := "l15_either.go:66", after := #[{ on := 11, ground := Ground.data }, { on := 12, ground := Ground.data }, { on := 10, ground := Ground.guard }], guard := some (10, false) }) (v := ?_) rfl (by kernel_rfl) (by kernel_rfl) (by kernel_rfl) (fun _ _ _ h => h) (Or.inl ⟨by rfl, ?_⟩) hHeld ?_
          rotate_left
          · intro w hSw; obtain ⟨s0, s1, s2, s3, s4, s5, s6⟩ := hSw; (try dsimp only at hSw); go_simp; (try with_reducible rfl)
          try simp only [Act.put, List.setIfInBounds_toArray, List.set_cons_zero, List.set_cons_succ]
          refine wpAnyH_take (i := 14) (oi := { dst := some 50, op := Op.load 3 (Operand.tmp 49), type := 3, pos := "l15_either.go:66", after := #[{ on := 13, ground := Ground.data }, { on := 10, ground := Ground.guard }], guard := some (10, false) }) (v := ?_) rfl (by kernel_rfl) (by kernel_rfl) (by kernel_rfl) (fun _ _ _ h => h) (Or.inl ⟨by rfl, ?_⟩) hHeld ?_
          rotate_left
          · intro w hSw; obtain ⟨s0, s1, s2, s3, s4, s5, s6⟩ := hSw; (try dsimp only at hSw); go_simp; (try with_reducible rfl)
          try simp only [Act.put, List.setIfInBounds_toArray, List.set_cons_zero, List.set_cons_succ]
          refine wpAnyH_take (i := 15) (oi := { dst := some 51, op := Op.move (Operand.tmp 2), type := 23, pos := "l15_either.go:66", after := #[{ on := 10, ground := Ground.guard }], guard := some (10, false) }) (v := ?_) rfl (by kernel_rfl) (by kernel_rfl) (by kernel_rfl) (fun _ _ _ h => h) (Or.inl ⟨by rfl, ?_⟩) hHeld ?_
          rotate_left
          · intro w hSw; obtain ⟨s0, s1, s2, s3, s4, s5, s6⟩ := hSw; (try dsimp only at hSw); go_simp; (try with_reducible rfl)
          try simp only [Act.put, List.setIfInBounds_toArray, List.set_cons_zero, List.set_cons_succ]
          refine wpAnyH_take (i := 16) (oi := { dst := some 52, op := Op.move (Operand.tmp 9), type := 3, pos := "l15_either.go:66", after := #[{ on := 10, ground := Ground.guard }], guard := some (10, false) }) (v := ?_) rfl (by kernel_rfl) (by kernel_rfl) (by kernel_rfl) (fun _ _ _ h => h) (Or.inl ⟨by rfl, ?_⟩) hHeld ?_
          rotate_left
          · intro w hSw; obtain ⟨s0, s1, s2, s3, s4, s5, s6⟩ := hSw; (try dsimp only at hSw); go_simp; (try with_reducible rfl)
          try simp only [Act.put, List.setIfInBounds_toArray, List.set_cons_zero, List.set_cons_succ]
          refine wpAnyH_take (i := 17) (oi := { dst := some 53, op := Op.indexAddr 23 (Operand.tmp 51) (Operand.tmp 52), type := 0, pos := "l15_either.go:66", after := #[{ on := 15, ground := Ground.data }, { on := 16, ground := Ground.data }, { on := 10, ground := Ground.guard }], guard := some (10, false) }) (v := ?_) rfl (by kernel_rfl) (by kernel_rfl) (by kernel_rfl) (fun _ _ _ h => h) (Or.inl ⟨by rfl, ?_⟩) hHeld ?_
          rotate_left
          · intro w hSw; obtain ⟨s0, s1, s2, s3, s4, s5, s6⟩ := hSw; (try dsimp only at hSw); go_simp; (try with_reducible rfl)
          try simp only [Act.put, List.setIfInBounds_toArray, List.set_cons_zero, List.set_cons_succ]
          refine wpAnyH_take (i := 18) (oi := { dst := some 54, op := Op.load 69 (Operand.tmp 53), type := 69, pos := "l15_either.go:66", after := #[{ on := 17, ground := Ground.data }, { on := 10, ground := Ground.guard }], guard := some (10, false) }) (v := ?_) rfl (by kernel_rfl) (by kernel_rfl) (by kernel_rfl) (fun _ _ _ h => h) (Or.inl ⟨by rfl, ?_⟩) hHeld ?_
          rotate_left
          · intro w hSw; obtain ⟨s0, s1, s2, s3, s4, s5, s6⟩ := hSw; (try dsimp only at hSw); go_simp; (try with_reducible rfl)
          try simp only [Act.put, List.setIfInBounds_toArray, List.set_cons_zero, List.set_cons_succ]
          refine wpAnyH_ready (rs := [19]) (by kernel_rfl) (by simp) ?_
          refine AllReadyH.cons (o := { dst := some 55, op := Op.call { callee := Callee.value (Operand.func 64), args := #[Operand.tmp 50, Operand.tmp 54], argTypes := #[3, 69] }, type := 4, pos := "l15_either.go:66", after := #[{ on := 14, ground := Ground.data }, { on := 18, ground := Ground.data }, { on := 10, ground := Ground.chain }, { on := 10, ground := Ground.guard }], guard := some (10, false) }) rfl (fun K hK => ?_) ?_
          · go_simp
            refine (HGb.out u1).mono ?_
            rintro e u2 ⟨rfl, hb_⟩
            have zs2 : u1.heap.size ≤ u2.heap.size := hb_.size
            have HBl2 : Hid (Below w.heap.size w u2) := Lib.hid (HBl1.out.trans (hb_.mono HBl1.out.size))
            clear hHeld hb_ HBl1
            (try dsimp only)
            (try go_wp2_with fail)
            refine hK.out _ _ ⟨((HBl2.out.cell (p := (p0.add k)) hbw_hbb).trans hcq), ((HBl2.out.cell (p := (p1.add (k * 3))) hbw_hab).trans hcx), ((HBl2.out.cell (p := ⟨(p1.add (k * 3)).block, (p1.add (k * 3)).off + 1, none⟩) hbw_hab).trans hcy), ((HBl2.out.cell (p := ⟨(p1.add (k * 3)).block, (p1.add (k * 3)).off + 2, none⟩) hbw_hab).trans hcz), ((HBl2.out.cell (p := (p2.add (k * 3))) hbw_hab2).trans hcx'), ((HBl2.out.cell (p := ⟨(p2.add (k * 3)).block, (p2.add (k * 3)).off + 1, none⟩) hbw_hab2).trans hcy'), ((HBl2.out.cell (p := ⟨(p2.add (k * 3)).block, (p2.add (k * 3)).off + 2, none⟩) hbw_hab2).trans hcz')⟩ (fun hHeld => ?_)
            clear hK K
            try simp only [Act.put, List.setIfInBounds_toArray, List.set_cons_zero, List.set_cons_succ]
            refine wpAnyH_take (i := 20) (oi := { dst := some 56, op := Op.unOp UnOp.not 4 (Operand.tmp 55), type := 4, pos := "l15_either.go:66", after := #[{ on := 19, ground := Ground.data }, { on := 10, ground := Ground.guard }], guard := some (10, false) }) (v := ?_) rfl (by kernel_rfl) (by kernel_rfl) (by kernel_rfl) (fun _ _ _ h => h) (Or.inl ⟨by rfl, ?_⟩) hHeld ?_
            rotate_left
            · intro w hSw; obtain ⟨s0, s1, s2, s3, s4, s5, s6⟩ := hSw; (try dsimp only at hSw); go_simp; (try with_reducible rfl)
            try simp only [Act.put, List.setIfInBounds_toArray, List.set_cons_zero, List.set_cons_succ]
            refine wpAnyH_take (i := 21) (oi := { dst := some 57, op := Op.pick (Operand.tmp 46) (Operand.const (Value.bool true)) (Operand.tmp 56), type := 4, pos := "l15_either.go:66", after := #[{ on := 10, ground := Ground.data }, { on := 20, ground := Ground.data }], guard := none }) (v := ?_) rfl (by kernel_rfl) (by kernel_rfl) (by kernel_rfl) (fun _ _ _ h => h) (Or.inl ⟨by rfl, ?_⟩) hHeld ?_
            rotate_left
            · intro w hSw; obtain ⟨s0, s1, s2, s3, s4, s5, s6⟩ := hSw; (try dsimp only at hSw); go_simp; (try with_reducible rfl)
            try simp only [Act.put, List.setIfInBounds_toArray, List.set_cons_zero, List.set_cons_succ]
            refine wpAnyH_take (i := 22) (oi := { dst := some 58, op := Op.move (Operand.tmp 57), type := 4, pos := "l15_either.go:66", after := #[{ on := 21, ground := Ground.data }, { on := 19, ground := Ground.chain }], guard := none }) (v := ?_) rfl (by kernel_rfl) (by kernel_rfl) (by kernel_rfl) (fun _ _ _ h => h) (Or.inl ⟨by rfl, ?_⟩) hHeld ?_
            rotate_left
            · intro w hSw; obtain ⟨s0, s1, s2, s3, s4, s5, s6⟩ := hSw; (try dsimp only at hSw); go_simp; (try with_reducible rfl)
            try simp only [Act.put, List.setIfInBounds_toArray, List.set_cons_zero, List.set_cons_succ]
            refine wpAnyH_take (i := 23) (oi := { dst := some 59, op := Op.move (Operand.tmp 1), type := 23, pos := "l15_either.go:66", after := #[{ on := 22, ground := Ground.guard }], guard := some (22, false) }) rfl (by kernel_rfl) (by kernel_rfl) (by kernel_rfl) (fun _ _ _ h => h) (Or.inr ⟨by rfl, rfl⟩) hHeld ?_
            try simp only [Act.put, List.setIfInBounds_toArray, List.set_cons_zero, List.set_cons_succ]
            refine wpAnyH_take (i := 24) (oi := { dst := some 60, op := Op.move (Operand.tmp 9), type := 3, pos := "l15_either.go:66", after := #[{ on := 22, ground := Ground.guard }], guard := some (22, false) }) rfl (by kernel_rfl) (by kernel_rfl) (by kernel_rfl) (fun _ _ _ h => h) (Or.inr ⟨by rfl, rfl⟩) hHeld ?_
            try simp only [Act.put, List.setIfInBounds_toArray, List.set_cons_zero, List.set_cons_succ]
            refine wpAnyH_take (i := 25) (oi := { dst := some 61, op := Op.indexAddr 23 (Operand.tmp 59) (Operand.tmp 60), type := 0, pos := "l15_either.go:66", after := #[{ on := 23, ground := Ground.data }, { on := 24, ground := Ground.data }, { on := 22, ground := Ground.guard }], guard := some (22, false) }) rfl (by kernel_rfl) (by kernel_rfl) (by kernel_rfl) (fun _ _ _ h => h) (Or.inr ⟨by rfl, rfl⟩) hHeld ?_
            try simp only [Act.put, List.setIfInBounds_toArray, List.set_cons_zero, List.set_cons_succ]
            refine wpAnyH_take (i := 26) (oi := { dst := some 62, op := Op.fieldAddr 69 (Operand.tmp 61) 0, type := 0, pos := "l15_either.go:66", after := #[{ on := 25, ground := Ground.data }, { on := 22, ground := Ground.guard }], guard := some (22, false) }) rfl (by kernel_rfl) (by kernel_rfl) (by kernel_rfl) (fun _ _ _ h => h) (Or.inr ⟨by rfl, rfl⟩) hHeld ?_
            try simp only [Act.put, List.setIfInBounds_toArray, List.set_cons_zero, List.set_cons_succ]
            refine wpAnyH_take (i := 27) (oi := { dst := some 63, op := Op.load 3 (Operand.tmp 62), type := 3, pos := "l15_either.go:66", after := #[{ on := 26, ground := Ground.data }, { on := 22, ground := Ground.guard }], guard := some (22, false) }) rfl (by kernel_rfl) (by kernel_rfl) (by kernel_rfl) (fun _ _ _ h => h) (Or.inr ⟨by rfl, rfl⟩) hHeld ?_
            try simp only [Act.put, List.setIfInBounds_toArray, List.set_cons_zero, List.set_cons_succ]
            refine wpAnyH_take (i := 28) (oi := { dst := some 64, op := Op.move (Operand.tmp 2), type := 23, pos := "l15_either.go:66", after := #[{ on := 22, ground := Ground.guard }], guard := some (22, false) }) rfl (by kernel_rfl) (by kernel_rfl) (by kernel_rfl) (fun _ _ _ h => h) (Or.inr ⟨by rfl, rfl⟩) hHeld ?_
            try simp only [Act.put, List.setIfInBounds_toArray, List.set_cons_zero, List.set_cons_succ]
            refine wpAnyH_take (i := 29) (oi := { dst := some 65, op := Op.move (Operand.tmp 9), type := 3, pos := "l15_either.go:66", after := #[{ on := 22, ground := Ground.guard }], guard := some (22, false) }) rfl (by kernel_rfl) (by kernel_rfl) (by kernel_rfl) (fun _ _ _ h => h) (Or.inr ⟨by rfl, rfl⟩) hHeld ?_
            try simp only [Act.put, List.setIfInBounds_toArray, List.set_cons_zero, List.set_cons_succ]
            refine wpAnyH_take (i := 30) (oi := { dst := some 66, op := Op.indexAddr 23 (Operand.tmp 64) (Operand.tmp 65), type := 0, pos := "l15_either.go:66", after := #[{ on := 28, ground := Ground.data }, { on := 29, ground := Ground.data }, { on := 22, ground := Ground.guard }], guard := some (22, false) }) rfl (by kernel_rfl) (by kernel_rfl) (by kernel_rfl) (fun _ _ _ h => h) (Or.inr ⟨by rfl, rfl⟩) hHeld ?_
            try simp only [Act.put, List.setIfInBounds_toArray, List.set_cons_zero, List.set_cons_succ]
            refine wpAnyH_take (i := 31) (oi := { dst := some 67, op := Op.fieldAddr 69 (Operand.tmp 66) 0, type := 0, pos := "l15_either.go:66", after := #[{ on := 30, ground := Ground.data }, { on := 22, ground := Ground.guard }], guard := some (22, false) }) rfl (by kernel_rfl) (by kernel_rfl) (by kernel_rfl) (fun _ _ _ h => h) (Or.inr ⟨by rfl, rfl⟩) hHeld ?_
            try simp only [Act.put, List.setIfInBounds_toArray, List.set_cons_zero, List.set_cons_succ]
            refine wpAnyH_take (i := 32) (oi := { dst := some 68, op := Op.load 3 (Operand.tmp 67), type := 3, pos := "l15_either.go:66", after := #[{ on := 31, ground := Ground.data }, { on := 22, ground := Ground.guard }], guard := some (22, false) }) rfl (by kernel_rfl) (by kernel_rfl) (by kernel_rfl) (fun _ _ _ h => h) (Or.inr ⟨by rfl, rfl⟩) hHeld ?_
            try simp only [Act.put, List.setIfInBounds_toArray, List.set_cons_zero, List.set_cons_succ]
            refine wpAnyH_take (i := 33) (oi := { dst := some 69, op := Op.binOp BinOp.neq 3 (Operand.tmp 63) (Operand.tmp 68) 3, type := 4, pos := "l15_either.go:66", after := #[{ on := 27, ground := Ground.data }, { on := 32, ground := Ground.data }, { on := 22, ground := Ground.guard }], guard := some (22, false) }) rfl (by kernel_rfl) (by kernel_rfl) (by kernel_rfl) (fun _ _ _ h => h) (Or.inr ⟨by rfl, rfl⟩) hHeld ?_
            try simp only [Act.put, List.setIfInBounds_toArray, List.set_cons_zero, List.set_cons_succ]
            refine wpAnyH_take (i := 34) (oi := { dst := some 70, op := Op.pick (Operand.tmp 58) (Operand.const (Value.bool true)) (Operand.tmp 69), type := 4, pos := "l15_either.go:66", after := #[{ on := 22, ground := Ground.data }, { on := 33, ground := Ground.data }], guard := none }) (v := ?_) rfl (by kernel_rfl) (by kernel_rfl) (by kernel_rfl) (fun _ _ _ h => h) (Or.inl ⟨by rfl, ?_⟩) hHeld ?_
            rotate_left
            · intro w hSw; obtain ⟨s0, s1, s2, s3, s4, s5, s6⟩ := hSw; (try dsimp only at hSw); go_simp; (try with_reducible rfl)
            try simp only [Act.put, List.setIfInBounds_toArray, List.set_cons_zero, List.set_cons_succ]
            refine wpAnyH_done (by kernel_rfl) ?_ _
            have HF := esec_no (ks := ks) (a := a) (b := b) (by unfold esecB goodsB; rw [HL.out, goodsK_no (l := b) hlt (by rw [E2.out, g2])]; simp)
            go_wp2
            go_ret3
            exact ⟨ret_iib HF.out.1 HF.out.2.1 HF.out.2.2, HBl2.out⟩
          exact AllReadyH.nil
        exact AllReadyH.nil
      rw [g2] at HGb
      by_cases hxx : x = x'
      · have e1 : (x != x') = false := by simp [hxx]
        have HXX := Lib.hid hxx
        clear hxx
        go_wp2
        refine wp_region_held_drew (S := fun w' => w'.cell? (p0.add k) = some (.int .i64 q) ∧ w'.cell? (p1.add (k * 3)) = some (.int .i64 x) ∧ w'.cell? ⟨(p1.add (k * 3)).block, (p1.add (k * 3)).off + 1, none⟩ = some (.int .i64 y) ∧ w'.cell? ⟨(p1.add (k * 3)).block, (p1.add (k * 3)).off + 2, none⟩ = some (.int .i64 z) ∧ w'.cell? (p2.add (k * 3)) = some (.int .i64 x') ∧ w'.cell? ⟨(p2.add (k * 3)).block, (p2.add (k * 3)).off + 1, none⟩ = some (.int .i64 y') ∧ w'.cell? ⟨(p2.add (k * 3)).block, (p2.add (k * 3)).off + 2, none⟩ = some (.int .i64 z')) (by kernel_rfl) ⟨(HB.out.cell (p := (p0.add k)) hbw_hbb).trans hcq, (HB.out.cell (p := (p1.add (k * 3))) hbw_hab).trans hcx, (HB.out.cell (p := ⟨(p1.add (k * 3)).block, (p1.add (k * 3)).off + 1, none⟩) hbw_hab).trans hcy, (HB.out.cell (p := ⟨(p1.add (k * 3)).block, (p1.add (k * 3)).off + 2, none⟩) hbw_hab).trans hcz, (HB.out.cell (p := (p2.add (k * 3))) hbw_hab2).trans hcx', (HB.out.cell (p := ⟨(p2.add (k * 3)).block, (p2.add (k * 3)).off + 1, none⟩) hbw_hab2).trans hcy', (HB.out.cell (p := ⟨(p2.add (k * 3)).block, (p2.add (k * 3)).off + 2, none⟩) hbw_hab2).trans hcz'⟩ (fun hHeld => ?_)
        obtain ⟨u0, hu0⟩ : ∃ u0, Hid (wr.drew = u0) := ⟨_, Lib.hid rfl⟩
        rw [hu0.out] at hHeld ⊢
        have zs0 : wr.heap.size = u0.heap.size := by rw [← hu0.out]; rfl
        replace zs0 := Nat.le_of_eq zs0
        have HBl0 : Hid (Below w.heap.size w u0) := Lib.hid (by rw [← hu0.out]; exact HB.out.drew)
        clear hu0
        refine wpAnyH_take (i := 0) (oi := { dst := some 36, op := Op.move (Operand.tmp 0), type := 22, pos := "l15_either.go:66", after := #[], guard := none }) (v := ?_) rfl (by kernel_rfl) (by kernel_rfl) (by kernel_rfl) (fun _ _ _ h => h) (Or.inl ⟨by rfl, ?_⟩) hHeld ?_
        rotate_left
        · intro w hSw; obtain ⟨s0, s1, s2, s3, s4, s5, s6⟩ := hSw; (try dsimp only at hSw); go_simp; (try with_reducible rfl)
        try simp only [Act.put, List.setIfInBounds_toArray, List.set_cons_zero, List.set_cons_succ]
        refine wpAnyH_take (i := 1) (oi := { dst := some 37, op := Op.move (Operand.tmp 9), type := 3, pos := "l15_either.go:66", after := #[], guard := none }) (v := ?_) rfl (by kernel_rfl) (by kernel_rfl) (by kernel_rfl) (fun _ _ _ h => h) (Or.inl ⟨by rfl, ?_⟩) hHeld ?_
        rotate_left
        · intro w hSw; obtain ⟨s0, s1, s2, s3, s4, s5, s6⟩ := hSw; (try dsimp only at hSw); go_simp; (try with_reducible rfl)
        try simp only [Act.put, List.setIfInBounds_toArray, List.set_cons_zero, List.set_cons_succ]
        refine wpAnyH_take (i := 2) (oi := { dst := some 38, op := Op.indexAddr 22 (Operand.tmp 36) (Operand.tmp 37), type := 0, pos := "l15_either.go:66", after := #[{ on := 0, ground := Ground.data }, { on := 1, ground := Ground.data }], guard := none }) (v := ?_) rfl (by kernel_rfl) (by kernel_rfl) (by kernel_rfl) (fun _ _ _ h => h) (Or.inl ⟨by rfl, ?_⟩) hHeld ?_
        rotate_left
        · intro w hSw; obtain ⟨s0, s1, s2, s3, s4, s5, s6⟩ := hSw; (try dsimp only at hSw); go_simp; (try with_reducible rfl)
        try simp only [Act.put, List.setIfInBounds_toArray, List.set_cons_zero, List.set_cons_succ]
        refine wpAnyH_take (i := 3) (oi := { dst := some 39, op := Op.load 3 (Operand.tmp 38), type := 3, pos := "l15_either.go:66", after := #[{ on := 2, ground := Ground.data }], guard := none }) (v := ?_) rfl (by kernel_rfl) (by kernel_rfl) (by kernel_rfl) (fun _ _ _ h => h) (Or.inl ⟨by rfl, ?_⟩) hHeld ?_
        rotate_left
        · intro w hSw; obtain ⟨s0, s1, s2, s3, s4, s5, s6⟩ := hSw; (try dsimp only at hSw); go_simp; (try with_reducible rfl)
        try simp only [Act.put, List.setIfInBounds_toArray, List.set_cons_zero, List.set_cons_succ]
        refine wpAnyH_take (i := 4) (oi := { dst := some 40, op := Op.move (Operand.tmp 1), type := 23, pos := "l15_either.go:66", after := #[], guard := none }) (v := ?_) rfl (by kernel_rfl) (by kernel_rfl) (by kernel_rfl) (fun _ _ _ h => h) (Or.inl ⟨by rfl, ?_⟩) hHeld ?_
        rotate_left
        · intro w hSw; obtain ⟨s0, s1, s2, s3, s4, s5, s6⟩ := hSw; (try dsimp only at hSw); go_simp; (try with_reducible rfl)
        try simp only [Act.put, List.setIfInBounds_toArray, List.set_cons_zero, List.set_cons_succ]
        refine wpAnyH_take (i := 5) (oi := { dst := some 41, op := Op.move (Operand.tmp 9), type := 3, pos := "l15_either.go:66", after := #[], guard := none }) (v := ?_) rfl (by kernel_rfl) (by kernel_rfl) (by kernel_rfl) (fun _ _ _ h => h) (Or.inl ⟨by rfl, ?_⟩) hHeld ?_
        rotate_left
        · intro w hSw; obtain ⟨s0, s1, s2, s3, s4, s5, s6⟩ := hSw; (try dsimp only at hSw); go_simp; (try with_reducible rfl)
        try simp only [Act.put, List.setIfInBounds_toArray, List.set_cons_zero, List.set_cons_succ]
        refine wpAnyH_take (i := 6) (oi := { dst := some 42, op := Op.indexAddr 23 (Operand.tmp 40) (Operand.tmp 41), type := 0, pos := "l15_either.go:66", after := #[{ on := 4, ground := Ground.data }, { on := 5, ground := Ground.data }], guard := none }) (v := ?_) rfl (by kernel_rfl) (by kernel_rfl) (by kernel_rfl) (fun _ _ _ h => h) (Or.inl ⟨by rfl, ?_⟩) hHeld ?_
        rotate_left
        · intro w hSw; obtain ⟨s0, s1, s2, s3, s4, s5, s6⟩ := hSw; (try dsimp only at hSw); go_simp; (try with_reducible rfl)
        try simp only [Act.put, List.setIfInBounds_toArray, List.set_cons_zero, List.set_cons_succ]
        refine wpAnyH_take (i := 7) (oi := { dst := some 43, op := Op.load 69 (Operand.tmp 42), type := 69, pos := "l15_either.go:66", after := #[{ on := 6, ground := Ground.data }], guard := none }) (v := ?_) rfl (by kernel_rfl) (by kernel_rfl) (by kernel_rfl) (fun _ _ _ h => h) (Or.inl ⟨by rfl, ?_⟩) hHeld ?_
        rotate_left
        · intro w hSw; obtain ⟨s0, s1, s2, s3, s4, s5, s6⟩ := hSw; (try dsimp only at hSw); go_simp; (try with_reducible rfl)
        try simp only [Act.put, List.setIfInBounds_toArray, List.set_cons_zero, List.set_cons_succ]
        refine wpAnyH_ready (rs := [8]) (by kernel_rfl) (by simp) ?_
        refine AllReadyH.cons (o := { dst := some 44, op := Op.call { callee := Callee.value (Operand.func 64), args := #[Operand.tmp 39, Operand.tmp 43], argTypes := #[3, 69] }, type := 4, pos := "l15_either.go:66", after := #[{ on := 3, ground := Ground.data }, { on := 7, ground := Ground.data }], guard := none }) rfl (fun K hK => ?_) ?_
        · go_simp
          refine (HGa.out u0).mono ?_
          rintro e u1 ⟨rfl, hb_⟩
          have zs1 : u0.heap.size ≤ u1.heap.size := hb_.size
          have HBl1 : Hid (Below w.heap.size w u1) := Lib.hid (HBl0.out.trans (hb_.mono HBl0.out.size))
          clear hHeld hb_ HBl0
          (try dsimp only)
          (try go_wp2_with fail)
          refine hK.out _ _ ⟨((HBl1.out.cell (p := (p0.add k)) hbw_hbb).trans hcq), ((HBl1.out.cell (p := (p1.add (k * 3))) hbw_hab).trans hcx), ((HBl1.out.cell (p := ⟨(p1.add (k * 3)).block, (p1.add (k * 3)).off + 1, none⟩) hbw_hab).trans hcy), ((HBl1.out.cell (p := ⟨(p1.add (k * 3)).block, (p1.add (k * 3)).off + 2, none⟩) hbw_hab).trans hcz), ((HBl1.out.cell (p := (p2.add (k * 3))) hbw_hab2).trans hcx'), ((HBl1.out.cell (p := ⟨(p2.add (k * 3)).block, (p2.add (k * 3)).off + 1, none⟩) hbw_hab2).trans hcy'), ((HBl1.out.cell (p := ⟨(p2.add (k * 3)).block, (p2.add (k * 3)).off + 2, none⟩) hbw_hab2).trans hcz')⟩ (fun hHeld => ?_)
          clear hK K
          try simp only [Act.put, List.setIfInBounds_toArray, List.set_cons_zero, List.set_cons_succ]
          refine wpAnyH_take (i := 9) (oi := { dst := some 45, op := Op.unOp UnOp.not 4 (Operand.tmp 44), type := 4, pos := "l15_either.go:66", after := #[{ on := 8, ground := Ground.data }], guard := none }) (v := ?_) rfl (by kernel_rfl) (by kernel_rfl) (by kernel_rfl) (fun _ _ _ h => h) (Or.inl ⟨by rfl, ?_⟩) hHeld ?_
          rotate_left
          · intro w hSw; obtain ⟨s0, s1, s2, s3, s4, s5, s6⟩ := hSw; (try dsimp only at hSw); go_simp; (try with_reducible rfl)
          try simp only [Act.put, List.setIfInBounds_toArray, List.set_cons_zero, List.set_cons_succ]
          refine wpAnyH_take (i := 10) (oi := { dst := some 46, op := Op.move (Operand.tmp 45), type := 4, pos := "l15_either.go:66", after := #[{ on := 9, ground := Ground.data }, { on := 8, ground := Ground.chain }], guard := none }) (v := ?_) rfl (by kernel_rfl) (by kernel_rfl) (by kernel_rfl) (fun _ _ _ h => h) (Or.inl ⟨by rfl, ?_⟩) hHeld ?_
          rotate_left
          · intro w hSw; obtain ⟨s0, s1, s2, s3, s4, s5, s6⟩ := hSw; (try dsimp only at hSw); go_simp; (try with_reducible rfl)
          try simp only [Act.put, List.setIfInBounds_toArray, List.set_cons_zero, List.set_cons_succ]
          refine wpAnyH_take (i := 11) (oi := { dst := some 47, op := Op.move (Operand.tmp 0), type := 22, pos := "l15_either.go:66", after := #[{ on := 10, ground := Ground.guard }], guard := some (10, false) }) (v := ?_) rfl (by kernel_rfl) (by kernel_rfl) (by kernel_rfl) (fun _ _ _ h => h) (Or.inl ⟨by rfl, ?_⟩) hHeld ?_
          rotate_left
          · intro w hSw; obtain ⟨s0, s1, s2, s3, s4, s5, s6⟩ := hSw; (try dsimp only at hSw); go_simp; (try with_reducible rfl)
          try simp only [Act.put, List.setIfInBounds_toArray, List.set_cons_zero, List.set_cons_succ]
          refine wpAnyH_take (i := 12) (oi := { dst := some 48, op := Op.move (Operand.tmp 9), type := 3, pos := "l15_either.go:66", after := #[{ on := 10, ground := Ground.guard }], guard := some (10, false) }) (v := ?_) rfl (by kernel_rfl) (by kernel_rfl) (by kernel_rfl) (fun _ _ _ h => h) (Or.inl ⟨by rfl, ?_⟩) hHeld ?_
          rotate_left
          · intro w hSw; obtain ⟨s0, s1, s2, s3, s4, s5, s6⟩ := hSw; (try dsimp only at hSw); go_simp; (try with_reducible rfl)
          try simp only [Act.put, List.setIfInBounds_toArray, List.set_cons_zero, List.set_cons_succ]
          refine wpAnyH_take (i := 13) (oi := { dst := some 49, op := Op.indexAddr 22 (Operand.tmp 47) (Operand.tmp 48), type := 0, pos := "l15_either.go:66", after := #[{ on := 11, ground := Ground.data }, { on := 12, ground := Ground.data }, { on := 10, ground := Ground.guard }], guard := some (10, false) }) (v := ?_) rfl (by kernel_rfl) (by kernel_rfl) (by kernel_rfl) (fun _ _ _ h => h) (Or.inl ⟨by rfl, ?_⟩) hHeld ?_
          rotate_left
          · intro w hSw; obtain ⟨s0, s1, s2, s3, s4, s5, s6⟩ := hSw; (try dsimp only at hSw); go_simp; (try with_reducible rfl)
          try simp only [Act.put, List.setIfInBounds_toArray, List.set_cons_zero, List.set_cons_succ]
          refine wpAnyH_take (i := 14) (oi := { dst := some 50, op := Op.load 3 (Operand.tmp 49), type := 3, pos := "l15_either.go:66", after := #[{ on := 13, ground := Ground.data }, { on := 10, ground := Ground.guard }], guard := some (10, false) }) (v := ?_) rfl (by kernel_rfl) (by kernel_rfl) (by kernel_rfl) (fun _ _ _ h => h) (Or.inl ⟨by rfl, ?_⟩) hHeld ?_
          rotate_left
          · intro w hSw; obtain ⟨s0, s1, s2, s3, s4, s5, s6⟩ := hSw; (try dsimp only at hSw); go_simp; (try with_reducible rfl)
          try simp only [Act.put, List.setIfInBounds_toArray, List.set_cons_zero, List.set_cons_succ]
          refine wpAnyH_take (i := 15) (oi := { dst := some 51, op := Op.move (Operand.tmp 2), type := 23, pos := "l15_either.go:66", after := #[{ on := 10, ground := Ground.guard }], guard := some (10, false) }) (v := ?_) rfl (by kernel_rfl) (by kernel_rfl) (by kernel_rfl) (fun _ _ _ h => h) (Or.inl ⟨by rfl, ?_⟩) hHeld ?_
          rotate_left
          · intro w hSw; obtain ⟨s0, s1, s2, s3, s4, s5, s6⟩ := hSw; (try dsimp only at hSw); go_simp; (try with_reducible rfl)
          try simp only [Act.put, List.setIfInBounds_toArray, List.set_cons_zero, List.set_cons_succ]
          refine wpAnyH_take (i := 16) (oi := { dst := some 52, op := Op.move (Operand.tmp 9), type := 3, pos := "l15_either.go:66", after := #[{ on := 10, ground := Ground.guard }], guard := some (10, false) }) (v := ?_) rfl (by kernel_rfl) (by kernel_rfl) (by kernel_rfl) (fun _ _ _ h => h) (Or.inl ⟨by rfl, ?_⟩) hHeld ?_
          rotate_left
          · intro w hSw; obtain ⟨s0, s1, s2, s3, s4, s5, s6⟩ := hSw; (try dsimp only at hSw); go_simp; (try with_reducible rfl)
          try simp only [Act.put, List.setIfInBounds_toArray, List.set_cons_zero, List.set_cons_succ]
          refine wpAnyH_take (i := 17) (oi := { dst := some 53, op := Op.indexAddr 23 (Operand.tmp 51) (Operand.tmp 52), type := 0, pos := "l15_either.go:66", after := #[{ on := 15, ground := Ground.data }, { on := 16, ground := Ground.data }, { on := 10, ground := Ground.guard }], guard := some (10, false) }) (v := ?_) rfl (by kernel_rfl) (by kernel_rfl) (by kernel_rfl) (fun _ _ _ h => h) (Or.inl ⟨by rfl, ?_⟩) hHeld ?_
          rotate_left
          · intro w hSw; obtain ⟨s0, s1, s2, s3, s4, s5, s6⟩ := hSw; (try dsimp only at hSw); go_simp; (try with_reducible rfl)
          try simp only [Act.put, List.setIfInBounds_toArray, List.set_cons_zero, List.set_cons_succ]
          refine wpAnyH_take (i := 18) (oi := { dst := some 54, op := Op.load 69 (Operand.tmp 53), type := 69, pos := "l15_either.go:66", after := #[{ on := 17, ground := Ground.data }, { on := 10, ground := Ground.guard }], guard := some (10, false) }) (v := ?_) rfl (by kernel_rfl) (by kernel_rfl) (by kernel_rfl) (fun _ _ _ h => h) (Or.inl ⟨by rfl, ?_⟩) hHeld ?_
          rotate_left
          · intro w hSw; obtain ⟨s0, s1, s2, s3, s4, s5, s6⟩ := hSw; (try dsimp only at hSw); go_simp; (try with_reducible rfl)
          try simp only [Act.put, List.setIfInBounds_toArray, List.set_cons_zero, List.set_cons_succ]
          refine wpAnyH_ready (rs := [19]) (by kernel_rfl) (by simp) ?_
          refine AllReadyH.cons (o := { dst := some 55, op := Op.call { callee := Callee.value (Operand.func 64), args := #[Operand.tmp 50, Operand.tmp 54], argTypes := #[3, 69] }, type := 4, pos := "l15_either.go:66", after := #[{ on := 14, ground := Ground.data }, { on := 18, ground := Ground.data }, { on := 10, ground := Ground.chain }, { on := 10, ground := Ground.guard }], guard := some (10, false) }) rfl (fun K hK => ?_) ?_
          · go_simp
            refine (HGb.out u1).mono ?_
            rintro e u2 ⟨rfl, hb_⟩
            have zs2 : u1.heap.size ≤ u2.heap.size := hb_.size
            have HBl2 : Hid (Below w.heap.size w u2) := Lib.hid (HBl1.out.trans (hb_.mono HBl1.out.size))
            clear hHeld hb_ HBl1
            (try dsimp only)
            (try go_wp2_with fail)
            refine hK.out _ _ ⟨((HBl2.out.cell (p := (p0.add k)) hbw_hbb).trans hcq), ((HBl2.out.cell (p := (p1.add (k * 3))) hbw_hab).trans hcx), ((HBl2.out.cell (p := ⟨(p1.add (k * 3)).block, (p1.add (k * 3)).off + 1, none⟩) hbw_hab).trans hcy), ((HBl2.out.cell (p := ⟨(p1.add (k * 3)).block, (p1.add (k * 3)).off + 2, none⟩) hbw_hab).trans hcz), ((HBl2.out.cell (p := (p2.add (k * 3))) hbw_hab2).trans hcx'), ((HBl2.out.cell (p := ⟨(p2.add (k * 3)).block, (p2.add (k * 3)).off + 1, none⟩) hbw_hab2).trans hcy'), ((HBl2.out.cell (p := ⟨(p2.add (k * 3)).block, (p2.add (k * 3)).off + 2, none⟩) hbw_hab2).trans hcz')⟩ (fun hHeld => ?_)
            clear hK K
            try simp only [Act.put, List.setIfInBounds_toArray, List.set_cons_zero, List.set_cons_succ]
            refine wpAnyH_take (i := 20) (oi := { dst := some 56, op := Op.unOp UnOp.not 4 (Operand.tmp 55), type := 4, pos := "l15_either.go:66", after := #[{ on := 19, ground := Ground.data }, { on := 10, ground := Ground.guard }], guard := some (10, false) }) (v := ?_) rfl (by kernel_rfl) (by kernel_rfl) (by kernel_rfl) (fun _ _ _ h => h) (Or.inl ⟨by rfl, ?_⟩) hHeld ?_
            rotate_left
            · intro w hSw; obtain ⟨s0, s1, s2, s3, s4, s5, s6⟩ := hSw; (try dsimp only at hSw); go_simp; (try with_reducible rfl)
            try simp only [Act.put, List.setIfInBounds_toArray, List.set_cons_zero, List.set_cons_succ]
            refine wpAnyH_take (i := 21) (oi := { dst := some 57, op := Op.pick (Operand.tmp 46) (Operand.const (Value.bool true)) (Operand.tmp 56), type := 4, pos := "l15_either.go:66", after := #[{ on := 10, ground := Ground.data }, { on := 20, ground := Ground.data }], guard := none }) (v := ?_) rfl (by kernel_rfl) (by kernel_rfl) (by kernel_rfl) (fun _ _ _ h => h) (Or.inl ⟨by rfl, ?_⟩) hHeld ?_
            rotate_left
            · intro w hSw; obtain ⟨s0, s1, s2, s3, s4, s5, s6⟩ := hSw; (try dsimp only at hSw); go_simp; (try with_reducible rfl)
            try simp only [Act.put, List.setIfInBounds_toArray, List.set_cons_zero, List.set_cons_succ]
            refine wpAnyH_take (i := 22) (oi := { dst := some 58, op := Op.move (Operand.tmp 57), type := 4, pos := "l15_either.go:66", after := #[{ on := 21, ground := Ground.data }, { on := 19, ground := Ground.chain }], guard := none }) (v := ?_) rfl (by kernel_rfl) (by kernel_rfl) (by kernel_rfl) (fun _ _ _ h => h) (Or.inl ⟨by rfl, ?_⟩) hHeld ?_
            rotate_left
            · intro w hSw; obtain ⟨s0, s1, s2, s3, s4, s5, s6⟩ := hSw; (try dsimp only at hSw); go_simp; (try with_reducible rfl)
            try simp only [Act.put, List.setIfInBounds_toArray, List.set_cons_zero, List.set_cons_succ]
            refine wpAnyH_take (i := 23) (oi := { dst := some 59, op := Op.move (Operand.tmp 1), type := 23, pos := "l15_either.go:66", after := #[{ on := 22, ground := Ground.guard }], guard := some (22, false) }) (v := ?_) rfl (by kernel_rfl) (by kernel_rfl) (by kernel_rfl) (fun _ _ _ h => h) (Or.inl ⟨by rfl, ?_⟩) hHeld ?_
            rotate_left
            · intro w hSw; obtain ⟨s0, s1, s2, s3, s4, s5, s6⟩ := hSw; (try dsimp only at hSw); go_simp; (try with_reducible rfl)
            try simp only [Act.put, List.setIfInBounds_toArray, List.set_cons_zero, List.set_cons_succ]
            refine wpAnyH_take (i := 24) (oi := { dst := some 60, op := Op.move (Operand.tmp 9), type := 3, pos := "l15_either.go:66", after := #[{ on := 22, ground := Ground.guard }], guard := some (22, false) }) (v := ?_) rfl (by kernel_rfl) (by kernel_rfl) (by kernel_rfl) (fun _ _ _ h => h) (Or.inl ⟨by rfl, ?_⟩) hHeld ?_
            rotate_left
            · intro w hSw; obtain ⟨s0, s1, s2, s3, s4, s5, s6⟩ := hSw; (try dsimp only at hSw); go_simp; (try with_reducible rfl)
            try simp only [Act.put, List.setIfInBounds_toArray, List.set_cons_zero, List.set_cons_succ]
            refine wpAnyH_take (i := 25) (oi := { dst := some 61, op := Op.indexAddr 23 (Operand.tmp 59) (Operand.tmp 60), type := 0, pos := "l15_either.go:66", after := #[{ on := 23, ground := Ground.data }, { on := 24, ground := Ground.data }, { on := 22, ground := Ground.guard }], guard := some (22, false) }) (v := ?_) rfl (by kernel_rfl) (by kernel_rfl) (by kernel_rfl) (fun _ _ _ h => h) (Or.inl ⟨by rfl, ?_⟩) hHeld ?_
            rotate_left
            · intro w hSw; obtain ⟨s0, s1, s2, s3, s4, s5, s6⟩ := hSw; (try dsimp only at hSw); go_simp; (try with_reducible rfl)
            try simp only [Act.put, List.setIfInBounds_toArray, List.set_cons_zero, List.set_cons_succ]
            refine wpAnyH_take (i := 26) (oi := { dst := some 62, op := Op.fieldAddr 69 (Operand.tmp 61) 0, type := 0, pos := "l15_either.go:66", after := #[{ on := 25, ground := Ground.data }, { on := 22, ground := Ground.guard }], guard := some (22, false) }) (v := ?_) rfl (by kernel_rfl) (by kernel_rfl) (by kernel_rfl) (fun _ _ _ h => h) (Or.inl ⟨by rfl, ?_⟩) hHeld ?_
            rotate_left
            · intro w hSw; obtain ⟨s0, s1, s2, s3, s4, s5, s6⟩ := hSw; (try dsimp only at hSw); go_simp; (try with_reducible rfl)
            try simp only [Act.put, List.setIfInBounds_toArray, List.set_cons_zero, List.set_cons_succ]
            refine wpAnyH_take (i := 27) (oi := { dst := some 63, op := Op.load 3 (Operand.tmp 62), type := 3, pos := "l15_either.go:66", after := #[{ on := 26, ground := Ground.data }, { on := 22, ground := Ground.guard }], guard := some (22, false) }) (v := ?_) rfl (by kernel_rfl) (by kernel_rfl) (by kernel_rfl) (fun _ _ _ h => h) (Or.inl ⟨by rfl, ?_⟩) hHeld ?_
            rotate_left
            · intro w hSw; obtain ⟨s0, s1, s2, s3, s4, s5, s6⟩ := hSw; (try dsimp only at hSw); go_simp; (try with_reducible rfl)
            try simp only [Act.put, List.setIfInBounds_toArray, List.set_cons_zero, List.set_cons_succ]
            refine wpAnyH_take (i := 28) (oi := { dst := some 64, op := Op.move (Operand.tmp 2), type := 23, pos := "l15_either.go:66", after := #[{ on := 22, ground := Ground.guard }], guard := some (22, false) }) (v := ?_) rfl (by kernel_rfl) (by kernel_rfl) (by kernel_rfl) (fun _ _ _ h => h) (Or.inl ⟨by rfl, ?_⟩) hHeld ?_
            rotate_left
            · intro w hSw; obtain ⟨s0, s1, s2, s3, s4, s5, s6⟩ := hSw; (try dsimp only at hSw); go_simp; (try with_reducible rfl)
            try simp only [Act.put, List.setIfInBounds_toArray, List.set_cons_zero, List.set_cons_succ]
            refine wpAnyH_take (i := 29) (oi := { dst := some 65, op := Op.move (Operand.tmp 9), type := 3, pos := "l15_either.go:66", after := #[{ on := 22, ground := Ground.guard }], guard := some (22, false) }) (v := ?_) rfl (by kernel_rfl) (by kernel_rfl) (by kernel_rfl) (fun _ _ _ h => h) (Or.inl ⟨by rfl, ?_⟩) hHeld ?_
            rotate_left
            · intro w hSw; obtain ⟨s0, s1, s2, s3, s4, s5, s6⟩ := hSw; (try dsimp only at hSw); go_simp; (try with_reducible rfl)
            try simp only [Act.put, List.setIfInBounds_toArray, List.set_cons_zero, List.set_cons_succ]
            refine wpAnyH_take (i := 30) (oi := { dst := some 66, op := Op.indexAddr 23 (Operand.tmp 64) (Operand.tmp 65), type := 0, pos := "l15_either.go:66", after := #[{ on := 28, ground := Ground.data }, { on := 29, ground := Ground.data }, { on := 22, ground := Ground.guard }], guard := some (22, false) }) (v := ?_) rfl (by kernel_rfl) (by kernel_rfl) (by kernel_rfl) (fun _ _ _ h => h) (Or.inl ⟨by rfl, ?_⟩) hHeld ?_
            rotate_left
            · intro w hSw; obtain ⟨s0, s1, s2, s3, s4, s5, s6⟩ := hSw; (try dsimp only at hSw); go_simp; (try with_reducible rfl)
            try simp only [Act.put, List.setIfInBounds_toArray, List.set_cons_zero, List.set_cons_succ]
            refine wpAnyH_take (i := 31) (oi := { dst := some 67, op := Op.fieldAddr 69 (Operand.tmp 66) 0, type := 0, pos := "l15_either.go:66", after := #[{ on := 30, ground := Ground.data }, { on := 22, ground := Ground.guard }], guard := some (22, false) }) (v := ?_) rfl (by kernel_rfl) (by kernel_rfl) (by kernel_rfl) (fun _ _ _ h => h) (Or.inl ⟨by rfl, ?_⟩) hHeld ?_
            rotate_left
            · intro w hSw; obtain ⟨s0, s1, s2, s3, s4, s5, s6⟩ := hSw; (try dsimp only at hSw); go_simp; (try with_reducible rfl)
            try simp only [Act.put, List.setIfInBounds_toArray, List.set_cons_zero, List.set_cons_succ]
            refine wpAnyH_take (i := 32) (oi := { dst := some 68, op := Op.load 3 (Operand.tmp 67), type := 3, pos := "l15_either.go:66", after := #[{ on := 31, ground := Ground.data }, { on := 22, ground := Ground.guard }], guard := some (22, false) }) (v := ?_) rfl (by kernel_rfl) (by kernel_rfl) (by kernel_rfl) (fun _ _ _ h => h) (Or.inl ⟨by rfl, ?_⟩) hHeld ?_
            rotate_left
            · intro w hSw; obtain ⟨s0, s1, s2, s3, s4, s5, s6⟩ := hSw; (try dsimp only at hSw); go_simp; (try with_reducible rfl)
            try simp only [Act.put, List.setIfInBounds_toArray, List.set_cons_zero, List.set_cons_succ]
            refine wpAnyH_take (i := 33) (oi := { dst := some 69, op := Op.binOp BinOp.neq 3 (Operand.tmp 63) (Operand.tmp 68) 3, type := 4, pos := "l15_either.go:66", after := #[{ on := 27, ground := Ground.data }, { on := 32, ground := Ground.data }, { on := 22, ground := Ground.guard }], guard := some (22, false) }) (v := ?_) rfl (by kernel_rfl) (by kernel_rfl) (by kernel_rfl) (fun _ _ _ h => h) (Or.inl ⟨by rfl, ?_⟩) hHeld ?_
            rotate_left
            · intro w hSw; obtain ⟨s0, s1, s2, s3, s4, s5, s6⟩ := hSw; (try dsimp only at hSw); go_simp; (try with_reducible rfl)
            try simp only [Act.put, List.setIfInBounds_toArray, List.set_cons_zero, List.set_cons_succ]
            refine wpAnyH_take (i := 34) (oi := { dst := some 70, op := Op.pick (Operand.tmp 58) (Operand.const (Value.bool true)) (Operand.tmp 69), type := 4, pos := "l15_either.go:66", after := #[{ on := 22, ground := Ground.data }, { on := 33, ground := Ground.data }], guard := none }) (v := ?_) rfl (by kernel_rfl) (by kernel_rfl) (by kernel_rfl) (fun _ _ _ h => h) (Or.inl ⟨by rfl, ?_⟩) hHeld ?_
            rotate_left
            · intro w hSw; obtain ⟨s0, s1, s2, s3, s4, s5, s6⟩ := hSw; (try dsimp only at hSw); go_simp; (try with_reducible rfl)
            try simp only [Act.put, List.setIfInBounds_toArray, List.set_cons_zero, List.set_cons_succ]
            refine wpAnyH_done (by kernel_rfl) ?_ _
            have GA2 : Hid (goodsK ks a (k + 1) = true) := Lib.hid (by unfold goodsK; rw [HGA.out, E1.out, g1]; rfl)
            have GB2 : Hid (goodsK ks b (k + 1) = true) := Lib.hid (by unfold goodsK; rw [HGB.out, E2.out, g2]; rfl)
            have CM2 : Hid (comsK a b (k + 1) = true) := Lib.hid (by unfold comsK; rw [HCM.out, E3.out.1, E3.out.2]; simp [HXX.out])
            clear HGA HGB HCM
            go_wp2
            go_roundw
            case rel => exact ⟨k + 1, by omega, by go_num, GA2, GB2, CM2, HBl2⟩
            case measure => simp [intOf] <;> omega
          exact AllReadyH.nil
        exact AllReadyH.nil
      have e1 : (x != x') = true := by simp [hxx]
      have HXX := Lib.hid hxx
      clear hxx
      go_wp2
      refine wp_region_held_drew (S := fun w' => w'.cell? (p0.add k) = some (.int .i64 q) ∧ w'.cell? (p1.add (k * 3)) = some (.int .i64 x) ∧ w'.cell? ⟨(p1.add (k * 3)).block, (p1.add (k * 3)).off + 1, none⟩ = some (.int .i64 y) ∧ w'.cell? ⟨(p1.add (k * 3)).block, (p1.add (k * 3)).off + 2, none⟩ = some (.int .i64 z) ∧ w'.cell? (p2.add (k * 3)) = some (.int .i64 x') ∧ w'.cell? ⟨(p2.add (k * 3)).block, (p2.add (k * 3)).off + 1, none⟩ = some (.int .i64 y') ∧ w'.cell? ⟨(p2.add (k * 3)).block, (p2.add (k * 3)).off + 2, none⟩ = some (.int .i64 z')) (by kernel_rfl) ⟨(HB.out.cell (p := (p0.add k)) hbw_hbb).trans hcq, (HB.out.cell (p := (p1.add (k * 3))) hbw_hab).trans hcx, (HB.out.cell (p := ⟨(p1.add (k * 3)).block, (p1.add (k * 3)).off + 1, none⟩) hbw_hab).trans hcy, (HB.out.cell (p := ⟨(p1.add (k * 3)).block, (p1.add (k * 3)).off + 2, none⟩) hbw_hab).trans hcz, (HB.out.cell (p := (p2.add (k * 3))) hbw_hab2).trans hcx', (HB.out.cell (p := ⟨(p2.add (k * 3)).block, (p2.add (k * 3)).off + 1, none⟩) hbw_hab2).trans hcy', (HB.out.cell (p := ⟨(p2.add (k * 3)).block, (p2.add (k * 3)).off + 2, none⟩) hbw_hab2).trans hcz'⟩ (fun hHeld => ?_)
      obtain ⟨u0, hu0⟩ : ∃ u0, Hid (wr.drew = u0) := ⟨_, Lib.hid rfl⟩
      rw [hu0.out] at hHeld ⊢
      have zs0 : wr.heap.size = u0.heap.size := by rw [← hu0.out]; rfl
      replace zs0 := Nat.le_of_eq zs0
      have HBl0 : Hid (Below w.heap.size w u0) := Lib.hid (by rw [← hu0.out]; exact HB.out.drew)
      clear hu0
      refine wpAnyH_take (i := 0) (oi := { dst := some 36, op := Op.move (Operand.tmp 0), type := 22, pos := "l15_either.go:66", after := #[], guard := none }) (v := ?_) rfl (by kernel_rfl) (by kernel_rfl) (by kernel_rfl) (fun _ _ _ h => h) (Or.inl ⟨by rfl, ?_⟩) hHeld ?_
      rotate_left
      · intro w hSw; obtain ⟨s0, s1, s2, s3, s4, s5, s6⟩ := hSw; (try dsimp only at hSw); go_simp; (try with_reducible rfl)
      try simp only [Act.put, List.setIfInBounds_toArray, List.set_cons_zero, List.set_cons_succ]
      refine wpAnyH_take (i := 1) (oi := { dst := some 37, op := Op.move (Operand.tmp 9), type := 3, pos := "l15_either.go:66", after := #[], guard := none }) (v := ?_) rfl (by kernel_rfl) (by kernel_rfl) (by kernel_rfl) (fun _ _ _ h => h) (Or.inl ⟨by rfl, ?_⟩) hHeld ?_
      rotate_left
      · intro w hSw; obtain ⟨s0, s1, s2, s3, s4, s5, s6⟩ := hSw; (try dsimp only at hSw); go_simp; (try with_reducible rfl)
      try simp only [Act.put, List.setIfInBounds_toArray, List.set_cons_zero, List.set_cons_succ]
      refine wpAnyH_take (i := 2) (oi := { dst := some 38, op := Op.indexAddr 22 (Operand.tmp 36) (Operand.tmp 37), type := 0, pos := "l15_either.go:66", after := #[{ on := 0, ground := Ground.data }, { on := 1, ground := Ground.data }], guard := none }) (v := ?_) rfl (by kernel_rfl) (by kernel_rfl) (by kernel_rfl) (fun _ _ _ h => h) (Or.inl ⟨by rfl, ?_⟩) hHeld ?_
      rotate_left
      · intro w hSw; obtain ⟨s0, s1, s2, s3, s4, s5, s6⟩ := hSw; (try dsimp only at hSw); go_simp; (try with_reducible rfl)
      try simp only [Act.put, List.setIfInBounds_toArray, List.set_cons_zero, List.set_cons_succ]
      refine wpAnyH_take (i := 3) (oi := { dst := some 39, op := Op.load 3 (Operand.tmp 38), type := 3, pos := "l15_either.go:66", after := #[{ on := 2, ground := Ground.data }], guard := none }) (v := ?_) rfl (by kernel_rfl) (by kernel_rfl) (by kernel_rfl) (fun _ _ _ h => h) (Or.inl ⟨by rfl, ?_⟩) hHeld ?_
      rotate_left
      · intro w hSw; obtain ⟨s0, s1, s2, s3, s4, s5, s6⟩ := hSw; (try dsimp only at hSw); go_simp; (try with_reducible rfl)
      try simp only [Act.put, List.setIfInBounds_toArray, List.set_cons_zero, List.set_cons_succ]
      refine wpAnyH_take (i := 4) (oi := { dst := some 40, op := Op.move (Operand.tmp 1), type := 23, pos := "l15_either.go:66", after := #[], guard := none }) (v := ?_) rfl (by kernel_rfl) (by kernel_rfl) (by kernel_rfl) (fun _ _ _ h => h) (Or.inl ⟨by rfl, ?_⟩) hHeld ?_
      rotate_left
      · intro w hSw; obtain ⟨s0, s1, s2, s3, s4, s5, s6⟩ := hSw; (try dsimp only at hSw); go_simp; (try with_reducible rfl)
      try simp only [Act.put, List.setIfInBounds_toArray, List.set_cons_zero, List.set_cons_succ]
      refine wpAnyH_take (i := 5) (oi := { dst := some 41, op := Op.move (Operand.tmp 9), type := 3, pos := "l15_either.go:66", after := #[], guard := none }) (v := ?_) rfl (by kernel_rfl) (by kernel_rfl) (by kernel_rfl) (fun _ _ _ h => h) (Or.inl ⟨by rfl, ?_⟩) hHeld ?_
      rotate_left
      · intro w hSw; obtain ⟨s0, s1, s2, s3, s4, s5, s6⟩ := hSw; (try dsimp only at hSw); go_simp; (try with_reducible rfl)
      try simp only [Act.put, List.setIfInBounds_toArray, List.set_cons_zero, List.set_cons_succ]
      refine wpAnyH_take (i := 6) (oi := { dst := some 42, op := Op.indexAddr 23 (Operand.tmp 40) (Operand.tmp 41), type := 0, pos := "l15_either.go:66", after := #[{ on := 4, ground := Ground.data }, { on := 5, ground := Ground.data }], guard := none }) (v := ?_) rfl (by kernel_rfl) (by kernel_rfl) (by kernel_rfl) (fun _ _ _ h => h) (Or.inl ⟨by rfl, ?_⟩) hHeld ?_
      rotate_left
      · intro w hSw; obtain ⟨s0, s1, s2, s3, s4, s5, s6⟩ := hSw; (try dsimp only at hSw); go_simp; (try with_reducible rfl)
      try simp only [Act.put, List.setIfInBounds_toArray, List.set_cons_zero, List.set_cons_succ]
      refine wpAnyH_take (i := 7) (oi := { dst := some 43, op := Op.load 69 (Operand.tmp 42), type := 69, pos := "l15_either.go:66", after := #[{ on := 6, ground := Ground.data }], guard := none }) (v := ?_) rfl (by kernel_rfl) (by kernel_rfl) (by kernel_rfl) (fun _ _ _ h => h) (Or.inl ⟨by rfl, ?_⟩) hHeld ?_
      rotate_left
      · intro w hSw; obtain ⟨s0, s1, s2, s3, s4, s5, s6⟩ := hSw; (try dsimp only at hSw); go_simp; (try with_reducible rfl)
      try simp only [Act.put, List.setIfInBounds_toArray, List.set_cons_zero, List.set_cons_succ]
      refine wpAnyH_ready (rs := [8]) (by kernel_rfl) (by simp) ?_
      refine AllReadyH.cons (o := { dst := some 44, op := Op.call { callee := Callee.value (Operand.func 64), args := #[Operand.tmp 39, Operand.tmp 43], argTypes := #[3, 69] }, type := 4, pos := "l15_either.go:66", after := #[{ on := 3, ground := Ground.data }, { on := 7, ground := Ground.data }], guard := none }) rfl (fun K hK => ?_) ?_
      · go_simp
        refine (HGa.out u0).mono ?_
        rintro e u1 ⟨rfl, hb_⟩
        have zs1 : u0.heap.size ≤ u1.heap.size := hb_.size
        have HBl1 : Hid (Below w.heap.size w u1) := Lib.hid (HBl0.out.trans (hb_.mono HBl0.out.size))
        clear hHeld hb_ HBl0
        (try dsimp only)
        (try go_wp2_with fail)
        refine hK.out _ _ ⟨((HBl1.out.cell (p := (p0.add k)) hbw_hbb).trans hcq), ((HBl1.out.cell (p := (p1.add (k * 3))) hbw_hab).trans hcx), ((HBl1.out.cell (p := ⟨(p1.add (k * 3)).block, (p1.add (k * 3)).off + 1, none⟩) hbw_hab).trans hcy), ((HBl1.out.cell (p := ⟨(p1.add (k * 3)).block, (p1.add (k * 3)).off + 2, none⟩) hbw_hab).trans hcz), ((HBl1.out.cell (p := (p2.add (k * 3))) hbw_hab2).trans hcx'), ((HBl1.out.cell (p := ⟨(p2.add (k * 3)).block, (p2.add (k * 3)).off + 1, none⟩) hbw_hab2).trans hcy'), ((HBl1.out.cell (p := ⟨(p2.add (k * 3)).block, (p2.add (k * 3)).off + 2, none⟩) hbw_hab2).trans hcz')⟩ (fun hHeld => ?_)
        clear hK K
        try simp only [Act.put, List.setIfInBounds_toArray, List.set_cons_zero, List.set_cons_succ]
        refine wpAnyH_take (i := 9) (oi := { dst := some 45, op := Op.unOp UnOp.not 4 (Operand.tmp 44), type := 4, pos := "l15_either.go:66", after := #[{ on := 8, ground := Ground.data }], guard := none }) (v := ?_) rfl (by kernel_rfl) (by kernel_rfl) (by kernel_rfl) (fun _ _ _ h => h) (Or.inl ⟨by rfl, ?_⟩) hHeld ?_
        rotate_left
        · intro w hSw; obtain ⟨s0, s1, s2, s3, s4, s5, s6⟩ := hSw; (try dsimp only at hSw); go_simp; (try with_reducible rfl)
        try simp only [Act.put, List.setIfInBounds_toArray, List.set_cons_zero, List.set_cons_succ]
        refine wpAnyH_take (i := 10) (oi := { dst := some 46, op := Op.move (Operand.tmp 45), type := 4, pos := "l15_either.go:66", after := #[{ on := 9, ground := Ground.data }, { on := 8, ground := Ground.chain }], guard := none }) (v := ?_) rfl (by kernel_rfl) (by kernel_rfl) (by kernel_rfl) (fun _ _ _ h => h) (Or.inl ⟨by rfl, ?_⟩) hHeld ?_
        rotate_left
        · intro w hSw; obtain ⟨s0, s1, s2, s3, s4, s5, s6⟩ := hSw; (try dsimp only at hSw); go_simp; (try with_reducible rfl)
        try simp only [Act.put, List.setIfInBounds_toArray, List.set_cons_zero, List.set_cons_succ]
        refine wpAnyH_take (i := 11) (oi := { dst := some 47, op := Op.move (Operand.tmp 0), type := 22, pos := "l15_either.go:66", after := #[{ on := 10, ground := Ground.guard }], guard := some (10, false) }) (v := ?_) rfl (by kernel_rfl) (by kernel_rfl) (by kernel_rfl) (fun _ _ _ h => h) (Or.inl ⟨by rfl, ?_⟩) hHeld ?_
        rotate_left
        · intro w hSw; obtain ⟨s0, s1, s2, s3, s4, s5, s6⟩ := hSw; (try dsimp only at hSw); go_simp; (try with_reducible rfl)
        try simp only [Act.put, List.setIfInBounds_toArray, List.set_cons_zero, List.set_cons_succ]
        refine wpAnyH_take (i := 12) (oi := { dst := some 48, op := Op.move (Operand.tmp 9), type := 3, pos := "l15_either.go:66", after := #[{ on := 10, ground := Ground.guard }], guard := some (10, false) }) (v := ?_) rfl (by kernel_rfl) (by kernel_rfl) (by kernel_rfl) (fun _ _ _ h => h) (Or.inl ⟨by rfl, ?_⟩) hHeld ?_
        rotate_left
        · intro w hSw; obtain ⟨s0, s1, s2, s3, s4, s5, s6⟩ := hSw; (try dsimp only at hSw); go_simp; (try with_reducible rfl)
        try simp only [Act.put, List.setIfInBounds_toArray, List.set_cons_zero, List.set_cons_succ]
        refine wpAnyH_take (i := 13) (oi := { dst := some 49, op := Op.indexAddr 22 (Operand.tmp 47) (Operand.tmp 48), type := 0, pos := "l15_either.go:66", after := #[{ on := 11, ground := Ground.data }, { on := 12, ground := Ground.data }, { on := 10, ground := Ground.guard }], guard := some (10, false) }) (v := ?_) rfl (by kernel_rfl) (by kernel_rfl) (by kernel_rfl) (fun _ _ _ h => h) (Or.inl ⟨by rfl, ?_⟩) hHeld ?_
        rotate_left
        · intro w hSw; obtain ⟨s0, s1, s2, s3, s4, s5, s6⟩ := hSw; (try dsimp only at hSw); go_simp; (try with_reducible rfl)
        try simp only [Act.put, List.setIfInBounds_toArray, List.set_cons_zero, List.set_cons_succ]
        refine wpAnyH_take (i := 14) (oi := { dst := some 50, op := Op.load 3 (Operand.tmp 49), type := 3, pos := "l15_either.go:66", after := #[{ on := 13, ground := Ground.data }, { on := 10, ground := Ground.guard }], guard := some (10, false) }) (v := ?_) rfl (by kernel_rfl) (by kernel_rfl) (by kernel_rfl) (fun _ _ _ h => h) (Or.inl ⟨by rfl, ?_⟩) hHeld ?_
        rotate_left
        · intro w hSw; obtain ⟨s0, s1, s2, s3, s4, s5, s6⟩ := hSw; (try dsimp only at hSw); go_simp; (try with_reducible rfl)
        try simp only [Act.put, List.setIfInBounds_toArray, List.set_cons_zero, List.set_cons_succ]
        refine wpAnyH_take (i := 15) (oi := { dst := some 51, op := Op.move (Operand.tmp 2), type := 23, pos := "l15_either.go:66", after := #[{ on := 10, ground := Ground.guard }], guard := some (10, false) }) (v := ?_) rfl (by kernel_rfl) (by kernel_rfl) (by kernel_rfl) (fun _ _ _ h => h) (Or.inl ⟨by rfl, ?_⟩) hHeld ?_
        rotate_left
        · intro w hSw; obtain ⟨s0, s1, s2, s3, s4, s5, s6⟩ := hSw; (try dsimp only at hSw); go_simp; (try with_reducible rfl)
        try simp only [Act.put, List.setIfInBounds_toArray, List.set_cons_zero, List.set_cons_succ]
        refine wpAnyH_take (i := 16) (oi := { dst := some 52, op := Op.move (Operand.tmp 9), type := 3, pos := "l15_either.go:66", after := #[{ on := 10, ground := Ground.guard }], guard := some (10, false) }) (v := ?_) rfl (by kernel_rfl) (by kernel_rfl) (by kernel_rfl) (fun _ _ _ h => h) (Or.inl ⟨by rfl, ?_⟩) hHeld ?_
        rotate_left
        · intro w hSw; obtain ⟨s0, s1, s2, s3, s4, s5, s6⟩ := hSw; (try dsimp only at hSw); go_simp; (try with_reducible rfl)
        try simp only [Act.put, List.setIfInBounds_toArray, List.set_cons_zero, List.set_cons_succ]
        refine wpAnyH_take (i := 17) (oi := { dst := some 53, op := Op.indexAddr 23 (Operand.tmp 51) (Operand.tmp 52), type := 0, pos := "l15_either.go:66", after := #[{ on := 15, ground := Ground.data }, { on := 16, ground := Ground.data }, { on := 10, ground := Ground.guard }], guard := some (10, false) }) (v := ?_) rfl (by kernel_rfl) (by kernel_rfl) (by kernel_rfl) (fun _ _ _ h => h) (Or.inl ⟨by rfl, ?_⟩) hHeld ?_
        rotate_left
        · intro w hSw; obtain ⟨s0, s1, s2, s3, s4, s5, s6⟩ := hSw; (try dsimp only at hSw); go_simp; (try with_reducible rfl)
        try simp only [Act.put, List.setIfInBounds_toArray, List.set_cons_zero, List.set_cons_succ]
        refine wpAnyH_take (i := 18) (oi := { dst := some 54, op := Op.load 69 (Operand.tmp 53), type := 69, pos := "l15_either.go:66", after := #[{ on := 17, ground := Ground.data }, { on := 10, ground := Ground.guard }], guard := some (10, false) }) (v := ?_) rfl (by kernel_rfl) (by kernel_rfl) (by kernel_rfl) (fun _ _ _ h => h) (Or.inl ⟨by rfl, ?_⟩) hHeld ?_
        rotate_left
        · intro w hSw; obtain ⟨s0, s1, s2, s3, s4, s5, s6⟩ := hSw; (try dsimp only at hSw); go_simp; (try with_reducible rfl)
        try simp only [Act.put, List.setIfInBounds_toArray, List.set_cons_zero, List.set_cons_succ]
        refine wpAnyH_ready (rs := [19]) (by kernel_rfl) (by simp) ?_
        refine AllReadyH.cons (o := { dst := some 55, op := Op.call { callee := Callee.value (Operand.func 64), args := #[Operand.tmp 50, Operand.tmp 54], argTypes := #[3, 69] }, type := 4, pos := "l15_either.go:66", after := #[{ on := 14, ground := Ground.data }, { on := 18, ground := Ground.data }, { on := 10, ground := Ground.chain }, { on := 10, ground := Ground.guard }], guard := some (10, false) }) rfl (fun K hK => ?_) ?_
        · go_simp
          refine (HGb.out u1).mono ?_
          rintro e u2 ⟨rfl, hb_⟩
          have zs2 : u1.heap.size ≤ u2.heap.size := hb_.size
          have HBl2 : Hid (Below w.heap.size w u2) := Lib.hid (HBl1.out.trans (hb_.mono HBl1.out.size))
          clear hHeld hb_ HBl1
          (try dsimp only)
          (try go_wp2_with fail)
          refine hK.out _ _ ⟨((HBl2.out.cell (p := (p0.add k)) hbw_hbb).trans hcq), ((HBl2.out.cell (p := (p1.add (k * 3))) hbw_hab).trans hcx), ((HBl2.out.cell (p := ⟨(p1.add (k * 3)).block, (p1.add (k * 3)).off + 1, none⟩) hbw_hab).trans hcy), ((HBl2.out.cell (p := ⟨(p1.add (k * 3)).block, (p1.add (k * 3)).off + 2, none⟩) hbw_hab).trans hcz), ((HBl2.out.cell (p := (p2.add (k * 3))) hbw_hab2).trans hcx'), ((HBl2.out.cell (p := ⟨(p2.add (k * 3)).block, (p2.add (k * 3)).off + 1, none⟩) hbw_hab2).trans hcy'), ((HBl2.out.cell (p := ⟨(p2.add (k * 3)).block, (p2.add (k * 3)).off + 2, none⟩) hbw_hab2).trans hcz')⟩ (fun hHeld => ?_)
          clear hK K
          try simp only [Act.put, List.setIfInBounds_toArray, List.set_cons_zero, List.set_cons_succ]
          refine wpAnyH_take (i := 20) (oi := { dst := some 56, op := Op.unOp UnOp.not 4 (Operand.tmp 55), type := 4, pos := "l15_either.go:66", after := #[{ on := 19, ground := Ground.data }, { on := 10, ground := Ground.guard }], guard := some (10, false) }) (v := ?_) rfl (by kernel_rfl) (by kernel_rfl) (by kernel_rfl) (fun _ _ _ h => h) (Or.inl ⟨by rfl, ?_⟩) hHeld ?_
          rotate_left
          · intro w hSw; obtain ⟨s0, s1, s2, s3, s4, s5, s6⟩ := hSw; (try dsimp only at hSw); go_simp; (try with_reducible rfl)
          try simp only [Act.put, List.setIfInBounds_toArray, List.set_cons_zero, List.set_cons_succ]
          refine wpAnyH_take (i := 21) (oi := { dst := some 57, op := Op.pick (Operand.tmp 46) (Operand.const (Value.bool true)) (Operand.tmp 56), type := 4, pos := "l15_either.go:66", after := #[{ on := 10, ground := Ground.data }, { on := 20, ground := Ground.data }], guard := none }) (v := ?_) rfl (by kernel_rfl) (by kernel_rfl) (by kernel_rfl) (fun _ _ _ h => h) (Or.inl ⟨by rfl, ?_⟩) hHeld ?_
          rotate_left
          · intro w hSw; obtain ⟨s0, s1, s2, s3, s4, s5, s6⟩ := hSw; (try dsimp only at hSw); go_simp; (try with_reducible rfl)
          try simp only [Act.put, List.setIfInBounds_toArray, List.set_cons_zero, List.set_cons_succ]
          refine wpAnyH_take (i := 22) (oi := { dst := some 58, op := Op.move (Operand.tmp 57), type := 4, pos := "l15_either.go:66", after := #[{ on := 21, ground := Ground.data }, { on := 19, ground := Ground.chain }], guard := none }) (v := ?_) rfl (by kernel_rfl) (by kernel_rfl) (by kernel_rfl) (fun _ _ _ h => h) (Or.inl ⟨by rfl, ?_⟩) hHeld ?_
          rotate_left
          · intro w hSw; obtain ⟨s0, s1, s2, s3, s4, s5, s6⟩ := hSw; (try dsimp only at hSw); go_simp; (try with_reducible rfl)
          try simp only [Act.put, List.setIfInBounds_toArray, List.set_cons_zero, List.set_cons_succ]
          refine wpAnyH_take (i := 23) (oi := { dst := some 59, op := Op.move (Operand.tmp 1), type := 23, pos := "l15_either.go:66", after := #[{ on := 22, ground := Ground.guard }], guard := some (22, false) }) (v := ?_) rfl (by kernel_rfl) (by kernel_rfl) (by kernel_rfl) (fun _ _ _ h => h) (Or.inl ⟨by rfl, ?_⟩) hHeld ?_
          rotate_left
          · intro w hSw; obtain ⟨s0, s1, s2, s3, s4, s5, s6⟩ := hSw; (try dsimp only at hSw); go_simp; (try with_reducible rfl)
          try simp only [Act.put, List.setIfInBounds_toArray, List.set_cons_zero, List.set_cons_succ]
          refine wpAnyH_take (i := 24) (oi := { dst := some 60, op := Op.move (Operand.tmp 9), type := 3, pos := "l15_either.go:66", after := #[{ on := 22, ground := Ground.guard }], guard := some (22, false) }) (v := ?_) rfl (by kernel_rfl) (by kernel_rfl) (by kernel_rfl) (fun _ _ _ h => h) (Or.inl ⟨by rfl, ?_⟩) hHeld ?_
          rotate_left
          · intro w hSw; obtain ⟨s0, s1, s2, s3, s4, s5, s6⟩ := hSw; (try dsimp only at hSw); go_simp; (try with_reducible rfl)
          try simp only [Act.put, List.setIfInBounds_toArray, List.set_cons_zero, List.set_cons_succ]
          refine wpAnyH_take (i := 25) (oi := { dst := some 61, op := Op.indexAddr 23 (Operand.tmp 59) (Operand.tmp 60), type := 0, pos := "l15_either.go:66", after := #[{ on := 23, ground := Ground.data }, { on := 24, ground := Ground.data }, { on := 22, ground := Ground.guard }], guard := some (22, false) }) (v := ?_) rfl (by kernel_rfl) (by kernel_rfl) (by kernel_rfl) (fun _ _ _ h => h) (Or.inl ⟨by rfl, ?_⟩) hHeld ?_
          rotate_left
          · intro w hSw; obtain ⟨s0, s1, s2, s3, s4, s5, s6⟩ := hSw; (try dsimp only at hSw); go_simp; (try with_reducible rfl)
          try simp only [Act.put, List.setIfInBounds_toArray, List.set_cons_zero, List.set_cons_succ]
          refine wpAnyH_take (i := 26) (oi := { dst := some 62, op := Op.fieldAddr 69 (Operand.tmp 61) 0, type := 0, pos := "l15_either.go:66", after := #[{ on := 25, ground := Ground.data }, { on := 22, ground := Ground.guard }], guard := some (22, false) }) (v := ?_) rfl (by kernel_rfl) (by kernel_rfl) (by kernel_rfl) (fun _ _ _ h => h) (Or.inl ⟨by rfl, ?_⟩) hHeld ?_
          rotate_left
          · intro w hSw; obtain ⟨s0, s1, s2, s3, s4, s5, s6⟩ := hSw; (try dsimp only at hSw); go_simp; (try with_reducible rfl)
          try simp only [Act.put, List.setIfInBounds_toArray, List.set_cons_zero, List.set_cons_succ]
          refine wpAnyH_take (i := 27) (oi := { dst := some 63, op := Op.load 3 (Operand.tmp 62), type := 3, pos := "l15_either.go:66", after := #[{ on := 26, ground := Ground.data }, { on := 22, ground := Ground.guard }], guard := some (22, false) }) (v := ?_) rfl (by kernel_rfl) (by kernel_rfl) (by kernel_rfl) (fun _ _ _ h => h) (Or.inl ⟨by rfl, ?_⟩) hHeld ?_
          rotate_left
          · intro w hSw; obtain ⟨s0, s1, s2, s3, s4, s5, s6⟩ := hSw; (try dsimp only at hSw); go_simp; (try with_reducible rfl)
          try simp only [Act.put, List.setIfInBounds_toArray, List.set_cons_zero, List.set_cons_succ]
          refine wpAnyH_take (i := 28) (oi := { dst := some 64, op := Op.move (Operand.tmp 2), type := 23, pos := "l15_either.go:66", after := #[{ on := 22, ground := Ground.guard }], guard := some (22, false) }) (v := ?_) rfl (by kernel_rfl) (by kernel_rfl) (by kernel_rfl) (fun _ _ _ h => h) (Or.inl ⟨by rfl, ?_⟩) hHeld ?_
          rotate_left
          · intro w hSw; obtain ⟨s0, s1, s2, s3, s4, s5, s6⟩ := hSw; (try dsimp only at hSw); go_simp; (try with_reducible rfl)
          try simp only [Act.put, List.setIfInBounds_toArray, List.set_cons_zero, List.set_cons_succ]
          refine wpAnyH_take (i := 29) (oi := { dst := some 65, op := Op.move (Operand.tmp 9), type := 3, pos := "l15_either.go:66", after := #[{ on := 22, ground := Ground.guard }], guard := some (22, false) }) (v := ?_) rfl (by kernel_rfl) (by kernel_rfl) (by kernel_rfl) (fun _ _ _ h => h) (Or.inl ⟨by rfl, ?_⟩) hHeld ?_
          rotate_left
          · intro w hSw; obtain ⟨s0, s1, s2, s3, s4, s5, s6⟩ := hSw; (try dsimp only at hSw); go_simp; (try with_reducible rfl)
          try simp only [Act.put, List.setIfInBounds_toArray, List.set_cons_zero, List.set_cons_succ]
          refine wpAnyH_take (i := 30) (oi := { dst := some 66, op := Op.indexAddr 23 (Operand.tmp 64) (Operand.tmp 65), type := 0, pos := "l15_either.go:66", after := #[{ on := 28, ground := Ground.data }, { on := 29, ground := Ground.data }, { on := 22, ground := Ground.guard }], guard := some (22, false) }) (v := ?_) rfl (by kernel_rfl) (by kernel_rfl) (by kernel_rfl) (fun _ _ _ h => h) (Or.inl ⟨by rfl, ?_⟩) hHeld ?_
          rotate_left
          · intro w hSw; obtain ⟨s0, s1, s2, s3, s4, s5, s6⟩ := hSw; (try dsimp only at hSw); go_simp; (try with_reducible rfl)
          try simp only [Act.put, List.setIfInBounds_toArray, List.set_cons_zero, List.set_cons_succ]
          refine wpAnyH_take (i := 31) (oi := { dst := some 67, op := Op.fieldAddr 69 (Operand.tmp 66) 0, type := 0, pos := "l15_either.go:66", after := #[{ on := 30, ground := Ground.data }, { on := 22, ground := Ground.guard }], guard := some (22, false) }) (v := ?_) rfl (by kernel_rfl) (by kernel_rfl) (by kernel_rfl) (fun _ _ _ h => h) (Or.inl ⟨by rfl, ?_⟩) hHeld ?_
          rotate_left
          · intro w hSw; obtain ⟨s0, s1, s2, s3, s4, s5, s6⟩ := hSw; (try dsimp only at hSw); go_simp; (try with_reducible rfl)
          try simp only [Act.put, List.setIfInBounds_toArray, List.set_cons_zero, List.set_cons_succ]
          refine wpAnyH_take (i := 32) (oi := { dst := some 68, op := Op.load 3 (Operand.tmp 67), type := 3, pos := "l15_either.go:66", after := #[{ on := 31, ground := Ground.data }, { on := 22, ground := Ground.guard }], guard := some (22, false) }) (v := ?_) rfl (by kernel_rfl) (by kernel_rfl) (by kernel_rfl) (fun _ _ _ h => h) (Or.inl ⟨by rfl, ?_⟩) hHeld ?_
          rotate_left
          · intro w hSw; obtain ⟨s0, s1, s2, s3, s4, s5, s6⟩ := hSw; (try dsimp only at hSw); go_simp; (try with_reducible rfl)
          try simp only [Act.put, List.setIfInBounds_toArray, List.set_cons_zero, List.set_cons_succ]
          refine wpAnyH_take (i := 33) (oi := { dst := some 69, op := Op.binOp BinOp.neq 3 (Operand.tmp 63) (Operand.tmp 68) 3, type := 4, pos := "l15_either.go:66", after := #[{ on := 27, ground := Ground.data }, { on := 32, ground := Ground.data }, { on := 22, ground := Ground.guard }], guard := some (22, false) }) (v := ?_) rfl (by kernel_rfl) (by kernel_rfl) (by kernel_rfl) (fun _ _ _ h => h) (Or.inl ⟨by rfl, ?_⟩) hHeld ?_
          rotate_left
          · intro w hSw; obtain ⟨s0, s1, s2, s3, s4, s5, s6⟩ := hSw; (try dsimp only at hSw); go_simp; (try with_reducible rfl)
          try simp only [Act.put, List.setIfInBounds_toArray, List.set_cons_zero, List.set_cons_succ]
          refine wpAnyH_take (i := 34) (oi := { dst := some 70, op := Op.pick (Operand.tmp 58) (Operand.const (Value.bool true)) (Operand.tmp 69), type := 4, pos := "l15_either.go:66", after := #[{ on := 22, ground := Ground.data }, { on := 33, ground := Ground.data }], guard := none }) (v := ?_) rfl (by kernel_rfl) (by kernel_rfl) (by kernel_rfl) (fun _ _ _ h => h) (Or.inl ⟨by rfl, ?_⟩) hHeld ?_
          rotate_left
          · intro w hSw; obtain ⟨s0, s1, s2, s3, s4, s5, s6⟩ := hSw; (try dsimp only at hSw); go_simp; (try with_reducible rfl)
          try simp only [Act.put, List.setIfInBounds_toArray, List.set_cons_zero, List.set_cons_succ]
          refine wpAnyH_done (by kernel_rfl) ?_ _
          have HF := esec_no (ks := ks) (a := a) (b := b) (by unfold esecB; rw [HL.out, comsK_no hlt (by rw [E3.out.1, E3.out.2]; exact HXX.out)]; simp)
          go_wp2
          go_ret3
          exact ⟨ret_iib HF.out.1 HF.out.2.1 HF.out.2.2, HBl2.out⟩
        exact AllReadyH.nil
      exact AllReadyH.nil
    · have GA2 : Hid (goodsK ks a n1 = true) := Lib.hid (by rw [show n1 = k by omega]; exact HGA.out)
      have GB2 : Hid (goodsK ks b n1 = true) := Lib.hid (by rw [show n1 = k by omega]; exact HGB.out)
      have CM2 : Hid (comsK a b n1 = true) := Lib.hid (by rw [show n1 = k by omega]; exact HCM.out)
      have HA2 : Hid (goodsB ks a = true) := Lib.hid (by unfold goodsB; rw [HL1.out, HL.out, GA2.out]; simp)
      have HB3 : Hid (goodsB ks b = true) := Lib.hid (by unfold goodsB; rw [HL2.out, HL.out, GB2.out]; simp)
      clear HGA HGB HCM
      have HB1 := HB
      clear HB
      go_wp2_with fail
      refine (s_l15Chal _ _ _ w.heap.size a _ (H1.out.below HB1.out) hn (chals_of GA2.out)).mono ?_
      rintro e w' ⟨rfl, rfl⟩
      go_wp2_with fail
      refine (s_l15Chal _ _ _ w.heap.size b _ (H2.out.below HB1.out) hn (chals_of GB2.out)).mono ?_
      rintro e w' ⟨rfl, rfl⟩
      by_cases hcn : chalK a n1 = chalK b n1
      · have e1 : (chalK a n1 == chalK b n1) = true := by rw [beq_iff_eq]; exact hcn
        have HF := esec_no (ks := ks) (a := a) (b := b) (by unfold esecB; rw [HL.out]; simp [hcn])
        go_wp2
        go_ret3
        exact ⟨ret_iib HF.out.1 HF.out.2.1 HF.out.2.2, HB1.out⟩
      have e1 : (chalK a n1 == chalK b n1) = false := by rw [beq_eq_false_iff_ne]; exact hcn
      have HCN := Lib.hid hcn
      have HGA := GA2
      have HGB := GB2
      have HCM := CM2
      clear hcn GA2 GB2 CM2 hk hlt
      go_wp2
      go_loopw [10] (fun i wr => ∃ k : Nat, k ≤ n1 ∧ i = .int .i64 k ∧ Hid (diffP a b n1 n1 = diffP a b n1 (n1 - k)) ∧ Hid (Below w.heap.size w wr)) (fun i _ => n1 - (intOf i).toNat)
      case atStart => exact ⟨0, Nat.zero_le _, rfl, Lib.hid rfl, HB1⟩
      case round =>
        obtain ⟨k, hk, rfl, HD, HB⟩ := hrel
        by_cases hlt : k < n1
        · obtain ⟨p0, q, rfl, hbb, hcq, HQ⟩ := H.out.intAt hlt
          obtain ⟨p1, x, y, z, rfl, hab, hcx, hcy, hcz, HP⟩ := H1.out.ProofAt hlt
          obtain ⟨p2, x', y', z', rfl, hab', hcx', hcy', hcz', HP'⟩ := H2.out.ProofAt hlt
          have i0 : (0 : Int) ≤ (k : Int) := by omega
          have i1 : (k : Int) < (n1 : Int) := by omega
          have hbw_hbb : (p0.add k).block < w.heap.size := by rw [add_block]; exact hbb
          have hbw_hab : (p1.add (k * 3)).block < w.heap.size := by rw [add_block]; exact hab
          have hbw_hab2 : (p2.add (k * 3)).block < w.heap.size := by rw [add_block]; exact hab'
          have g1 := goodsK_at HGA.out hlt
          have g2 := goodsK_at HGB.out hlt
          have hcm := comsK_at HCM.out hlt
          rw [← HQ.out, HP.out] at g1
          rw [← HQ.out, HP'.out] at g2
          rw [HP.out, HP'.out] at hcm
          have hxx : x = x' := hcm
          have HDS := Lib.hid (diffP_step (a := a) (b := b) hlt)
          rw [HP.out, HP'.out] at HDS
          have G1 : Hid (goodB q x y z = true) := Lib.hid g1
          have G2 : Hid (goodB q x' y' z' = true) := Lib.hid g2
          have HXX := Lib.hid hxx
          clear g1 g2 hcm hxx HQ
          by_cases hyy : y = y'
          · have HD2 : Hid (diffP a b n1 n1 = diffP a b n1 (n1 - (k + 1))) := Lib.hid (by rw [HD.out, HDS.out]; exact if_pos hyy)
            have HSB : Hid (secB q x y z x' y' z' = false) := Lib.hid (by unfold secB; rw [G1.out, G2.out]; simp [hyy])
            have HSP : Hid (∀ W : World, Calls Try.prog 70 #[.int .i64 q, .agg #[.int .i64 x, .int .i64 y, .int .i64 z], .agg #[.int .i64 x', .int .i64 y', .int .i64 z']] W fun e w' => e = .returned (.tuple #[.int .i64 (secV q x y z x' y' z'), .bool false]) ∧ Below W.heap.size W w') := Lib.hid fun W => by rw [← HSB.out]; exact X_s_ProofSecret q x y z x' y' z' W
            have HDX := HD
            clear HD HDS HP HP' hyy G1 G2 HXX HSB
            have fq := (HB.out.cell (p := p0.add k) hbw_hbb).trans hcq
            go_wp2
            refine wp_region_held_drew (S := fun w' => w'.cell? (p0.add k) = some (.int .i64 q) ∧ w'.cell? (p1.add (k * 3)) = some (.int .i64 x) ∧ w'.cell? ⟨(p1.add (k * 3)).block, (p1.add (k * 3)).off + 1, none⟩ = some (.int .i64 y) ∧ w'.cell? ⟨(p1.add (k * 3)).block, (p1.add (k * 3)).off + 2, none⟩ = some (.int .i64 z) ∧ w'.cell? (p2.add (k * 3)) = some (.int .i64 x') ∧ w'.cell? ⟨(p2.add (k * 3)).block, (p2.add (k * 3)).off + 1, none⟩ = some (.int .i64 y') ∧ w'.cell? ⟨(p2.add (k * 3)).block, (p2.add (k * 3)).off + 2, none⟩ = some (.int .i64 z')) (by kernel_rfl) ⟨(HB.out.cell (p := (p0.add k)) hbw_hbb).trans hcq, (HB.out.cell (p := (p1.add (k * 3))) hbw_hab).trans hcx, (HB.out.cell (p := ⟨(p1.add (k * 3)).block, (p1.add (k * 3)).off + 1, none⟩) hbw_hab).trans hcy, (HB.out.cell (p := ⟨(p1.add (k * 3)).block, (p1.add (k * 3)).off + 2, none⟩) hbw_hab).trans hcz, (HB.out.cell (p := (p2.add (k * 3))) hbw_hab2).trans hcx', (HB.out.cell (p := ⟨(p2.add (k * 3)).block, (p2.add (k * 3)).off + 1, none⟩) hbw_hab2).trans hcy', (HB.out.cell (p := ⟨(p2.add (k * 3)).block, (p2.add (k * 3)).off + 2, none⟩) hbw_hab2).trans hcz'⟩ (fun hHeld => ?_)
            obtain ⟨u0, hu0⟩ : ∃ u0, Hid (wr.drew = u0) := ⟨_, Lib.hid rfl⟩
            rw [hu0.out] at hHeld ⊢
            have zs0 : wr.heap.size = u0.heap.size := by rw [← hu0.out]; rfl
            replace zs0 := Nat.le_of_eq zs0
            have HBl0 : Hid (Below w.heap.size w u0) := Lib.hid (by rw [← hu0.out]; exact HB.out.drew)
            clear hu0
            refine wpAnyH_take (i := 0) (oi := { dst := some 83, op := Op.move (Operand.tmp 0), type := 22, pos := "l15_either.go:74", after := #[], guard := none }) (v := ?_) rfl (by kernel_rfl) (by kernel_rfl) (by kernel_rfl) (fun _ _ _ h => h) (Or.inl ⟨by rfl, ?_⟩) hHeld ?_
            rotate_left
            · intro w hSw; obtain ⟨s0, s1, s2, s3, s4, s5, s6⟩ := hSw; (try dsimp only at hSw); go_simp; (try with_reducible rfl)
            try simp only [Act.put, List.setIfInBounds_toArray, List.set_cons_zero, List.set_cons_succ]
            refine wpAnyH_take (i := 1) (oi := { dst := some 84, op := Op.move (Operand.tmp 10), type := 3, pos := "l15_either.go:74", after := #[], guard := none }) (v := ?_) rfl (by kernel_rfl) (by kernel_rfl) (by kernel_rfl) (fun _ _ _ h => h) (Or.inl ⟨by rfl, ?_⟩) hHeld ?_
            rotate_left
            · intro w hSw; obtain ⟨s0, s1, s2, s3, s4, s5, s6⟩ := hSw; (try dsimp only at hSw); go_simp; (try with_reducible rfl)
            try simp only [Act.put, List.setIfInBounds_toArray, List.set_cons_zero, List.set_cons_succ]
            refine wpAnyH_take (i := 2) (oi := { dst := some 85, op := Op.indexAddr 22 (Operand.tmp 83) (Operand.tmp 84), type := 0, pos := "l15_either.go:74", after := #[{ on := 0, ground := Ground.data }, { on := 1, ground := Ground.data }], guard := none }) (v := ?_) rfl (by kernel_rfl) (by kernel_rfl) (by kernel_rfl) (fun _ _ _ h => h) (Or.inl ⟨by rfl, ?_⟩) hHeld ?_
            rotate_left
            · intro w hSw; obtain ⟨s0, s1, s2, s3, s4, s5, s6⟩ := hSw; (try dsimp only at hSw); go_simp; (try with_reducible rfl)
            try simp only [Act.put, List.setIfInBounds_toArray, List.set_cons_zero, List.set_cons_succ]
            refine wpAnyH_take (i := 3) (oi := { dst := some 86, op := Op.load 3 (Operand.tmp 85), type := 3, pos := "l15_either.go:74", after := #[{ on := 2, ground := Ground.data }], guard := none }) (v := ?_) rfl (by kernel_rfl) (by kernel_rfl) (by kernel_rfl) (fun _ _ _ h => h) (Or.inl ⟨by rfl, ?_⟩) hHeld ?_
            rotate_left
            · intro w hSw; obtain ⟨s0, s1, s2, s3, s4, s5, s6⟩ := hSw; (try dsimp only at hSw); go_simp; (try with_reducible rfl)
            try simp only [Act.put, List.setIfInBounds_toArray, List.set_cons_zero, List.set_cons_succ]
            refine wpAnyH_take (i := 4) (oi := { dst := some 87, op := Op.move (Operand.tmp 1), type := 23, pos := "l15_either.go:74", after := #[], guard := none }) (v := ?_) rfl (by kernel_rfl) (by kernel_rfl) (by kernel_rfl) (fun _ _ _ h => h) (Or.inl ⟨by rfl, ?_⟩) hHeld ?_
            rotate_left
            · intro w hSw; obtain ⟨s0, s1, s2, s3, s4, s5, s6⟩ := hSw; (try dsimp only at hSw); go_simp; (try with_reducible rfl)
            try simp only [Act.put, List.setIfInBounds_toArray, List.set_cons_zero, List.set_cons_succ]
            refine wpAnyH_take (i := 5) (oi := { dst := some 88, op := Op.move (Operand.tmp 10), type := 3, pos := "l15_either.go:74", after := #[], guard := none }) (v := ?_) rfl (by kernel_rfl) (by kernel_rfl) (by kernel_rfl) (fun _ _ _ h => h) (Or.inl ⟨by rfl, ?_⟩) hHeld ?_
            rotate_left
            · intro w hSw; obtain ⟨s0, s1, s2, s3, s4, s5, s6⟩ := hSw; (try dsimp only at hSw); go_simp; (try with_reducible rfl)
            try simp only [Act.put, List.setIfInBounds_toArray, List.set_cons_zero, List.set_cons_succ]
            refine wpAnyH_take (i := 6) (oi := { dst := some 89, op := Op.indexAddr 23 (Operand.tmp 87) (Operand.tmp 88), type := 0, pos := "l15_either.go:74", after := #[{ on := 4, ground := Ground.data }, { on := 5, ground := Ground.data }], guard := none }) (v := ?_) rfl (by kernel_rfl) (by kernel_rfl) (by kernel_rfl) (fun _ _ _ h => h) (Or.inl ⟨by rfl, ?_⟩) hHeld ?_
            rotate_left
            · intro w hSw; obtain ⟨s0, s1, s2, s3, s4, s5, s6⟩ := hSw; (try dsimp only at hSw); go_simp; (try with_reducible rfl)
            try simp only [Act.put, List.setIfInBounds_toArray, List.set_cons_zero, List.set_cons_succ]
            refine wpAnyH_take (i := 7) (oi := { dst := some 90, op := Op.load 69 (Operand.tmp 89), type := 69, pos := "l15_either.go:74", after := #[{ on := 6, ground := Ground.data }], guard := none }) (v := ?_) rfl (by kernel_rfl) (by kernel_rfl) (by kernel_rfl) (fun _ _ _ h => h) (Or.inl ⟨by rfl, ?_⟩) hHeld ?_
            rotate_left
            · intro w hSw; obtain ⟨s0, s1, s2, s3, s4, s5, s6⟩ := hSw; (try dsimp only at hSw); go_simp; (try with_reducible rfl)
            try simp only [Act.put, List.setIfInBounds_toArray, List.set_cons_zero, List.set_cons_succ]
            refine wpAnyH_take (i := 8) (oi := { dst := some 91, op := Op.move (Operand.tmp 2), type := 23, pos := "l15_either.go:74", after := #[], guard := none }) (v := ?_) rfl (by kernel_rfl) (by kernel_rfl) (by kernel_rfl) (fun _ _ _ h => h) (Or.inl ⟨by rfl, ?_⟩) hHeld ?_
            rotate_left
            · intro w hSw; obtain ⟨s0, s1, s2, s3, s4, s5, s6⟩ := hSw; (try dsimp only at hSw); go_simp; (try with_reducible rfl)
            try simp only [Act.put, List.setIfInBounds_toArray, List.set_cons_zero, List.set_cons_succ]
            refine wpAnyH_take (i := 9) (oi := { dst := some 92, op := Op.move (Operand.tmp 10), type := 3, pos := "l15_either.go:74", after := #[], guard := none }) (v := ?_) rfl (by kernel_rfl) (by kernel_rfl) (by kernel_rfl) (fun _ _ _ h => h) (Or.inl ⟨by rfl, ?_⟩) hHeld ?_
            rotate_left
            · intro w hSw; obtain ⟨s0, s1, s2, s3, s4, s5, s6⟩ := hSw; (try dsimp only at hSw); go_simp; (try with_reducible rfl)
            try simp only [Act.put, List.setIfInBounds_toArray, List.set_cons_zero, List.set_cons_succ]
            refine wpAnyH_take (i := 10) (oi := { dst := some 93, op := Op.indexAddr 23 (Operand.tmp 91) (Operand.tmp 92), type := 0, pos := "l15_either.go:74", after := #[{ on := 8, ground := Ground.data }, { on := 9, ground := Ground.data }], guard := none }) (v := ?_) rfl (by kernel_rfl) (by kernel_rfl) (by kernel_rfl) (fun _ _ _ h => h) (Or.inl ⟨by rfl, ?_⟩) hHeld ?_
            rotate_left
            · intro w hSw; obtain ⟨s0, s1, s2, s3, s4, s5, s6⟩ := hSw; (try dsimp only at hSw); go_simp; (try with_reducible rfl)
            try simp only [Act.put, List.setIfInBounds_toArray, List.set_cons_zero, List.set_cons_succ]
            refine wpAnyH_take (i := 11) (oi := { dst := some 94, op := Op.load 69 (Operand.tmp 93), type := 69, pos := "l15_either.go:74", after := #[{ on := 10, ground := Ground.data }], guard := none }) (v := ?_) rfl (by kernel_rfl) (by kernel_rfl) (by kernel_rfl) (fun _ _ _ h => h) (Or.inl ⟨by rfl, ?_⟩) hHeld ?_
            rotate_left
            · intro w hSw; obtain ⟨s0, s1, s2, s3, s4, s5, s6⟩ := hSw; (try dsimp only at hSw); go_simp; (try with_reducible rfl)
            try simp only [Act.put, List.setIfInBounds_toArray, List.set_cons_zero, List.set_cons_succ]
            refine wpAnyH_ready (rs := [12]) (by kernel_rfl) (by simp) ?_
            refine AllReadyH.cons (o := { dst := some 95, op := Op.call { callee := Callee.value (Operand.func 70), args := #[Operand.tmp 86, Operand.tmp 90, Operand.tmp 94], argTypes := #[3, 69, 69] }, type := 90, pos := "l15_either.go:74", after := #[{ on := 3, ground := Ground.data }, { on := 7, ground := Ground.data }, { on := 11, ground := Ground.data }], guard := none }) rfl (fun K hK => ?_) ?_
            · go_simp
              refine (HSP.out u0).mono ?_
              rintro e u1 ⟨rfl, hb_⟩
              have zs1 : u0.heap.size ≤ u1.heap.size := hb_.size
              have HBl1 : Hid (Below w.heap.size w u1) := Lib.hid (HBl0.out.trans (hb_.mono HBl0.out.size))
              clear hHeld hb_ HBl0
              (try dsimp only)
              (try go_wp2_with fail)
              refine hK.out _ _ ⟨((HBl1.out.cell (p := (p0.add k)) hbw_hbb).trans hcq), ((HBl1.out.cell (p := (p1.add (k * 3))) hbw_hab).trans hcx), ((HBl1.out.cell (p := ⟨(p1.add (k * 3)).block, (p1.add (k * 3)).off + 1, none⟩) hbw_hab).trans hcy), ((HBl1.out.cell (p := ⟨(p1.add (k * 3)).block, (p1.add (k * 3)).off + 2, none⟩) hbw_hab).trans hcz), ((HBl1.out.cell (p := (p2.add (k * 3))) hbw_hab2).trans hcx'), ((HBl1.out.cell (p := ⟨(p2.add (k * 3)).block, (p2.add (k * 3)).off + 1, none⟩) hbw_hab2).trans hcy'), ((HBl1.out.cell (p := ⟨(p2.add (k * 3)).block, (p2.add (k * 3)).off + 2, none⟩) hbw_hab2).trans hcz')⟩ (fun hHeld => ?_)
              clear hK K
              try simp only [Act.put, List.setIfInBounds_toArray, List.set_cons_zero, List.set_cons_succ]
              refine wpAnyH_take (i := 13) (oi := { dst := some 82, op := Op.move (Operand.tmp 95), type := 90, pos := "l15_either.go:74", after := #[{ on := 12, ground := Ground.data }], guard := none }) (v := ?_) rfl (by kernel_rfl) (by kernel_rfl) (by kernel_rfl) (fun _ _ _ h => h) (Or.inl ⟨by rfl, ?_⟩) hHeld ?_
              rotate_left
              · intro w hSw; obtain ⟨s0, s1, s2, s3, s4, s5, s6⟩ := hSw; (try dsimp only at hSw); go_simp; (try with_reducible rfl)
              try simp only [Act.put, List.setIfInBounds_toArray, List.set_cons_zero, List.set_cons_succ]
              refine wpAnyH_take (i := 14) (oi := { dst := some 96, op := Op.extract (Operand.tmp 82) 0, type := 3, pos := "l15_either.go:74", after := #[{ on := 13, ground := Ground.data }], guard := none }) (v := ?_) rfl (by kernel_rfl) (by kernel_rfl) (by kernel_rfl) (fun _ _ _ h => h) (Or.inl ⟨by rfl, ?_⟩) hHeld ?_
              rotate_left
              · intro w hSw; obtain ⟨s0, s1, s2, s3, s4, s5, s6⟩ := hSw; (try dsimp only at hSw); go_simp; (try with_reducible rfl)
              try simp only [Act.put, List.setIfInBounds_toArray, List.set_cons_zero, List.set_cons_succ]
              refine wpAnyH_take (i := 15) (oi := { dst := some 97, op := Op.extract (Operand.tmp 82) 1, type := 4, pos := "l15_either.go:74", after := #[{ on := 13, ground := Ground.data }, { on := 16, ground := Ground.gcOnly Departure.lateStores }], guard := none }) (v := ?_) rfl (by kernel_rfl) (by kernel_rfl) (by kernel_rfl) (fun _ _ _ h => h) (Or.inl ⟨by rfl, ?_⟩) hHeld ?_
              rotate_left
              · intro w hSw; obtain ⟨s0, s1, s2, s3, s4, s5, s6⟩ := hSw; (try dsimp only at hSw); go_simp; (try with_reducible rfl)
              try simp only [Act.put, List.setIfInBounds_toArray, List.set_cons_zero, List.set_cons_succ]
              refine wpAnyH_take (i := 16) (oi := { dst := some 11, op := Op.assign (Operand.tmp 96), type := 3, pos := "l15_either.go:74", after := #[{ on := 14, ground := Ground.data }, { on := 12, ground := Ground.chain }, { on := 0, ground := Ground.phase }, { on := 1, ground := Ground.phase }, { on := 2, ground := Ground.phase }, { on := 3, ground := Ground.phase }, { on := 4, ground := Ground.phase }, { on := 5, ground := Ground.phase }, { on := 6, ground := Ground.phase }, { on := 7, ground := Ground.phase }, { on := 8, ground := Ground.phase }, { on := 9, ground := Ground.phase }, { on := 10, ground := Ground.phase }, { on := 11, ground := Ground.phase }, { on := 12, ground := Ground.phase }, { on := 13, ground := Ground.phase }, { on := 14, ground := Ground.phase }, { on := 15, ground := Ground.textOnly Departure.lateStores }], guard := none }) (v := ?_) rfl (by kernel_rfl) (by kernel_rfl) (by kernel_rfl) (fun _ _ _ h => h) (Or.inl ⟨by rfl, ?_⟩) hHeld ?_
              rotate_left
              · intro w hSw; obtain ⟨s0, s1, s2, s3, s4, s5, s6⟩ := hSw; (try dsimp only at hSw); go_simp; (try with_reducible rfl)
              try simp only [Act.put, List.setIfInBounds_toArray, List.set_cons_zero, List.set_cons_succ]
              refine wpAnyH_take (i := 17) (oi := { dst := some 12, op := Op.assign (Operand.tmp 97), type := 4, pos := "l15_either.go:74", after := #[{ on := 15, ground := Ground.data }, { on := 16, ground := Ground.chain }, { on := 0, ground := Ground.phase }, { on := 1, ground := Ground.phase }, { on := 2, ground := Ground.phase }, { on := 3, ground := Ground.phase }, { on := 4, ground := Ground.phase }, { on := 5, ground := Ground.phase }, { on := 6, ground := Ground.phase }, { on := 7, ground := Ground.phase }, { on := 8, ground := Ground.phase }, { on := 9, ground := Ground.phase }, { on := 10, ground := Ground.phase }, { on := 11, ground := Ground.phase }, { on := 12, ground := Ground.phase }, { on := 13, ground := Ground.phase }, { on := 14, ground := Ground.phase }, { on := 15, ground := Ground.phase }, { on := 16, ground := Ground.phase }], guard := none }) (v := ?_) rfl (by kernel_rfl) (by kernel_rfl) (by kernel_rfl) (fun _ _ _ h => h) (Or.inl ⟨by rfl, ?_⟩) hHeld ?_
              rotate_left
              · intro w hSw; obtain ⟨s0, s1, s2, s3, s4, s5, s6⟩ := hSw; (try dsimp only at hSw); go_simp; (try with_reducible rfl)
              try simp only [Act.put, List.setIfInBounds_toArray, List.set_cons_zero, List.set_cons_succ]
              refine wpAnyH_done (by kernel_rfl) ?_ _
              clear HDX
              go_wp2
              go_roundw
              case rel => exact ⟨k + 1, by omega, by go_num, HD2, HBl1⟩
              case measure => simp [intOf] <;> omega
            exact AllReadyH.nil
          · have HPK : Hid (diffP a b n1 n1 = k) := Lib.hid (by rw [HD.out, HDS.out]; exact if_neg hyy)
            have HY := esec_yes (k := k) HKB.out HA2.out HB3.out (by rw [HL.out]; exact HCM.out) (by rw [HL.out]; exact HCN.out) (by rw [HL.out]; exact HPK.out) (by rw [HL.out]; exact hlt)
            rw [HP.out, HP'.out] at HY
            have hsb : secB q x y z x' y' z' = true := by unfold secB; rw [G1.out, G2.out]; simp [HXX.out, hyy]
            have HSP : Hid (∀ W : World, Calls Try.prog 70 #[.int .i64 q, .agg #[.int .i64 x, .int .i64 y, .int .i64 z], .agg #[.int .i64 x', .int .i64 y', .int .i64 z']] W fun e w' => e = .returned (.tuple #[.int .i64 (secI (x, y, z) (x', y', z')), .bool true]) ∧ Below W.heap.size W w') := Lib.hid fun W => by
              have h0 := X_s_ProofSecret q x y z x' y' z' W
              rw [hsb, show secV q x y z x' y' z' = secI (x, y, z) (x', y', z') by unfold secV; rw [if_pos hsb]; rfl] at h0
              exact h0
            clear HD HDS HP HP' hyy G1 G2 HXX hsb
            have fq := (HB.out.cell (p := p0.add k) hbw_hbb).trans hcq
            go_wp2
            refine wp_region_held_drew (S := fun w' => w'.cell? (p0.add k) = some (.int .i64 q) ∧ w'.cell? (p1.add (k * 3)) = some (.int .i64 x) ∧ w'.cell? ⟨(p1.add (k * 3)).block, (p1.add (k * 3)).off + 1, none⟩ = some (.int .i64 y) ∧ w'.cell? ⟨(p1.add (k * 3)).block, (p1.add (k * 3)).off + 2, none⟩ = some (.int .i64 z) ∧ w'.cell? (p2.add (k * 3)) = some (.int .i64 x') ∧ w'.cell? ⟨(p2.add (k * 3)).block, (p2.add (k * 3)).off + 1, none⟩ = some (.int .i64 y') ∧ w'.cell? ⟨(p2.add (k * 3)).block, (p2.add (k * 3)).off + 2, none⟩ = some (.int .i64 z')) (by kernel_rfl) ⟨(HB.out.cell (p := (p0.add k)) hbw_hbb).trans hcq, (HB.out.cell (p := (p1.add (k * 3))) hbw_hab).trans hcx, (HB.out.cell (p := ⟨(p1.add (k * 3)).block, (p1.add (k * 3)).off + 1, none⟩) hbw_hab).trans hcy, (HB.out.cell (p := ⟨(p1.add (k * 3)).block, (p1.add (k * 3)).off + 2, none⟩) hbw_hab).trans hcz, (HB.out.cell (p := (p2.add (k * 3))) hbw_hab2).trans hcx', (HB.out.cell (p := ⟨(p2.add (k * 3)).block, (p2.add (k * 3)).off + 1, none⟩) hbw_hab2).trans hcy', (HB.out.cell (p := ⟨(p2.add (k * 3)).block, (p2.add (k * 3)).off + 2, none⟩) hbw_hab2).trans hcz'⟩ (fun hHeld => ?_)
            obtain ⟨u0, hu0⟩ : ∃ u0, Hid (wr.drew = u0) := ⟨_, Lib.hid rfl⟩
            rw [hu0.out] at hHeld ⊢
            have zs0 : wr.heap.size = u0.heap.size := by rw [← hu0.out]; rfl
            replace zs0 := Nat.le_of_eq zs0
            have HBl0 : Hid (Below w.heap.size w u0) := Lib.hid (by rw [← hu0.out]; exact HB.out.drew)
            clear hu0
            refine wpAnyH_take (i := 0) (oi := { dst := some 83, op := Op.move (Operand.tmp 0), type := 22, pos := "l15_either.go:74", after := #[], guard := none }) (v := ?_) rfl (by kernel_rfl) (by kernel_rfl) (by kernel_rfl) (fun _ _ _ h => h) (Or.inl ⟨by rfl, ?_⟩) hHeld ?_
            rotate_left
            · intro w hSw; obtain ⟨s0, s1, s2, s3, s4, s5, s6⟩ := hSw; (try dsimp only at hSw); go_simp; (try with_reducible rfl)
            try simp only [Act.put, List.setIfInBounds_toArray, List.set_cons_zero, List.set_cons_succ]
            refine wpAnyH_take (i := 1) (oi := { dst := some 84, op := Op.move (Operand.tmp 10), type := 3, pos := "l15_either.go:74", after := #[], guard := none }) (v := ?_) rfl (by kernel_rfl) (by kernel_rfl) (by kernel_rfl) (fun _ _ _ h => h) (Or.inl ⟨by rfl, ?_⟩) hHeld ?_
            rotate_left
            · intro w hSw; obtain ⟨s0, s1, s2, s3, s4, s5, s6⟩ := hSw; (try dsimp only at hSw); go_simp; (try with_reducible rfl)
            try simp only [Act.put, List.setIfInBounds_toArray, List.set_cons_zero, List.set_cons_succ]
            refine wpAnyH_take (i := 2) (oi := { dst := some 85, op := Op.indexAddr 22 (Operand.tmp 83) (Operand.tmp 84), type := 0, pos := "l15_either.go:74", after := #[{ on := 0, ground := Ground.data }, { on := 1, ground := Ground.data }], guard := none }) (v := ?_) rfl (by kernel_rfl) (by kernel_rfl) (by kernel_rfl) (fun _ _ _ h => h) (Or.inl ⟨by rfl, ?_⟩) hHeld ?_
            rotate_left
            · intro w hSw; obtain ⟨s0, s1, s2, s3, s4, s5, s6⟩ := hSw; (try dsimp only at hSw); go_simp; (try with_reducible rfl)
            try simp only [Act.put, List.setIfInBounds_toArray, List.set_cons_zero, List.set_cons_succ]
            refine wpAnyH_take (i := 3) (oi := { dst := some 86, op := Op.load 3 (Operand.tmp 85), type := 3, pos := "l15_either.go:74", after := #[{ on := 2, ground := Ground.data }], guard := none }) (v := ?_) rfl (by kernel_rfl) (by kernel_rfl) (by kernel_rfl) (fun _ _ _ h => h) (Or.inl ⟨by rfl, ?_⟩) hHeld ?_
            rotate_left
            · intro w hSw; obtain ⟨s0, s1, s2, s3, s4, s5, s6⟩ := hSw; (try dsimp only at hSw); go_simp; (try with_reducible rfl)
            try simp only [Act.put, List.setIfInBounds_toArray, List.set_cons_zero, List.set_cons_succ]
            refine wpAnyH_take (i := 4) (oi := { dst := some 87, op := Op.move (Operand.tmp 1), type := 23, pos := "l15_either.go:74", after := #[], guard := none }) (v := ?_) rfl (by kernel_rfl) (by kernel_rfl) (by kernel_rfl) (fun _ _ _ h => h) (Or.inl ⟨by rfl, ?_⟩) hHeld ?_
            rotate_left
            · intro w hSw; obtain ⟨s0, s1, s2, s3, s4, s5, s6⟩ := hSw; (try dsimp only at hSw); go_simp; (try with_reducible rfl)
            try simp only [Act.put, List.setIfInBounds_toArray, List.set_cons_zero, List.set_cons_succ]
            refine wpAnyH_take (i := 5) (oi := { dst := some 88, op := Op.move (Operand.tmp 10), type := 3, pos := "l15_either.go:74", after := #[], guard := none }) (v := ?_) rfl (by kernel_rfl) (by kernel_rfl) (by kernel_rfl) (fun _ _ _ h => h) (Or.inl ⟨by rfl, ?_⟩) hHeld ?_
            rotate_left
            · intro w hSw; obtain ⟨s0, s1, s2, s3, s4, s5, s6⟩ := hSw; (try dsimp only at hSw); go_simp; (try with_reducible rfl)
            try simp only [Act.put, List.setIfInBounds_toArray, List.set_cons_zero, List.set_cons_succ]
            refine wpAnyH_take (i := 6) (oi := { dst := some 89, op := Op.indexAddr 23 (Operand.tmp 87) (Operand.tmp 88), type := 0, pos := "l15_either.go:74", after := #[{ on := 4, ground := Ground.data }, { on := 5, ground := Ground.data }], guard := none }) (v := ?_) rfl (by kernel_rfl) (by kernel_rfl) (by kernel_rfl) (fun _ _ _ h => h) (Or.inl ⟨by rfl, ?_⟩) hHeld ?_
            rotate_left
            · intro w hSw; obtain ⟨s0, s1, s2, s3, s4, s5, s6⟩ := hSw; (try dsimp only at hSw); go_simp; (try with_reducible rfl)
            try simp only [Act.put, List.setIfInBounds_toArray, List.set_cons_zero, List.set_cons_succ]
            refine wpAnyH_take (i := 7) (oi := { dst := some 90, op := Op.load 69 (Operand.tmp 89), type := 69, pos := "l15_either.go:74", after := #[{ on := 6, ground := Ground.data }], guard := none }) (v := ?_) rfl (by kernel_rfl) (by kernel_rfl) (by kernel_rfl) (fun _ _ _ h => h) (Or.inl ⟨by rfl, ?_⟩) hHeld ?_
            rotate_left
            · intro w hSw; obtain ⟨s0, s1, s2, s3, s4, s5, s6⟩ := hSw; (try dsimp only at hSw); go_simp; (try with_reducible rfl)
            try simp only [Act.put, List.setIfInBounds_toArray, List.set_cons_zero, List.set_cons_succ]
            refine wpAnyH_take (i := 8) (oi := { dst := some 91, op := Op.move (Operand.tmp 2), type := 23, pos := "l15_either.go:74", after := #[], guard := none }) (v := ?_) rfl (by kernel_rfl) (by kernel_rfl) (by kernel_rfl) (fun _ _ _ h => h) (Or.inl ⟨by rfl, ?_⟩) hHeld ?_
            rotate_left
            · intro w hSw; obtain ⟨s0, s1, s2, s3, s4, s5, s6⟩ := hSw; (try dsimp only at hSw); go_simp; (try with_reducible rfl)
            try simp only [Act.put, List.setIfInBounds_toArray, List.set_cons_zero, List.set_cons_succ]
            refine wpAnyH_take (i := 9) (oi := { dst := some 92, op := Op.move (Operand.tmp 10), type := 3, pos := "l15_either.go:74", after := #[], guard := none }) (v := ?_) rfl (by kernel_rfl) (by kernel_rfl) (by kernel_rfl) (fun _ _ _ h => h) (Or.inl ⟨by rfl, ?_⟩) hHeld ?_
            rotate_left
            · intro w hSw; obtain ⟨s0, s1, s2, s3, s4, s5, s6⟩ := hSw; (try dsimp only at hSw); go_simp; (try with_reducible rfl)
            try simp only [Act.put, List.setIfInBounds_toArray, List.set_cons_zero, List.set_cons_succ]
            refine wpAnyH_take (i := 10) (oi := { dst := some 93, op := Op.indexAddr 23 (Operand.tmp 91) (Operand.tmp 92), type := 0, pos := "l15_either.go:74", after := #[{ on := 8, ground := Ground.data }, { on := 9, ground := Ground.data }], guard := none }) (v := ?_) rfl (by kernel_rfl) (by kernel_rfl) (by kernel_rfl) (fun _ _ _ h => h) (Or.inl ⟨by rfl, ?_⟩) hHeld ?_
            rotate_left
            · intro w hSw; obtain ⟨s0, s1, s2, s3, s4, s5, s6⟩ := hSw; (try dsimp only at hSw); go_simp; (try with_reducible rfl)
            try simp only [Act.put, List.setIfInBounds_toArray, List.set_cons_zero, List.set_cons_succ]
            refine wpAnyH_take (i := 11) (oi := { dst := some 94, op := Op.load 69 (Operand.tmp 93), type := 69, pos := "l15_either.go:74", after := #[{ on := 10, ground := Ground.data }], guard := none }) (v := ?_) rfl (by kernel_rfl) (by kernel_rfl) (by kernel_rfl) (fun _ _ _ h => h) (Or.inl ⟨by rfl, ?_⟩) hHeld ?_
            rotate_left
            · intro w hSw; obtain ⟨s0, s1, s2, s3, s4, s5, s6⟩ := hSw; (try dsimp only at hSw); go_simp; (try with_reducible rfl)
            try simp only [Act.put, List.setIfInBounds_toArray, List.set_cons_zero, List.set_cons_succ]
            refine wpAnyH_ready (rs := [12]) (by kernel_rfl) (by simp) ?_
            refine AllReadyH.cons (o := { dst := some 95, op := Op.call { callee := Callee.value (Operand.func 70), args := #[Operand.tmp 86, Operand.tmp 90, Operand.tmp 94], argTypes := #[3, 69, 69] }, type := 90, pos := "l15_either.go:74", after := #[{ on := 3, ground := Ground.data }, { on := 7, ground := Ground.data }, { on := 11, ground := Ground.data }], guard := none }) rfl (fun K hK => ?_) ?_
            · go_simp
              refine (HSP.out u0).mono ?_
              rintro e u1 ⟨rfl, hb_⟩
              have zs1 : u0.heap.size ≤ u1.heap.size := hb_.size
              have HBl1 : Hid (Below w.heap.size w u1) := Lib.hid (HBl0.out.trans (hb_.mono HBl0.out.size))
              clear hHeld hb_ HBl0
              (try dsimp only)
              (try go_wp2_with fail)
              refine hK.out _ _ ⟨((HBl1.out.cell (p := (p0.add k)) hbw_hbb).trans hcq), ((HBl1.out.cell (p := (p1.add (k * 3))) hbw_hab).trans hcx), ((HBl1.out.cell (p := ⟨(p1.add (k * 3)).block, (p1.add (k * 3)).off + 1, none⟩) hbw_hab).trans hcy), ((HBl1.out.cell (p := ⟨(p1.add (k * 3)).block, (p1.add (k * 3)).off + 2, none⟩) hbw_hab).trans hcz), ((HBl1.out.cell (p := (p2.add (k * 3))) hbw_hab2).trans hcx'), ((HBl1.out.cell (p := ⟨(p2.add (k * 3)).block, (p2.add (k * 3)).off + 1, none⟩) hbw_hab2).trans hcy'), ((HBl1.out.cell (p := ⟨(p2.add (k * 3)).block, (p2.add (k * 3)).off + 2, none⟩) hbw_hab2).trans hcz')⟩ (fun hHeld => ?_)
              clear hK K
              try simp only [Act.put, List.setIfInBounds_toArray, List.set_cons_zero, List.set_cons_succ]
              refine wpAnyH_take (i := 13) (oi := { dst := some 82, op := Op.move (Operand.tmp 95), type := 90, pos := "l15_either.go:74", after := #[{ on := 12, ground := Ground.data }], guard := none }) (v := ?_) rfl (by kernel_rfl) (by kernel_rfl) (by kernel_rfl) (fun _ _ _ h => h) (Or.inl ⟨by rfl, ?_⟩) hHeld ?_
              rotate_left
              · intro w hSw; obtain ⟨s0, s1, s2, s3, s4, s5, s6⟩ := hSw; (try dsimp only at hSw); go_simp; (try with_reducible rfl)
              try simp only [Act.put, List.setIfInBounds_toArray, List.set_cons_zero, List.set_cons_succ]
              refine wpAnyH_take (i := 14) (oi := { dst := some 96, op := Op.extract (Operand.tmp 82) 0, type := 3, pos := "l15_either.go:74", after := #[{ on := 13, ground := Ground.data }], guard := none }) (v := ?_) rfl (by kernel_rfl) (by kernel_rfl) (by kernel_rfl) (fun _ _ _ h => h) (Or.inl ⟨by rfl, ?_⟩) hHeld ?_
              rotate_left
              · intro w hSw; obtain ⟨s0, s1, s2, s3, s4, s5, s6⟩ := hSw; (try dsimp only at hSw); go_simp; (try with_reducible rfl)
              try simp only [Act.put, List.setIfInBounds_toArray, List.set_cons_zero, List.set_cons_succ]
              refine wpAnyH_take (i := 15) (oi := { dst := some 97, op := Op.extract (Operand.tmp 82) 1, type := 4, pos := "l15_either.go:74", after := #[{ on := 13, ground := Ground.data }, { on := 16, ground := Ground.gcOnly Departure.lateStores }], guard := none }) (v := ?_) rfl (by kernel_rfl) (by kernel_rfl) (by kernel_rfl) (fun _ _ _ h => h) (Or.inl ⟨by rfl, ?_⟩) hHeld ?_
              rotate_left
              · intro w hSw; obtain ⟨s0, s1, s2, s3, s4, s5, s6⟩ := hSw; (try dsimp only at hSw); go_simp; (try with_reducible rfl)
              try simp only [Act.put, List.setIfInBounds_toArray, List.set_cons_zero, List.set_cons_succ]
              refine wpAnyH_take (i := 16) (oi := { dst := some 11, op := Op.assign (Operand.tmp 96), type := 3, pos := "l15_either.go:74", after := #[{ on := 14, ground := Ground.data }, { on := 12, ground := Ground.chain }, { on := 0, ground := Ground.phase }, { on := 1, ground := Ground.phase }, { on := 2, ground := Ground.phase }, { on := 3, ground := Ground.phase }, { on := 4, ground := Ground.phase }, { on := 5, ground := Ground.phase }, { on := 6, ground := Ground.phase }, { on := 7, ground := Ground.phase }, { on := 8, ground := Ground.phase }, { on := 9, ground := Ground.phase }, { on := 10, ground := Ground.phase }, { on := 11, ground := Ground.phase }, { on := 12, ground := Ground.phase }, { on := 13, ground := Ground.phase }, { on := 14, ground := Ground.phase }, { on := 15, ground := Ground.textOnly Departure.lateStores }], guard := none }) (v := ?_) rfl (by kernel_rfl) (by kernel_rfl) (by kernel_rfl) (fun _ _ _ h => h) (Or.inl ⟨by rfl, ?_⟩) hHeld ?_
              rotate_left
              · intro w hSw; obtain ⟨s0, s1, s2, s3, s4, s5, s6⟩ := hSw; (try dsimp only at hSw); go_simp; (try with_reducible rfl)
              try simp only [Act.put, List.setIfInBounds_toArray, List.set_cons_zero, List.set_cons_succ]
              refine wpAnyH_take (i := 17) (oi := { dst := some 12, op := Op.assign (Operand.tmp 97), type := 4, pos := "l15_either.go:74", after := #[{ on := 15, ground := Ground.data }, { on := 16, ground := Ground.chain }, { on := 0, ground := Ground.phase }, { on := 1, ground := Ground.phase }, { on := 2, ground := Ground.phase }, { on := 3, ground := Ground.phase }, { on := 4, ground := Ground.phase }, { on := 5, ground := Ground.phase }, { on := 6, ground := Ground.phase }, { on := 7, ground := Ground.phase }, { on := 8, ground := Ground.phase }, { on := 9, ground := Ground.phase }, { on := 10, ground := Ground.phase }, { on := 11, ground := Ground.phase }, { on := 12, ground := Ground.phase }, { on := 13, ground := Ground.phase }, { on := 14, ground := Ground.phase }, { on := 15, ground := Ground.phase }, { on := 16, ground := Ground.phase }], guard := none }) (v := ?_) rfl (by kernel_rfl) (by kernel_rfl) (by kernel_rfl) (fun _ _ _ h => h) (Or.inl ⟨by rfl, ?_⟩) hHeld ?_
              rotate_left
              · intro w hSw; obtain ⟨s0, s1, s2, s3, s4, s5, s6⟩ := hSw; (try dsimp only at hSw); go_simp; (try with_reducible rfl)
              try simp only [Act.put, List.setIfInBounds_toArray, List.set_cons_zero, List.set_cons_succ]
              refine wpAnyH_done (by kernel_rfl) ?_ _
              go_wp2
              go_ret3
              exact ⟨ret_iib HY.out.1 HY.out.2.1 HY.out.2.2, HBl1.out⟩
            exact AllReadyH.nil
        · have HF := esec_no (ks := ks) (a := a) (b := b) (esec_none (by rw [HL.out, HD.out, show n1 - k = 0 by omega]; rfl))
          go_wp2
          go_ret3
          exact ⟨ret_iib HF.out.1 HF.out.2.1 HF.out.2.2, HB.out⟩
end Go.Proofs.Ytalokhilodlhfaa
