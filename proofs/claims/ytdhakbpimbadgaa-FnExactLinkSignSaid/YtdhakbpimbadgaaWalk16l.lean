/- Chapters 15, 16: the closures that feign. Made by tools/gen15/m.py. -/
import Derived.Test.YtdhakbpimbadgaaWalk16h
namespace Go.Proofs.Ytdhakbpimbadgaa
open Go.RowKit
set_option maxRecDepth 100000


set_option maxHeartbeats 4000000 in
theorem i_feignP (B : Nat) (A : Option Addr) (n ca k : Nat) (ks : List Int) (kv ch r : Int) (w : World) (hxB : Bx w B #[.slice A n ca] 22) (h : Rd w w.heap.size 1 A n (cI ks)) (hk : k < n) (hkv : ks.getD k 0 = kv) (c0 : 0 ≤ ch) (c1 : ch ≤ 112) (r0 : 0 ≤ r) (r1 : r ≤ 112) (k0 : 0 ≤ kv) (k1 : kv ≤ 226) :
    Calls Try.prog 46 #[.int .i64 k, .agg #[.int .i64 ch, .int .i64 r], .pointer (some ⟨B, 0, none⟩)] w fun e w' => e = .returned (.agg #[.int .i64 (backI 4 kv r ch), .int .i64 ch, .int .i64 r]) ∧ Below w.heap.size w w' := by
  obtain ⟨a, kz, rfl, hab, hc0, HQ⟩ := h.intAt hk
  have hkz : kz = kv := by rw [HQ.out, hkv]
  subst hkz
  have hba : (a.add k).block < w.heap.size := by rw [add_block]; exact hab
  have HCK := Lib.hid hc0
  have i0 : (0 : Int) ≤ (k : Int) := by omega
  have i1 : (k : Int) < (n : Int) := by omega
  obtain ⟨W0, hW0⟩ : ∃ W, Hid ((w.alloc (.cells #[.int .i64 ch, .int .i64 r] 64)).alloc (.cells #[.int .i64 0, .int .i64 0, .int .i64 0] 54) = W) := ⟨_, Lib.hid rfl⟩
  have HB : Hid (Below w.heap.size w W0) := Lib.hid (by rw [← hW0.out]; exact ((Below.refl _ _).alloc (Nat.le_refl _) _).alloc (by simp only [World.size_alloc]; omega) _)
  have hlB := hxB.lt
  have HX_B : Hid (Bx W0 B #[.slice (some a) n ca] 22) := Lib.hid (by rw [← hW0.out]; exact (hxB.alloc _).alloc _)
  have HX_an : Hid (Bx W0 w.heap.size #[.int .i64 ch, .int .i64 r] 64) := Lib.hid (by rw [← hW0.out]; exact (Bx.new _ _ _).alloc _)
  have HX_re : Hid (Bx W0 (w.heap.size + 1) #[.int .i64 0, .int .i64 0, .int .i64 0] 54) := Lib.hid (by rw [← hW0.out]; have := Bx.new (w.alloc (.cells #[.int .i64 ch, .int .i64 r] 64)) #[.int .i64 0, .int .i64 0, .int .i64 0] 54; simp only [World.size_alloc] at this; exact this)
  clear hc0 HQ h hxB
  go_enter Try.func46, Try.ntmps46
  go_upto_region 1 with (fail)
  rw [hW0.out]
  clear hW0
  refine wp_region_held_drew (S := fun w' => w'.cell? ⟨B, 0, none⟩ = some (.slice (some a) n ca) ∧ w'.cell? ⟨w.heap.size, 0, none⟩ = some (.int .i64 ch) ∧ w'.cell? ⟨w.heap.size, 1, none⟩ = some (.int .i64 r) ∧ w'.cell? (a.add k) = some (.int .i64 kz)) (by kernel_rfl) ⟨HX_B.out.cell 0, HX_an.out.cell 0, HX_an.out.cell 1, (HB.out.cell (p := (a.add k)) hba).trans HCK.out⟩ (fun hHeld => ?_)
  obtain ⟨u0, hu0⟩ : ∃ u0, Hid (W0.drew = u0) := ⟨_, Lib.hid rfl⟩
  rw [hu0.out] at hHeld ⊢
  have zs0 : W0.heap.size = u0.heap.size := by rw [← hu0.out]; rfl
  replace zs0 := Nat.le_of_eq zs0
  have HBl0 : Hid (Below w.heap.size w u0) := Lib.hid (by rw [← hu0.out]; exact HB.out.drew)
  have HX_B0 : Hid (Bx u0 B #[.slice (some a) n ca] 22) := Lib.hid (by rw [← hu0.out]; exact HX_B.out)
  have HX_an0 : Hid (Bx u0 w.heap.size #[.int .i64 ch, .int .i64 r] 64) := Lib.hid (by rw [← hu0.out]; exact HX_an.out)
  have HX_re0 : Hid (Bx u0 (w.heap.size + 1) #[.int .i64 0, .int .i64 0, .int .i64 0] 54) := Lib.hid (by rw [← hu0.out]; exact HX_re.out)
  clear hu0
  refine wpAnyH_take (i := 0) (oi := { dst := some 6, op := Op.load 64 (Operand.tmp 4), type := 64, pos := "l15_either.go:112", after := #[], guard := none }) (v := ?_) rfl (by kernel_rfl) (by kernel_rfl) (by kernel_rfl) (fun _ _ _ h => h) (Or.inl ⟨by rfl, ?_⟩) hHeld ?_
  rotate_left
  · intro w hSw; obtain ⟨s0, s1, s2, s3⟩ := hSw; (try dsimp only at hSw); go_simp; (try with_reducible rfl)
  try simp only [Act.put, List.setIfInBounds_toArray, List.set_cons_zero, List.set_cons_succ]
  refine wpAnyH_take (i := 1) (oi := { dst := some 7, op := Op.load 22 (Operand.tmp 2), type := 22, pos := "l15_either.go:112", after := #[], guard := none }) (v := ?_) rfl (by kernel_rfl) (by kernel_rfl) (by kernel_rfl) (fun _ _ _ h => h) (Or.inl ⟨by rfl, ?_⟩) hHeld ?_
  rotate_left
  · intro w hSw; obtain ⟨s0, s1, s2, s3⟩ := hSw; (try dsimp only at hSw); go_simp; (try with_reducible rfl)
  try simp only [Act.put, List.setIfInBounds_toArray, List.set_cons_zero, List.set_cons_succ]
  refine wpAnyH_take (i := 2) (oi := { dst := some 8, op := Op.move (Operand.tmp 0), type := 3, pos := "l15_either.go:112", after := #[], guard := none }) (v := ?_) rfl (by kernel_rfl) (by kernel_rfl) (by kernel_rfl) (fun _ _ _ h => h) (Or.inl ⟨by rfl, ?_⟩) hHeld ?_
  rotate_left
  · intro w hSw; obtain ⟨s0, s1, s2, s3⟩ := hSw; (try dsimp only at hSw); go_simp; (try with_reducible rfl)
  try simp only [Act.put, List.setIfInBounds_toArray, List.set_cons_zero, List.set_cons_succ]
  refine wpAnyH_take (i := 3) (oi := { dst := some 9, op := Op.indexAddr 22 (Operand.tmp 7) (Operand.tmp 8), type := 0, pos := "l15_either.go:112", after := #[{ on := 1, ground := Ground.data }, { on := 2, ground := Ground.data }], guard := none }) (v := ?_) rfl (by kernel_rfl) (by kernel_rfl) (by kernel_rfl) (fun _ _ _ h => h) (Or.inl ⟨by rfl, ?_⟩) hHeld ?_
  rotate_left
  · intro w hSw; obtain ⟨s0, s1, s2, s3⟩ := hSw; (try dsimp only at hSw); go_simp; (try with_reducible rfl)
  try simp only [Act.put, List.setIfInBounds_toArray, List.set_cons_zero, List.set_cons_succ]
  refine wpAnyH_take (i := 4) (oi := { dst := some 10, op := Op.load 3 (Operand.tmp 9), type := 3, pos := "l15_either.go:112", after := #[{ on := 3, ground := Ground.data }], guard := none }) (v := ?_) rfl (by kernel_rfl) (by kernel_rfl) (by kernel_rfl) (fun _ _ _ h => h) (Or.inl ⟨by rfl, ?_⟩) hHeld ?_
  rotate_left
  · intro w hSw; obtain ⟨s0, s1, s2, s3⟩ := hSw; (try dsimp only at hSw); go_simp; (try with_reducible rfl)
  try simp only [Act.put, List.setIfInBounds_toArray, List.set_cons_zero, List.set_cons_succ]
  refine wpAnyH_ready (rs := [5]) (by kernel_rfl) (by simp) ?_
  refine AllReadyH.cons (o := { dst := some 11, op := Op.call { callee := Callee.value (Operand.func 47), args := #[Operand.tmp 6, Operand.tmp 10], argTypes := #[64, 66] }, type := 54, pos := "l15_either.go:112", after := #[{ on := 0, ground := Ground.data }, { on := 4, ground := Ground.data }], guard := none }) rfl (fun K hK => ?_) ?_
  · go_simp
    refine (i_an_proof ch r kz u0 c0 c1 r0 r1 k0 k1).mono ?_
    rintro e u1 ⟨rfl, hb_⟩
    have zs1 : u0.heap.size ≤ u1.heap.size := hb_.size
    have HBl1 : Hid (Below w.heap.size w u1) := Lib.hid (HBl0.out.trans (hb_.mono HBl0.out.size))
    have HX_B1 : Hid (Bx u1 B #[.slice (some a) n ca] 22) := Lib.hid (HX_B0.out.below hb_ HX_B0.out.lt)
    have HX_an1 : Hid (Bx u1 w.heap.size #[.int .i64 ch, .int .i64 r] 64) := Lib.hid (HX_an0.out.below hb_ HX_an0.out.lt)
    have HX_re1 : Hid (Bx u1 (w.heap.size + 1) #[.int .i64 0, .int .i64 0, .int .i64 0] 54) := Lib.hid (HX_re0.out.below hb_ HX_re0.out.lt)
    clear hHeld hb_ HBl0 HX_B0 HX_an0 HX_re0
    (try dsimp only)
    (try go_wp2_with fail)
    refine hK.out _ _ ⟨HX_B1.out.cell 0, HX_an1.out.cell 0, HX_an1.out.cell 1, ((HBl1.out.cell (p := (a.add k)) hba).trans HCK.out)⟩ (fun hHeld => ?_)
    clear hK K
    try simp only [Act.put, List.setIfInBounds_toArray, List.set_cons_zero, List.set_cons_succ]
    refine wpAnyH_ready (rs := [6]) (by kernel_rfl) (by simp) ?_
    refine AllReadyH.cons (o := { dst := none, op := Op.store 54 (Operand.tmp 5) (Operand.tmp 11), type := 0, pos := "l15_either.go:112", after := #[{ on := 5, ground := Ground.data }, { on := 5, ground := Ground.chain }, { on := 0, ground := Ground.phase }, { on := 1, ground := Ground.phase }, { on := 2, ground := Ground.phase }, { on := 3, ground := Ground.phase }, { on := 4, ground := Ground.phase }, { on := 5, ground := Ground.phase }], guard := none }) rfl (fun K hK => ?_) ?_
    · have xc0 : u1.cell? ⟨(w.heap.size + 1), 0, none⟩ = some (.int .i64 0) := HX_re1.out.cell 0
      have xf0 : u1.frozen? ⟨(w.heap.size + 1), 0, none⟩ = false := HX_re1.out.free 0
      have xc1 : u1.cell? ⟨(w.heap.size + 1), 1, none⟩ = some (.int .i64 0) := HX_re1.out.cell 1
      have xf1 : u1.frozen? ⟨(w.heap.size + 1), 1, none⟩ = false := HX_re1.out.free 1
      have xc2 : u1.cell? ⟨(w.heap.size + 1), 2, none⟩ = some (.int .i64 0) := HX_re1.out.cell 2
      have xf2 : u1.frozen? ⟨(w.heap.size + 1), 2, none⟩ = false := HX_re1.out.free 2
      go_simp
      obtain ⟨u2, hw2⟩ : ∃ W, Hid ((((u1.setCell ⟨(w.heap.size + 1), 0, none⟩ (.int .i64 (backI 4 kz r ch))).setCell ⟨(w.heap.size + 1), 1, none⟩ (.int .i64 ch)).setCell ⟨(w.heap.size + 1), 2, none⟩ (.int .i64 r)) = W) := ⟨_, Lib.hid rfl⟩
      rw [hw2.out]
      have hk2 : Kept ((w.heap.size + 1)) ((w.heap.size + 1) + 1) u1 u2 := by rw [← hw2.out]; exact (((Kept.refl _ _ _).setCell (p := ⟨(w.heap.size + 1), 0, none⟩) (Nat.le_refl _) (Nat.lt_succ_self _) _).setCell (p := ⟨(w.heap.size + 1), 1, none⟩) (Nat.le_refl _) (Nat.lt_succ_self _) _).setCell (p := ⟨(w.heap.size + 1), 2, none⟩) (Nat.le_refl _) (Nat.lt_succ_self _) _
      have zs2 : u1.heap.size ≤ u2.heap.size := hk2.size
      have hlo2 := HBl1.out.size
      have HBl2 : Hid (Below w.heap.size w u2) := Lib.hid (HBl1.out.trans ((hk2.to_below (by have := HX_re1.out.lt; omega)).mono (by omega)))
      have HX_re2 : Hid (Bx u2 (w.heap.size + 1) #[.int .i64 (backI 4 kz r ch), .int .i64 ch, .int .i64 r] 54) := Lib.hid (by have := (((HX_re1.out).set 0 (.int .i64 (backI 4 kz r ch))).set 1 (.int .i64 ch)).set 2 (.int .i64 r); rw [hw2.out] at this; exact this)
      have HX_B2 : Hid (Bx u2 B #[.slice (some a) n ca] 22) := Lib.hid (HX_B1.out.kept hk2 (by have := HX_B1.out.lt; have := HX_an1.out.lt; have := HX_re1.out.lt; omega))
      have HX_an2 : Hid (Bx u2 w.heap.size #[.int .i64 ch, .int .i64 r] 64) := Lib.hid (HX_an1.out.kept hk2 (by have := HX_B1.out.lt; have := HX_an1.out.lt; have := HX_re1.out.lt; omega))
      clear hHeld hw2 hk2 hlo2 xc0 xf0 xc1 xf1 xc2 xf2 HBl1 HX_B1 HX_an1 HX_re1
      refine hK.out _ _ ⟨HX_B2.out.cell 0, HX_an2.out.cell 0, HX_an2.out.cell 1, ((HBl2.out.cell (p := (a.add k)) hba).trans HCK.out)⟩ (fun hHeld => ?_)
      clear hK K
      try simp only [Act.put]
      refine wpAnyH_done (by kernel_rfl) ?_ _
      go_wp2
      exact bodyPost_ret (v := .agg #[.int .i64 (backI 4 kz r ch), .int .i64 ch, .int .i64 r]) (resPf1 rfl rfl HX_re2.out) rfl ⟨rfl, HBl2.out⟩
    exact AllReadyH.nil
  exact AllReadyH.nil

set_option maxHeartbeats 4000000 in
theorem i_feignT (B C : Nat) (A : Option Addr) (n ca k : Nat) (ks : List Int) (kv ch r tag : Int) (w : World) (hxB : Bx w B #[.slice A n ca] 22) (hxC : Bx w C #[.int .i64 tag] 3) (h : Rd w w.heap.size 1 A n (cI ks)) (hk : k < n) (hkv : ks.getD k 0 = kv) (c0 : 0 ≤ ch) (c1 : ch ≤ 112) (r0 : 0 ≤ r) (r1 : r ≤ 112) (k0 : 0 ≤ kv) (k1 : kv ≤ 226) (t0 : 0 ≤ tag) (t1 : tag ≤ 226) :
    Calls Try.prog 60 #[.int .i64 k, .agg #[.int .i64 ch, .int .i64 r], .pointer (some ⟨B, 0, none⟩), .pointer (some ⟨C, 0, none⟩)] w fun e w' => e = .returned (.agg #[.int .i64 (backI 4 kv r ch), .int .i64 (backI 9 tag r ch), .int .i64 ch, .int .i64 r]) ∧ Below w.heap.size w w' := by
  obtain ⟨a, kz, rfl, hab, hc0, HQ⟩ := h.intAt hk
  have hkz : kz = kv := by rw [HQ.out, hkv]
  subst hkz
  have hba : (a.add k).block < w.heap.size := by rw [add_block]; exact hab
  have HCK := Lib.hid hc0
  have i0 : (0 : Int) ≤ (k : Int) := by omega
  have i1 : (k : Int) < (n : Int) := by omega
  obtain ⟨W0, hW0⟩ : ∃ W, Hid ((w.alloc (.cells #[.int .i64 ch, .int .i64 r] 64)).alloc (.cells #[.int .i64 0, .int .i64 0, .int .i64 0, .int .i64 0] 76) = W) := ⟨_, Lib.hid rfl⟩
  have HB : Hid (Below w.heap.size w W0) := Lib.hid (by rw [← hW0.out]; exact ((Below.refl _ _).alloc (Nat.le_refl _) _).alloc (by simp only [World.size_alloc]; omega) _)
  have hlB := hxB.lt
  have HX_B : Hid (Bx W0 B #[.slice (some a) n ca] 22) := Lib.hid (by rw [← hW0.out]; exact (hxB.alloc _).alloc _)
  have hlC := hxC.lt
  have HX_C : Hid (Bx W0 C #[.int .i64 tag] 3) := Lib.hid (by rw [← hW0.out]; exact (hxC.alloc _).alloc _)
  have HX_an : Hid (Bx W0 w.heap.size #[.int .i64 ch, .int .i64 r] 64) := Lib.hid (by rw [← hW0.out]; exact (Bx.new _ _ _).alloc _)
  have HX_re : Hid (Bx W0 (w.heap.size + 1) #[.int .i64 0, .int .i64 0, .int .i64 0, .int .i64 0] 76) := Lib.hid (by rw [← hW0.out]; have := Bx.new (w.alloc (.cells #[.int .i64 ch, .int .i64 r] 64)) #[.int .i64 0, .int .i64 0, .int .i64 0, .int .i64 0] 76; simp only [World.size_alloc] at this; exact this)
  clear hc0 HQ h hxB hxC
  go_enter Try.func60, Try.ntmps60
  go_upto_region 1 with (fail)
  rw [hW0.out]
  clear hW0
  refine wp_region_held_drew (S := fun w' => w'.cell? ⟨B, 0, none⟩ = some (.slice (some a) n ca) ∧ w'.cell? ⟨C, 0, none⟩ = some (.int .i64 tag) ∧ w'.cell? ⟨w.heap.size, 0, none⟩ = some (.int .i64 ch) ∧ w'.cell? ⟨w.heap.size, 1, none⟩ = some (.int .i64 r) ∧ w'.cell? (a.add k) = some (.int .i64 kz)) (by kernel_rfl) ⟨HX_B.out.cell 0, HX_C.out.cell 0, HX_an.out.cell 0, HX_an.out.cell 1, (HB.out.cell (p := (a.add k)) hba).trans HCK.out⟩ (fun hHeld => ?_)
  obtain ⟨u0, hu0⟩ : ∃ u0, Hid (W0.drew = u0) := ⟨_, Lib.hid rfl⟩
  rw [hu0.out] at hHeld ⊢
  have zs0 : W0.heap.size = u0.heap.size := by rw [← hu0.out]; rfl
  replace zs0 := Nat.le_of_eq zs0
  have HBl0 : Hid (Below w.heap.size w u0) := Lib.hid (by rw [← hu0.out]; exact HB.out.drew)
  have HX_B0 : Hid (Bx u0 B #[.slice (some a) n ca] 22) := Lib.hid (by rw [← hu0.out]; exact HX_B.out)
  have HX_C0 : Hid (Bx u0 C #[.int .i64 tag] 3) := Lib.hid (by rw [← hu0.out]; exact HX_C.out)
  have HX_an0 : Hid (Bx u0 w.heap.size #[.int .i64 ch, .int .i64 r] 64) := Lib.hid (by rw [← hu0.out]; exact HX_an.out)
  have HX_re0 : Hid (Bx u0 (w.heap.size + 1) #[.int .i64 0, .int .i64 0, .int .i64 0, .int .i64 0] 76) := Lib.hid (by rw [← hu0.out]; exact HX_re.out)
  clear hu0
  refine wpAnyH_take (i := 0) (oi := { dst := some 7, op := Op.load 64 (Operand.tmp 5), type := 64, pos := "l16_rings.go:118", after := #[], guard := none }) (v := ?_) rfl (by kernel_rfl) (by kernel_rfl) (by kernel_rfl) (fun _ _ _ h => h) (Or.inl ⟨by rfl, ?_⟩) hHeld ?_
  rotate_left
  · intro w hSw; obtain ⟨s0, s1, s2, s3, s4⟩ := hSw; (try dsimp only at hSw); go_simp; (try with_reducible rfl)
  try simp only [Act.put, List.setIfInBounds_toArray, List.set_cons_zero, List.set_cons_succ]
  refine wpAnyH_take (i := 2) (oi := { dst := some 9, op := Op.load 22 (Operand.tmp 2), type := 22, pos := "l16_rings.go:118", after := #[], guard := none }) (v := ?_) rfl (by kernel_rfl) (by kernel_rfl) (by kernel_rfl) (fun _ _ _ h => h) (Or.inl ⟨by rfl, ?_⟩) hHeld ?_
  rotate_left
  · intro w hSw; obtain ⟨s0, s1, s2, s3, s4⟩ := hSw; (try dsimp only at hSw); go_simp; (try with_reducible rfl)
  try simp only [Act.put, List.setIfInBounds_toArray, List.set_cons_zero, List.set_cons_succ]
  refine wpAnyH_take (i := 3) (oi := { dst := some 10, op := Op.move (Operand.tmp 0), type := 3, pos := "l16_rings.go:118", after := #[], guard := none }) (v := ?_) rfl (by kernel_rfl) (by kernel_rfl) (by kernel_rfl) (fun _ _ _ h => h) (Or.inl ⟨by rfl, ?_⟩) hHeld ?_
  rotate_left
  · intro w hSw; obtain ⟨s0, s1, s2, s3, s4⟩ := hSw; (try dsimp only at hSw); go_simp; (try with_reducible rfl)
  try simp only [Act.put, List.setIfInBounds_toArray, List.set_cons_zero, List.set_cons_succ]
  refine wpAnyH_take (i := 4) (oi := { dst := some 11, op := Op.indexAddr 22 (Operand.tmp 9) (Operand.tmp 10), type := 0, pos := "l16_rings.go:118", after := #[{ on := 2, ground := Ground.data }, { on := 3, ground := Ground.data }], guard := none }) (v := ?_) rfl (by kernel_rfl) (by kernel_rfl) (by kernel_rfl) (fun _ _ _ h => h) (Or.inl ⟨by rfl, ?_⟩) hHeld ?_
  rotate_left
  · intro w hSw; obtain ⟨s0, s1, s2, s3, s4⟩ := hSw; (try dsimp only at hSw); go_simp; (try with_reducible rfl)
  try simp only [Act.put, List.setIfInBounds_toArray, List.set_cons_zero, List.set_cons_succ]
  refine wpAnyH_take (i := 5) (oi := { dst := some 12, op := Op.load 3 (Operand.tmp 11), type := 3, pos := "l16_rings.go:118", after := #[{ on := 4, ground := Ground.data }], guard := none }) (v := ?_) rfl (by kernel_rfl) (by kernel_rfl) (by kernel_rfl) (fun _ _ _ h => h) (Or.inl ⟨by rfl, ?_⟩) hHeld ?_
  rotate_left
  · intro w hSw; obtain ⟨s0, s1, s2, s3, s4⟩ := hSw; (try dsimp only at hSw); go_simp; (try with_reducible rfl)
  try simp only [Act.put, List.setIfInBounds_toArray, List.set_cons_zero, List.set_cons_succ]
  refine wpAnyH_take (i := 6) (oi := { dst := some 13, op := Op.load 3 (Operand.tmp 3), type := 3, pos := "l16_rings.go:118", after := #[], guard := none }) (v := ?_) rfl (by kernel_rfl) (by kernel_rfl) (by kernel_rfl) (fun _ _ _ h => h) (Or.inl ⟨by rfl, ?_⟩) hHeld ?_
  rotate_left
  · intro w hSw; obtain ⟨s0, s1, s2, s3, s4⟩ := hSw; (try dsimp only at hSw); go_simp; (try with_reducible rfl)
  try simp only [Act.put, List.setIfInBounds_toArray, List.set_cons_zero, List.set_cons_succ]
  refine wpAnyH_take (i := 7) (oi := { dst := some 14, op := Op.build 80 #[(0, Operand.tmp 12), (1, Operand.tmp 13)], type := 80, pos := "l16_rings.go:118", after := #[{ on := 5, ground := Ground.data }, { on := 6, ground := Ground.data }], guard := none }) (v := ?_) rfl (by kernel_rfl) (by kernel_rfl) (by kernel_rfl) (fun _ _ _ h => h) (Or.inl ⟨by rfl, ?_⟩) hHeld ?_
  rotate_left
  · intro w hSw; obtain ⟨s0, s1, s2, s3, s4⟩ := hSw; (try dsimp only at hSw); go_simp; (try with_reducible rfl)
  try simp only [Act.put, List.setIfInBounds_toArray, List.set_cons_zero, List.set_cons_succ]
  refine wpAnyH_ready (rs := [1]) (by kernel_rfl) (by simp) ?_
  refine AllReadyH.cons (o := { dst := some 8, op := Op.call { callee := Callee.value (Operand.func 62), args := #[], argTypes := #[] }, type := 80, pos := "l16_rings.go:118", after := #[], guard := none }) rfl (fun K hK => ?_) ?_
  · go_simp
    refine (i_linkBase u0).mono ?_
    rintro e u1 ⟨rfl, hb_⟩
    have zs1 : u0.heap.size ≤ u1.heap.size := hb_.size
    have HBl1 : Hid (Below w.heap.size w u1) := Lib.hid (HBl0.out.trans (hb_.mono HBl0.out.size))
    have HX_B1 : Hid (Bx u1 B #[.slice (some a) n ca] 22) := Lib.hid (HX_B0.out.below hb_ HX_B0.out.lt)
    have HX_C1 : Hid (Bx u1 C #[.int .i64 tag] 3) := Lib.hid (HX_C0.out.below hb_ HX_C0.out.lt)
    have HX_an1 : Hid (Bx u1 w.heap.size #[.int .i64 ch, .int .i64 r] 64) := Lib.hid (HX_an0.out.below hb_ HX_an0.out.lt)
    have HX_re1 : Hid (Bx u1 (w.heap.size + 1) #[.int .i64 0, .int .i64 0, .int .i64 0, .int .i64 0] 76) := Lib.hid (HX_re0.out.below hb_ HX_re0.out.lt)
    clear hHeld hb_ HBl0 HX_B0 HX_C0 HX_an0 HX_re0
    (try dsimp only)
    (try go_wp2_with fail)
    refine hK.out _ _ ⟨HX_B1.out.cell 0, HX_C1.out.cell 0, HX_an1.out.cell 0, HX_an1.out.cell 1, ((HBl1.out.cell (p := (a.add k)) hba).trans HCK.out)⟩ (fun hHeld => ?_)
    clear hK K
    try simp only [Act.put, List.setIfInBounds_toArray, List.set_cons_zero, List.set_cons_succ]
    refine wpAnyH_ready (rs := [8]) (by kernel_rfl) (by simp) ?_
    refine AllReadyH.cons (o := { dst := some 15, op := Op.call { callee := Callee.value (Operand.func 61), args := #[Operand.tmp 7, Operand.tmp 8, Operand.tmp 14], argTypes := #[64, 80, 80] }, type := 76, pos := "l16_rings.go:118", after := #[{ on := 0, ground := Ground.data }, { on := 1, ground := Ground.data }, { on := 7, ground := Ground.data }, { on := 1, ground := Ground.chain }], guard := none }) rfl (fun K hK => ?_) ?_
    · go_simp
      refine (i_an_twin ch r 4 9 kz tag u1 c0 c1 r0 r1 (by omega) (by omega) (by omega) (by omega) k0 k1 t0 t1).mono ?_
      rintro e u2 ⟨rfl, hb_⟩
      have zs2 : u1.heap.size ≤ u2.heap.size := hb_.size
      have HBl2 : Hid (Below w.heap.size w u2) := Lib.hid (HBl1.out.trans (hb_.mono HBl1.out.size))
      have HX_B2 : Hid (Bx u2 B #[.slice (some a) n ca] 22) := Lib.hid (HX_B1.out.below hb_ HX_B1.out.lt)
      have HX_C2 : Hid (Bx u2 C #[.int .i64 tag] 3) := Lib.hid (HX_C1.out.below hb_ HX_C1.out.lt)
      have HX_an2 : Hid (Bx u2 w.heap.size #[.int .i64 ch, .int .i64 r] 64) := Lib.hid (HX_an1.out.below hb_ HX_an1.out.lt)
      have HX_re2 : Hid (Bx u2 (w.heap.size + 1) #[.int .i64 0, .int .i64 0, .int .i64 0, .int .i64 0] 76) := Lib.hid (HX_re1.out.below hb_ HX_re1.out.lt)
      clear hHeld hb_ HBl1 HX_B1 HX_C1 HX_an1 HX_re1
      (try dsimp only)
      (try go_wp2_with fail)
      refine hK.out _ _ ⟨HX_B2.out.cell 0, HX_C2.out.cell 0, HX_an2.out.cell 0, HX_an2.out.cell 1, ((HBl2.out.cell (p := (a.add k)) hba).trans HCK.out)⟩ (fun hHeld => ?_)
      clear hK K
      try simp only [Act.put, List.setIfInBounds_toArray, List.set_cons_zero, List.set_cons_succ]
      refine wpAnyH_ready (rs := [9]) (by kernel_rfl) (by simp) ?_
      refine AllReadyH.cons (o := { dst := none, op := Op.store 76 (Operand.tmp 6) (Operand.tmp 15), type := 0, pos := "l16_rings.go:118", after := #[{ on := 8, ground := Ground.data }, { on := 8, ground := Ground.chain }, { on := 0, ground := Ground.phase }, { on := 1, ground := Ground.phase }, { on := 2, ground := Ground.phase }, { on := 3, ground := Ground.phase }, { on := 4, ground := Ground.phase }, { on := 5, ground := Ground.phase }, { on := 6, ground := Ground.phase }, { on := 7, ground := Ground.phase }, { on := 8, ground := Ground.phase }], guard := none }) rfl (fun K hK => ?_) ?_
      · have xc0 : u2.cell? ⟨(w.heap.size + 1), 0, none⟩ = some (.int .i64 0) := HX_re2.out.cell 0
        have xf0 : u2.frozen? ⟨(w.heap.size + 1), 0, none⟩ = false := HX_re2.out.free 0
        have xc1 : u2.cell? ⟨(w.heap.size + 1), 1, none⟩ = some (.int .i64 0) := HX_re2.out.cell 1
        have xf1 : u2.frozen? ⟨(w.heap.size + 1), 1, none⟩ = false := HX_re2.out.free 1
        have xc2 : u2.cell? ⟨(w.heap.size + 1), 2, none⟩ = some (.int .i64 0) := HX_re2.out.cell 2
        have xf2 : u2.frozen? ⟨(w.heap.size + 1), 2, none⟩ = false := HX_re2.out.free 2
        have xc3 : u2.cell? ⟨(w.heap.size + 1), 3, none⟩ = some (.int .i64 0) := HX_re2.out.cell 3
        have xf3 : u2.frozen? ⟨(w.heap.size + 1), 3, none⟩ = false := HX_re2.out.free 3
        go_simp
        obtain ⟨u3, hw3⟩ : ∃ W, Hid (((((u2.setCell ⟨(w.heap.size + 1), 0, none⟩ (.int .i64 (backI 4 kz r ch))).setCell ⟨(w.heap.size + 1), 1, none⟩ (.int .i64 (backI 9 tag r ch))).setCell ⟨(w.heap.size + 1), 2, none⟩ (.int .i64 ch)).setCell ⟨(w.heap.size + 1), 3, none⟩ (.int .i64 r)) = W) := ⟨_, Lib.hid rfl⟩
        rw [hw3.out]
        have hk3 : Kept ((w.heap.size + 1)) ((w.heap.size + 1) + 1) u2 u3 := by rw [← hw3.out]; exact ((((Kept.refl _ _ _).setCell (p := ⟨(w.heap.size + 1), 0, none⟩) (Nat.le_refl _) (Nat.lt_succ_self _) _).setCell (p := ⟨(w.heap.size + 1), 1, none⟩) (Nat.le_refl _) (Nat.lt_succ_self _) _).setCell (p := ⟨(w.heap.size + 1), 2, none⟩) (Nat.le_refl _) (Nat.lt_succ_self _) _).setCell (p := ⟨(w.heap.size + 1), 3, none⟩) (Nat.le_refl _) (Nat.lt_succ_self _) _
        have zs3 : u2.heap.size ≤ u3.heap.size := hk3.size
        have hlo3 := HBl2.out.size
        have HBl3 : Hid (Below w.heap.size w u3) := Lib.hid (HBl2.out.trans ((hk3.to_below (by have := HX_re2.out.lt; omega)).mono (by omega)))
        have HX_re3 : Hid (Bx u3 (w.heap.size + 1) #[.int .i64 (backI 4 kz r ch), .int .i64 (backI 9 tag r ch), .int .i64 ch, .int .i64 r] 76) := Lib.hid (by have := ((((HX_re2.out).set 0 (.int .i64 (backI 4 kz r ch))).set 1 (.int .i64 (backI 9 tag r ch))).set 2 (.int .i64 ch)).set 3 (.int .i64 r); rw [hw3.out] at this; exact this)
        have HX_B3 : Hid (Bx u3 B #[.slice (some a) n ca] 22) := Lib.hid (HX_B2.out.kept hk3 (by have := HX_B2.out.lt; have := HX_C2.out.lt; have := HX_an2.out.lt; have := HX_re2.out.lt; omega))
        have HX_C3 : Hid (Bx u3 C #[.int .i64 tag] 3) := Lib.hid (HX_C2.out.kept hk3 (by have := HX_B2.out.lt; have := HX_C2.out.lt; have := HX_an2.out.lt; have := HX_re2.out.lt; omega))
        have HX_an3 : Hid (Bx u3 w.heap.size #[.int .i64 ch, .int .i64 r] 64) := Lib.hid (HX_an2.out.kept hk3 (by have := HX_B2.out.lt; have := HX_C2.out.lt; have := HX_an2.out.lt; have := HX_re2.out.lt; omega))
        clear hHeld hw3 hk3 hlo3 xc0 xf0 xc1 xf1 xc2 xf2 xc3 xf3 HBl2 HX_B2 HX_C2 HX_an2 HX_re2
        refine hK.out _ _ ⟨HX_B3.out.cell 0, HX_C3.out.cell 0, HX_an3.out.cell 0, HX_an3.out.cell 1, ((HBl3.out.cell (p := (a.add k)) hba).trans HCK.out)⟩ (fun hHeld => ?_)
        clear hK K
        try simp only [Act.put]
        refine wpAnyH_done (by kernel_rfl) ?_ _
        go_wp2
        exact bodyPost_ret (v := .agg #[.int .i64 (backI 4 kz r ch), .int .i64 (backI 9 tag r ch), .int .i64 ch, .int .i64 r]) (resTw1 rfl rfl HX_re3.out) rfl ⟨rfl, HBl3.out⟩
      exact AllReadyH.nil
    exact AllReadyH.nil
  exact AllReadyH.nil
end Go.Proofs.Ytdhakbpimbadgaa
