/- Chapter 16: LinkGood of the program. Made by tools/gen15/h.py. -/
import Derived.Test.YtdhakbpimbadgaaWalk16f
namespace Go.Proofs.Ytdhakbpimbadgaa
open Go.RowKit
set_option maxRecDepth 100000

set_option maxHeartbeats 1000000 in
theorem i_linkBase (w : World) :
    Calls Try.prog 62 #[] w fun e w' => e = .returned (.agg #[.int .i64 4, .int .i64 9]) ∧ Below w.heap.size w w' := by
  go_enter Try.func62, Try.ntmps62
  go_wp2
  exact bodyPost_ret (v := .agg #[.int .i64 4, .int .i64 9]) (resPr1 rfl rfl (Bx.new w #[.int .i64 4, .int .i64 9] _)) rfl
    ⟨rfl, (Below.refl _ _).alloc (Nat.le_refl _) _⟩
set_option maxHeartbeats 1000000 in
theorem s_linkBase (w : World) :
    Calls Try.prog 56 #[] w fun e w' => e = .returned (.agg #[.int .i64 4, .int .i64 9]) ∧ Below w.heap.size w w' := by
  go_enter Try.func56, Try.ntmps56
  go_wp2
  exact bodyPost_ret (v := .agg #[.int .i64 4, .int .i64 9]) (resPr1 rfl rfl (Bx.new w #[.int .i64 4, .int .i64 9] _)) rfl
    ⟨rfl, (Below.refl _ _).alloc (Nat.le_refl _) _⟩
theorem i_mixChalB (A : Option Addr) (n c : Nat) (zs : List Int) (w : World) (h : Rd w w.heap.size 1 A n (cI zs)) (hn : n ≤ 8388608) :
    Calls Try.prog 53 #[.slice A n c] w fun e w' => e = .returned (.int .i64 (mixV zs)) ∧ Below w.heap.size w w' :=
  (i_mixChal A n c zs w h hn).mono fun _ _ ⟨h1, h2⟩ => ⟨h1, h2 ▸ Below.refl _ _⟩
set_option maxHeartbeats 4000000 in
theorem i_fits_Twin (A : Option Addr) (n c : Nat) (zs : List Int) (A' : Option Addr) (n' c' : Nat) (l : List Tw) (w : World) (h : Rd w w.heap.size 1 A n (cI zs)) (h' : Rd w w.heap.size 4 A' n' (cTwin l)) (hn : n ≤ 8388608) (hn' : n' ≤ 1048576) (hb : ∀ k, k < n' → 0 ≤ (l.getD k (0, 0, 0, 0)).2.2.1 ∧ (l.getD k (0, 0, 0, 0)).2.2.1 ≤ 112) :
    Calls Try.prog 80 #[.agg #[.slice A n c, .slice A' n' c']] w fun e w' => e = .returned (.bool (lchalK l n' == mixV zs)) ∧ Below w.heap.size w w' := by
  have H := Lib.hid h
  have H' := Lib.hid h'
  have HCH := Lib.hid hb
  obtain ⟨mv, hmv⟩ : ∃ m, Hid (mixV zs = m) := ⟨_, Lib.hid rfl⟩
  have HM : ∀ W, Hid (Below w.heap.size w W → Calls Try.prog 53 #[.slice A n c] W fun e w' => e = .returned (.int .i64 mv) ∧ Below W.heap.size W w') := fun W => Lib.hid fun hb => by rw [← hmv.out]; exact i_mixChalB A n c zs W ((h.below hb).more hb.size) hn
  obtain ⟨lv, hlv⟩ : ∃ m, Hid (lchalK l n' = m) := ⟨_, Lib.hid rfl⟩
  have HC : ∀ W, Hid (Below w.heap.size w W → Calls Try.prog 109 #[.slice A' n' c'] W fun e w' => e = .returned (.int .i64 lv) ∧ Below W.heap.size W w') := fun W => Lib.hid fun hb' => by rw [← hlv.out]; exact i_chalOf_Twin A' n' c' l W ((h'.below hb').more hb'.size) hn' hb
  rw [hmv.out, hlv.out]
  clear h h' hb H H' HCH hmv hlv
  obtain ⟨W0, hW0⟩ : ∃ W, Hid (w.alloc (.cells #[.slice A n c, .slice A' n' c'] 89) = W) := ⟨_, Lib.hid rfl⟩
  have HB : Hid (Below w.heap.size w W0) := Lib.hid (by rw [← hW0.out]; exact (Below.refl _ _).alloc (Nat.le_refl _) _)
  have HX_s : Hid (Bx W0 w.heap.size #[.slice A n c, .slice A' n' c'] 89) := Lib.hid (by rw [← hW0.out]; exact Bx.new _ _ _)
  go_enter Try.func80, Try.ntmps80
  go_upto_region 1 with (fail)
  rw [hW0.out]
  clear hW0
  refine wp_region_held_drew (S := fun w' => w'.cell? ⟨w.heap.size, 0, none⟩ = some (.slice A n c) ∧ w'.cell? ⟨w.heap.size, 1, none⟩ = some (.slice A' n' c')) (by kernel_rfl) ⟨HX_s.out.cell 0, HX_s.out.cell 1⟩ (fun hHeld => ?_)
  obtain ⟨u0, hu0⟩ : ∃ u0, Hid (W0.drew = u0) := ⟨_, Lib.hid rfl⟩
  rw [hu0.out] at hHeld ⊢
  have zs0 : W0.heap.size = u0.heap.size := by rw [← hu0.out]; rfl
  replace zs0 := Nat.le_of_eq zs0
  have HBl0 : Hid (Below w.heap.size w u0) := Lib.hid (by rw [← hu0.out]; exact HB.out.drew)
  have HX_s0 : Hid (Bx u0 w.heap.size #[.slice A n c, .slice A' n' c'] 89) := Lib.hid (by rw [← hu0.out]; exact HX_s.out)
  clear hu0
  refine wpAnyH_take (i := 0) (oi := { dst := some 3, op := Op.fieldAddr 89 (Operand.tmp 1) 1, type := 0, pos := "l16_rings.go:45", after := #[], guard := none }) (v := ?_) rfl (by kernel_rfl) (by kernel_rfl) (by kernel_rfl) (fun _ _ _ h => h) (Or.inl ⟨by rfl, ?_⟩) hHeld ?_
  rotate_left
  · intro w hSw; obtain ⟨s0, s1⟩ := hSw; (try dsimp only at hSw); go_simp; (try with_reducible rfl)
  try simp only [Act.put, List.setIfInBounds_toArray, List.set_cons_zero, List.set_cons_succ]
  refine wpAnyH_take (i := 1) (oi := { dst := some 4, op := Op.load 34 (Operand.tmp 3), type := 34, pos := "l16_rings.go:45", after := #[{ on := 0, ground := Ground.data }], guard := none }) (v := ?_) rfl (by kernel_rfl) (by kernel_rfl) (by kernel_rfl) (fun _ _ _ h => h) (Or.inl ⟨by rfl, ?_⟩) hHeld ?_
  rotate_left
  · intro w hSw; obtain ⟨s0, s1⟩ := hSw; (try dsimp only at hSw); go_simp; (try with_reducible rfl)
  try simp only [Act.put, List.setIfInBounds_toArray, List.set_cons_zero, List.set_cons_succ]
  refine wpAnyH_take (i := 3) (oi := { dst := some 6, op := Op.fieldAddr 89 (Operand.tmp 1) 0, type := 0, pos := "l16_rings.go:45", after := #[], guard := none }) (v := ?_) rfl (by kernel_rfl) (by kernel_rfl) (by kernel_rfl) (fun _ _ _ h => h) (Or.inl ⟨by rfl, ?_⟩) hHeld ?_
  rotate_left
  · intro w hSw; obtain ⟨s0, s1⟩ := hSw; (try dsimp only at hSw); go_simp; (try with_reducible rfl)
  try simp only [Act.put, List.setIfInBounds_toArray, List.set_cons_zero, List.set_cons_succ]
  refine wpAnyH_take (i := 4) (oi := { dst := some 7, op := Op.load 70 (Operand.tmp 6), type := 70, pos := "l16_rings.go:45", after := #[{ on := 3, ground := Ground.data }], guard := none }) (v := ?_) rfl (by kernel_rfl) (by kernel_rfl) (by kernel_rfl) (fun _ _ _ h => h) (Or.inl ⟨by rfl, ?_⟩) hHeld ?_
  rotate_left
  · intro w hSw; obtain ⟨s0, s1⟩ := hSw; (try dsimp only at hSw); go_simp; (try with_reducible rfl)
  try simp only [Act.put, List.setIfInBounds_toArray, List.set_cons_zero, List.set_cons_succ]
  refine wpAnyH_ready (rs := [2]) (by kernel_rfl) (by simp) ?_
  refine AllReadyH.cons (o := { dst := some 5, op := Op.call { callee := Callee.value (Operand.func 109), args := #[Operand.tmp 4], argTypes := #[34] }, type := 58, pos := "l16_rings.go:45", after := #[{ on := 1, ground := Ground.data }], guard := none }) rfl (fun K hK => ?_) ?_
  · go_simp
    refine ((HC u0).out HBl0.out).mono ?_
    rintro e u1 ⟨rfl, hb_⟩
    have zs1 : u0.heap.size ≤ u1.heap.size := hb_.size
    have HBl1 : Hid (Below w.heap.size w u1) := Lib.hid (HBl0.out.trans (hb_.mono HBl0.out.size))
    have HX_s1 : Hid (Bx u1 w.heap.size #[.slice A n c, .slice A' n' c'] 89) := Lib.hid (HX_s0.out.below hb_ HX_s0.out.lt)
    clear hHeld hb_ HBl0 HX_s0
    (try dsimp only)
    (try go_wp2_with fail)
    refine hK.out _ _ ⟨HX_s1.out.cell 0, HX_s1.out.cell 1⟩ (fun hHeld => ?_)
    clear hK K
    try simp only [Act.put, List.setIfInBounds_toArray, List.set_cons_zero, List.set_cons_succ]
    refine wpAnyH_ready (rs := [5]) (by kernel_rfl) (by simp) ?_
    refine AllReadyH.cons (o := { dst := some 8, op := Op.call { callee := Callee.value (Operand.func 53), args := #[Operand.tmp 7], argTypes := #[70] }, type := 3, pos := "l16_rings.go:45", after := #[{ on := 4, ground := Ground.data }, { on := 2, ground := Ground.chain }], guard := none }) rfl (fun K hK => ?_) ?_
    · go_simp
      refine ((HM u1).out HBl1.out).mono ?_
      rintro e u2 ⟨rfl, hb_⟩
      have zs2 : u1.heap.size ≤ u2.heap.size := hb_.size
      have HBl2 : Hid (Below w.heap.size w u2) := Lib.hid (HBl1.out.trans (hb_.mono HBl1.out.size))
      have HX_s2 : Hid (Bx u2 w.heap.size #[.slice A n c, .slice A' n' c'] 89) := Lib.hid (HX_s1.out.below hb_ HX_s1.out.lt)
      clear hHeld hb_ HBl1 HX_s1
      (try dsimp only)
      (try go_wp2_with fail)
      refine hK.out _ _ ⟨HX_s2.out.cell 0, HX_s2.out.cell 1⟩ (fun hHeld => ?_)
      clear hK K
      try simp only [Act.put, List.setIfInBounds_toArray, List.set_cons_zero, List.set_cons_succ]
      refine wpAnyH_take (i := 6) (oi := { dst := some 9, op := Op.binOp BinOp.eql 3 (Operand.tmp 5) (Operand.tmp 8) 3, type := 4, pos := "l16_rings.go:45", after := #[{ on := 2, ground := Ground.data }, { on := 5, ground := Ground.data }], guard := none }) (v := ?_) rfl (by kernel_rfl) (by kernel_rfl) (by kernel_rfl) (fun _ _ _ h => h) (Or.inl ⟨by rfl, ?_⟩) hHeld ?_
      rotate_left
      · intro w hSw; obtain ⟨s0, s1⟩ := hSw; (try dsimp only at hSw); go_simp; (try with_reducible rfl)
      try simp only [Act.put, List.setIfInBounds_toArray, List.set_cons_zero, List.set_cons_succ]
      refine wpAnyH_take (i := 7) (oi := { dst := some 2, op := Op.assign (Operand.tmp 9), type := 4, pos := "l16_rings.go:45", after := #[{ on := 6, ground := Ground.data }, { on := 5, ground := Ground.chain }, { on := 0, ground := Ground.phase }, { on := 1, ground := Ground.phase }, { on := 2, ground := Ground.phase }, { on := 3, ground := Ground.phase }, { on := 4, ground := Ground.phase }, { on := 5, ground := Ground.phase }, { on := 6, ground := Ground.phase }], guard := none }) (v := ?_) rfl (by kernel_rfl) (by kernel_rfl) (by kernel_rfl) (fun _ _ _ h => h) (Or.inl ⟨by rfl, ?_⟩) hHeld ?_
      rotate_left
      · intro w hSw; obtain ⟨s0, s1⟩ := hSw; (try dsimp only at hSw); go_simp; (try with_reducible rfl)
      try simp only [Act.put, List.setIfInBounds_toArray, List.set_cons_zero, List.set_cons_succ]
      refine wpAnyH_done (by kernel_rfl) ?_ _
      go_wp2
      go_ret
      exact ⟨rfl, HBl2.out⟩
    exact AllReadyH.nil
  exact AllReadyH.nil

set_option maxHeartbeats 4000000 in
theorem i_LinkGood1 (B : Nat) (q tag x y z u : Int) (w : World) (hx : Bx w B #[.int .i64 tag] 3) :
    Calls Try.prog 77 #[.int .i64 q, .agg #[.int .i64 x, .int .i64 y, .int .i64 z, .int .i64 u], .pointer (some ⟨B, 0, none⟩)] w fun e w' => e = .returned (.bool (twinB 4 9 q tag x y z u)) ∧ Below w.heap.size w w' := by
  have HX := Lib.hid hx
  have hl := hx.lt
  clear hx
  obtain ⟨W0, hW0⟩ : ∃ W, Hid (w.alloc (.cells #[.int .i64 x, .int .i64 y, .int .i64 z, .int .i64 u] 76) = W) := ⟨_, Lib.hid rfl⟩
  have HB : Hid (Below w.heap.size w W0) := Lib.hid (by rw [← hW0.out]; exact (Below.refl _ _).alloc (Nat.le_refl _) _)
  have HX_t : Hid (Bx W0 B #[.int .i64 tag] 3) := Lib.hid (by rw [← hW0.out]; exact HX.out.alloc _)
  have HX_p : Hid (Bx W0 w.heap.size #[.int .i64 x, .int .i64 y, .int .i64 z, .int .i64 u] 76) := Lib.hid (by rw [← hW0.out]; exact Bx.new _ _ _)
  clear HX
  go_enter Try.func77, Try.ntmps77
  go_upto_region 1 with (fail)
  rw [hW0.out]
  clear hW0
  refine wp_region_held_drew (S := fun w' => w'.cell? ⟨B, 0, none⟩ = some (.int .i64 tag) ∧ w'.cell? ⟨w.heap.size, 0, none⟩ = some (.int .i64 x) ∧ w'.cell? ⟨w.heap.size, 1, none⟩ = some (.int .i64 y) ∧ w'.cell? ⟨w.heap.size, 2, none⟩ = some (.int .i64 z) ∧ w'.cell? ⟨w.heap.size, 3, none⟩ = some (.int .i64 u)) (by kernel_rfl) ⟨HX_t.out.cell 0, HX_p.out.cell 0, HX_p.out.cell 1, HX_p.out.cell 2, HX_p.out.cell 3⟩ (fun hHeld => ?_)
  obtain ⟨u0, hu0⟩ : ∃ u0, Hid (W0.drew = u0) := ⟨_, Lib.hid rfl⟩
  rw [hu0.out] at hHeld ⊢
  have zs0 : W0.heap.size = u0.heap.size := by rw [← hu0.out]; rfl
  replace zs0 := Nat.le_of_eq zs0
  have HBl0 : Hid (Below w.heap.size w u0) := Lib.hid (by rw [← hu0.out]; exact HB.out.drew)
  have HX_t0 : Hid (Bx u0 B #[.int .i64 tag] 3) := Lib.hid (by rw [← hu0.out]; exact HX_t.out)
  have HX_p0 : Hid (Bx u0 w.heap.size #[.int .i64 x, .int .i64 y, .int .i64 z, .int .i64 u] 76) := Lib.hid (by rw [← hu0.out]; exact HX_p.out)
  clear hu0
  refine wpAnyH_take (i := 1) (oi := { dst := some 7, op := Op.move (Operand.tmp 0), type := 3, pos := "l16_rings.go:131", after := #[], guard := none }) (v := ?_) rfl (by kernel_rfl) (by kernel_rfl) (by kernel_rfl) (fun _ _ _ h => h) (Or.inl ⟨by rfl, ?_⟩) hHeld ?_
  rotate_left
  · intro w hSw; obtain ⟨s0, s1, s2, s3, s4⟩ := hSw; (try dsimp only at hSw); go_simp; (try with_reducible rfl)
  try simp only [Act.put, List.setIfInBounds_toArray, List.set_cons_zero, List.set_cons_succ]
  refine wpAnyH_take (i := 2) (oi := { dst := some 8, op := Op.load 3 (Operand.tmp 2), type := 3, pos := "l16_rings.go:131", after := #[], guard := none }) (v := ?_) rfl (by kernel_rfl) (by kernel_rfl) (by kernel_rfl) (fun _ _ _ h => h) (Or.inl ⟨by rfl, ?_⟩) hHeld ?_
  rotate_left
  · intro w hSw; obtain ⟨s0, s1, s2, s3, s4⟩ := hSw; (try dsimp only at hSw); go_simp; (try with_reducible rfl)
  try simp only [Act.put, List.setIfInBounds_toArray, List.set_cons_zero, List.set_cons_succ]
  refine wpAnyH_take (i := 3) (oi := { dst := some 9, op := Op.build 80 #[(0, Operand.tmp 7), (1, Operand.tmp 8)], type := 80, pos := "l16_rings.go:131", after := #[{ on := 1, ground := Ground.data }, { on := 2, ground := Ground.data }], guard := none }) (v := ?_) rfl (by kernel_rfl) (by kernel_rfl) (by kernel_rfl) (fun _ _ _ h => h) (Or.inl ⟨by rfl, ?_⟩) hHeld ?_
  rotate_left
  · intro w hSw; obtain ⟨s0, s1, s2, s3, s4⟩ := hSw; (try dsimp only at hSw); go_simp; (try with_reducible rfl)
  try simp only [Act.put, List.setIfInBounds_toArray, List.set_cons_zero, List.set_cons_succ]
  refine wpAnyH_take (i := 4) (oi := { dst := some 10, op := Op.load 76 (Operand.tmp 4), type := 76, pos := "l16_rings.go:131", after := #[], guard := none }) (v := ?_) rfl (by kernel_rfl) (by kernel_rfl) (by kernel_rfl) (fun _ _ _ h => h) (Or.inl ⟨by rfl, ?_⟩) hHeld ?_
  rotate_left
  · intro w hSw; obtain ⟨s0, s1, s2, s3, s4⟩ := hSw; (try dsimp only at hSw); go_simp; (try with_reducible rfl)
  try simp only [Act.put, List.setIfInBounds_toArray, List.set_cons_zero, List.set_cons_succ]
  refine wpAnyH_ready (rs := [0]) (by kernel_rfl) (by simp) ?_
  refine AllReadyH.cons (o := { dst := some 6, op := Op.call { callee := Callee.value (Operand.func 62), args := #[], argTypes := #[] }, type := 80, pos := "l16_rings.go:131", after := #[], guard := none }) rfl (fun K hK => ?_) ?_
  · go_simp
    refine (i_linkBase u0).mono ?_
    rintro e u1 ⟨rfl, hb_⟩
    have zs1 : u0.heap.size ≤ u1.heap.size := hb_.size
    have HBl1 : Hid (Below w.heap.size w u1) := Lib.hid (HBl0.out.trans (hb_.mono HBl0.out.size))
    have HX_t1 : Hid (Bx u1 B #[.int .i64 tag] 3) := Lib.hid (HX_t0.out.below hb_ HX_t0.out.lt)
    have HX_p1 : Hid (Bx u1 w.heap.size #[.int .i64 x, .int .i64 y, .int .i64 z, .int .i64 u] 76) := Lib.hid (HX_p0.out.below hb_ HX_p0.out.lt)
    clear hHeld hb_ HBl0 HX_t0 HX_p0
    (try dsimp only)
    (try go_wp2_with fail)
    refine hK.out _ _ ⟨HX_t1.out.cell 0, HX_p1.out.cell 0, HX_p1.out.cell 1, HX_p1.out.cell 2, HX_p1.out.cell 3⟩ (fun hHeld => ?_)
    clear hK K
    try simp only [Act.put, List.setIfInBounds_toArray, List.set_cons_zero, List.set_cons_succ]
    refine wpAnyH_ready (rs := [5]) (by kernel_rfl) (by simp) ?_
    refine AllReadyH.cons (o := { dst := some 11, op := Op.call { callee := Callee.value (Operand.func 78), args := #[Operand.tmp 6, Operand.tmp 9, Operand.tmp 10], argTypes := #[80, 80, 76] }, type := 4, pos := "l16_rings.go:131", after := #[{ on := 0, ground := Ground.data }, { on := 3, ground := Ground.data }, { on := 4, ground := Ground.data }, { on := 0, ground := Ground.chain }], guard := none }) rfl (fun K hK => ?_) ?_
    · go_simp
      refine (X_i_TwinGood 4 9 q tag x y z u u1).mono ?_
      rintro e u2 ⟨rfl, hb_⟩
      have zs2 : u1.heap.size ≤ u2.heap.size := hb_.size
      have HBl2 : Hid (Below w.heap.size w u2) := Lib.hid (HBl1.out.trans (hb_.mono HBl1.out.size))
      have HX_t2 : Hid (Bx u2 B #[.int .i64 tag] 3) := Lib.hid (HX_t1.out.below hb_ HX_t1.out.lt)
      have HX_p2 : Hid (Bx u2 w.heap.size #[.int .i64 x, .int .i64 y, .int .i64 z, .int .i64 u] 76) := Lib.hid (HX_p1.out.below hb_ HX_p1.out.lt)
      clear hHeld hb_ HBl1 HX_t1 HX_p1
      (try dsimp only)
      (try go_wp2_with fail)
      refine hK.out _ _ ⟨HX_t2.out.cell 0, HX_p2.out.cell 0, HX_p2.out.cell 1, HX_p2.out.cell 2, HX_p2.out.cell 3⟩ (fun hHeld => ?_)
      clear hK K
      try simp only [Act.put, List.setIfInBounds_toArray, List.set_cons_zero, List.set_cons_succ]
      refine wpAnyH_take (i := 6) (oi := { dst := some 5, op := Op.assign (Operand.tmp 11), type := 4, pos := "l16_rings.go:131", after := #[{ on := 5, ground := Ground.data }, { on := 5, ground := Ground.chain }, { on := 0, ground := Ground.phase }, { on := 1, ground := Ground.phase }, { on := 2, ground := Ground.phase }, { on := 3, ground := Ground.phase }, { on := 4, ground := Ground.phase }, { on := 5, ground := Ground.phase }], guard := none }) (v := ?_) rfl (by kernel_rfl) (by kernel_rfl) (by kernel_rfl) (fun _ _ _ h => h) (Or.inl ⟨by rfl, ?_⟩) hHeld ?_
      rotate_left
      · intro w hSw; obtain ⟨s0, s1, s2, s3, s4⟩ := hSw; (try dsimp only at hSw); go_simp; (try with_reducible rfl)
      try simp only [Act.put, List.setIfInBounds_toArray, List.set_cons_zero, List.set_cons_succ]
      refine wpAnyH_done (by kernel_rfl) ?_ _
      go_wp2
      go_ret
      exact ⟨rfl, HBl2.out⟩
    exact AllReadyH.nil
  exact AllReadyH.nil
end Go.Proofs.Ytdhakbpimbadgaa
