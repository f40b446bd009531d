/- FnExactMarkedAdd answers true at every input: at each argument the function and its model answer alike, no argument is written, and the answer owns its memory. No condition. -/
import Derived.Test.YtipdflbnnmghdaaRows
import Derived.Test.YtipdflbnnmghdaaLaw
import Derived.Test.YtipdflbnnmghdaaDoor
import Derived.Deep.Cut
import Derived.Test.YtipdflbnnmghdaaMFnExactMarkedAdd
namespace Go.Proofs.Ytipdflbnnmghdaa.fnExactMarkedAdd
open Go.ChangeShapes Go.WideShapes Go.ChangeAt Go.RowKit
theorem own : ownKnob Try.prog.godebug = none := by kernel_rfl
set_option maxRecDepth 100000 in
set_option maxHeartbeats 4000000 in
theorem walk (A0_aX : Option Addr) (n0_aX c0_aX : Nat) (A1_aX : Option Addr) (n1_aX c1_aX : Nat) (d0_aX : List Int) (d1_aX : List Int) (A0_aY : Option Addr) (n0_aY c0_aY : Nat) (A1_aY : Option Addr) (n1_aY c1_aY : Nat) (d0_aY : List Int) (d1_aY : List Int) (w : World) (h0_aX : RdIntS w w.heap.size (.slice A0_aX n0_aX c0_aX) d0_aX) (h1_aX : RdIntS w w.heap.size (.slice A1_aX n1_aX c1_aX) d1_aX) (h0_aY : RdIntS w w.heap.size (.slice A0_aY n0_aY c0_aY) d0_aY) (h1_aY : RdIntS w w.heap.size (.slice A1_aY n1_aY c1_aY) d1_aY) :
    Calls Try.prog 9 #[.agg #[.slice A0_aX n0_aX c0_aX, .slice A1_aX n1_aX c1_aX], .agg #[.slice A0_aY n0_aY c0_aY, .slice A1_aY n1_aY c1_aY]] w fun e w' => e = .returned (.bool true) ∧ Below w.heap.size w w' := by
  obtain ⟨d_aX, hd_aX⟩ : ∃ d, d = (d0_aX, d1_aX) := ⟨_, rfl⟩
  obtain ⟨d_aY, hd_aY⟩ : ∃ d, d = (d0_aY, d1_aY) := ⟨_, rfl⟩
  have Ha_aX : Hid (RdMarked w w.heap.size (.agg #[.slice A0_aX n0_aX c0_aX, .slice A1_aX n1_aX c1_aX]) d_aX) := Lib.hid (by rw [hd_aX]; exact ⟨_, _, _, _, _, _, rfl, h0_aX, h1_aX⟩)
  have Ha_aY : Hid (RdMarked w w.heap.size (.agg #[.slice A0_aY n0_aY c0_aY, .slice A1_aY n1_aY c1_aY]) d_aY) := Lib.hid (by rw [hd_aY]; exact ⟨_, _, _, _, _, _, rfl, h0_aY, h1_aY⟩)
  clear h0_aX h1_aX hd_aX h0_aY h1_aY hd_aY
  go_enter Try.func9, Try.ntmps9
  obtain ⟨W0, hW0⟩ : ∃ W, Hid (((w.alloc (.cells #[.slice A0_aX n0_aX c0_aX, .slice A1_aX n1_aX c1_aX] 65)).alloc (.cells #[.slice A0_aY n0_aY c0_aY, .slice A1_aY n1_aY c1_aY] 65)) = W) := ⟨_, Lib.hid rfl⟩
  have HB_0 : Hid (Below w.heap.size w W0) := Lib.hid (by rw [← hW0.out]; exact ((Below.refl _ _).alloc (Nat.le_refl _) _).alloc (by simp) _)
  have z_0 : W0.heap.size = w.heap.size + 1 + 1 := by rw [← hW0.out]; simp only [World.size_alloc]
  have HX_aX : Hid (Bx W0 (w.heap.size) #[.slice A0_aX n0_aX c0_aX, .slice A1_aX n1_aX c1_aX] 65) := Lib.hid (by rw [← hW0.out]; have := Bx.new w #[.slice A0_aX n0_aX c0_aX, .slice A1_aX n1_aX c1_aX] 65; exact (this.alloc _))
  have HX_aY : Hid (Bx W0 (w.heap.size + 1) #[.slice A0_aY n0_aY c0_aY, .slice A1_aY n1_aY c1_aY] 65) := Lib.hid (by rw [← hW0.out]; have := Bx.new (w.alloc (.cells #[.slice A0_aX n0_aX c0_aX, .slice A1_aX n1_aX c1_aX] 65)) #[.slice A0_aY n0_aY c0_aY, .slice A1_aY n1_aY c1_aY] 65; rw [World.size_alloc] at this; exact this)
  go_wp2_with fail
  rw [hW0.out]
  clear hW0
  rcases Int.lt_or_le 1048576 (szMarked d_aX : Nat) with hl1 | hl1
  · refine (L_szMarked_no _ _ _ _ _ (RdMarked.below Ha_aX.out HB_0.out) (by omega) (by omega) (by omega) hl1).mono ?_
    rintro e w' ⟨rfl, hb⟩
    have hb2 := Lib.hid (HB_0.out.trans (hb.mono (by omega)))
    clear hb
    go_wp2
    go_ret
    exact ⟨rfl, hb2.out⟩
  refine (L_szMarked_ok _ _ _ _ _ (RdMarked.below Ha_aX.out HB_0.out) (by omega) (by omega) (by omega) hl1).mono ?_
  rintro e w2 ⟨L3, rfl, hx6, h0_4, h1_5, hy7⟩
  have hs_aX : szMarked d_aX ≤ 1048576 := by omega
  have z8 : W0.heap.size ≤ w2.heap.size := hy7.size
  have HS9 := Lib.hid hy7
  clear hy7
  have HX10 := Lib.hid (HX_aX.out.below HS9.out HX_aX.out.lt)
  clear HX_aX
  have HX11 := Lib.hid (HX_aY.out.below HS9.out HX_aY.out.lt)
  clear HX_aY
  have HB12 : Hid (Below w.heap.size w w2) := Lib.hid (HB_0.out.trans (HS9.out.mono (by omega)))
  clear HB_0
  clear HS9
  have fc20 : w2.cell? ⟨w.heap.size, 0, none⟩ = some (.slice A0_aX n0_aX c0_aX) := HX10.out.cell 0
  have fc21 : w2.cell? ⟨w.heap.size, 1, none⟩ = some (.slice A1_aX n1_aX c1_aX) := HX10.out.cell 1
  have fc22 : w2.cell? ⟨w.heap.size + 1, 0, none⟩ = some (.slice A0_aY n0_aY c0_aY) := HX11.out.cell 0
  have fc23 : w2.cell? ⟨w.heap.size + 1, 1, none⟩ = some (.slice A1_aY n1_aY c1_aY) := HX11.out.cell 1
  go_wp2_with fail
  rcases Int.lt_or_le L3 (szMarked d_aY : Nat) with hl13 | hl13
  · refine (L_szMarked_no _ _ _ _ _ (RdMarked.below Ha_aY.out HB12.out) (by omega) (by omega) (by omega) hl13).mono ?_
    rintro e w' ⟨rfl, hb⟩
    have hb2 := Lib.hid (HB12.out.trans (hb.mono (by omega)))
    clear hb
    go_wp2
    go_ret
    exact ⟨rfl, hb2.out⟩
  refine (L_szMarked_ok _ _ _ _ _ (RdMarked.below Ha_aY.out HB12.out) (by omega) (by omega) (by omega) hl13).mono ?_
  rintro e w14 ⟨L15, rfl, hx18, h0_16, h1_17, hy19⟩
  have hs_aY : szMarked d_aY ≤ 1048576 := by omega
  have z24 : w2.heap.size ≤ w14.heap.size := hy19.size
  have HS25 := Lib.hid hy19
  clear hy19
  clear fc20 fc21 fc22 fc23
  have HX26 := Lib.hid (HX10.out.below HS25.out HX10.out.lt)
  clear HX10
  have HX27 := Lib.hid (HX11.out.below HS25.out HX11.out.lt)
  clear HX11
  have HB28 : Hid (Below w.heap.size w w14) := Lib.hid (HB12.out.trans (HS25.out.mono (by omega)))
  clear HB12
  clear HS25
  go_upto_region 8 with (fail)
  have HRA_aX := Lib.hid (RdMarked.more (RdMarked.below Ha_aX.out HB28.out) (HB28.out).size)
  have HRA_aY := Lib.hid (RdMarked.more (RdMarked.below Ha_aY.out HB28.out) (HB28.out).size)
  go_cut [6, 7] from 27 (fun p q w' => ∃ (B s t : Nat) (A0_vr29 : Option Addr) (n0_vr29 c0_vr29 : Nat) (A1_vr29 : Option Addr) (n1_vr29 c1_vr29 : Nat), p = .pointer (some ⟨B, 0, none⟩) ∧ q = .bool (R_MarkedAdd_1 d_aX d_aY) ∧ Hid (Bx w' B #[.slice A0_vr29 n0_vr29 c0_vr29, .slice A1_vr29 n1_vr29 c1_vr29] 67) ∧ Hid (OwMarked w' s t (.agg #[.slice A0_vr29 n0_vr29 c0_vr29, .slice A1_vr29 n1_vr29 c1_vr29]) (R_MarkedAdd_0 d_aX d_aY)) ∧ Hid (w14.heap.size ≤ s ∧ s ≤ t ∧ t ≤ w'.heap.size ∧ w14.heap.size ≤ B ∧ B < w'.heap.size ∧ (B < s ∨ t ≤ B)) ∧ Hid (Below w14.heap.size w14 w'))
  case first =>
    have HB := Lib.hid (Below.refl w14.heap.size w14)
    have HX_aX_ := HX26
    have zl_aX : w.heap.size < w14.heap.size := HX26.out.lt
    have HX_aY_ := HX27
    have zl_aY : w.heap.size + 1 < w14.heap.size := HX27.out.lt
    try clear hl1
    try clear h0_4
    try clear h1_5
    try clear hx6
    try clear z8
    try clear hl13
    try clear h0_16
    try clear h1_17
    try clear hx18
    try clear z24
    try clear z_0
    go_wp2
    refine wp_region_held_drew (S := fun w' => w'.cell? ⟨w.heap.size, 0, none⟩ = some (.slice A0_aX n0_aX c0_aX) ∧ w'.cell? ⟨w.heap.size, 1, none⟩ = some (.slice A1_aX n1_aX c1_aX) ∧ w'.cell? ⟨(w.heap.size + 1), 0, none⟩ = some (.slice A0_aY n0_aY c0_aY) ∧ w'.cell? ⟨(w.heap.size + 1), 1, none⟩ = some (.slice A1_aY n1_aY c1_aY)) (by kernel_rfl) ⟨HX_aX_.out.cell 0, HX_aX_.out.cell 1, HX_aY_.out.cell 0, HX_aY_.out.cell 1⟩ (fun hHeld => ?_)
    obtain ⟨u0, hu0⟩ : ∃ u0, Hid (w14.drew = u0) := ⟨_, Lib.hid rfl⟩
    rw [hu0.out] at hHeld ⊢
    have zs0 : w14.heap.size = u0.heap.size := by rw [← hu0.out]; rfl
    replace zs0 := Nat.le_of_eq zs0
    have HBl0 : Hid (Below w14.heap.size w14 u0) := Lib.hid (by rw [← hu0.out]; exact HB.out.drew)
    have HX_aX_0 : Hid (Bx u0 w.heap.size #[.slice A0_aX n0_aX c0_aX, .slice A1_aX n1_aX c1_aX] 65) := Lib.hid (by rw [← hu0.out]; exact HX_aX_.out)
    have HX_aY_0 : Hid (Bx u0 (w.heap.size + 1) #[.slice A0_aY n0_aY c0_aY, .slice A1_aY n1_aY c1_aY] 65) := Lib.hid (by rw [← hu0.out]; exact HX_aY_.out)
    clear hu0
    refine wpAnyH_take (i := 0) (oi := { dst := some 28, op := Op.load 65 (Operand.tmp 2), type := 65, pos := "exact.go:1850", after := #[], guard := none }) (v := ?_) rfl (by kernel_rfl) (by kernel_rfl) (by kernel_rfl) (fun _ _ _ h => h) (Or.inl ⟨by rfl, ?_⟩) hHeld ?_
    rotate_left
    · intro w hSw; obtain ⟨s0, s1, s2, s3⟩ := hSw; (try dsimp only at hSw); go_simp; (try with_reducible rfl)
    try simp only [Act.put, List.setIfInBounds_toArray, List.set_cons_zero, List.set_cons_succ]
    refine wpAnyH_take (i := 2) (oi := { dst := some 30, op := Op.load 65 (Operand.tmp 3), type := 65, pos := "exact.go:1850", after := #[], guard := none }) (v := ?_) rfl (by kernel_rfl) (by kernel_rfl) (by kernel_rfl) (fun _ _ _ h => h) (Or.inl ⟨by rfl, ?_⟩) hHeld ?_
    rotate_left
    · intro w hSw; obtain ⟨s0, s1, s2, s3⟩ := hSw; (try dsimp only at hSw); go_simp; (try with_reducible rfl)
    try simp only [Act.put, List.setIfInBounds_toArray, List.set_cons_zero, List.set_cons_succ]
    refine wpAnyH_ready (rs := [1, 8]) (by kernel_rfl) (by simp) ?_
    refine AllReadyH.cons (o := { dst := some 29, op := Op.call { callee := Callee.value (Operand.func 41), args := #[Operand.tmp 28], argTypes := #[65] }, type := 67, pos := "exact.go:1850", after := #[{ on := 0, ground := Ground.data }], guard := none }) rfl (fun K hK => ?_) ?_
    · go_simp
      refine (L_toMarked _ _ d_aX u0 ((HRA_aX.out.below HBl0.out).more (HBl0.out).size) (Nat.le_refl _) hs_aX).mono ?_
      rintro e u1 ⟨vv_aX, rfl, h_oaX, hb_⟩
      have zs1 : u0.heap.size ≤ u1.heap.size := hb_.size
      have HBl1 : Hid (Below w14.heap.size w14 u1) := Lib.hid (HBl0.out.trans (hb_.mono HBl0.out.size))
      have HX_aX_1 : Hid (Bx u1 w.heap.size #[.slice A0_aX n0_aX c0_aX, .slice A1_aX n1_aX c1_aX] 65) := Lib.hid (HX_aX_0.out.below hb_ HX_aX_0.out.lt)
      have HX_aY_1 : Hid (Bx u1 (w.heap.size + 1) #[.slice A0_aY n0_aY c0_aY, .slice A1_aY n1_aY c1_aY] 65) := Lib.hid (HX_aY_0.out.below hb_ HX_aY_0.out.lt)
      have HO_oaX1 := Lib.hid h_oaX
      clear hHeld hb_ HBl0 HX_aX_0 HX_aY_0 h_oaX
      (try dsimp only)
      (try go_wp2_with fail)
      refine hK.out _ _ ⟨HX_aX_1.out.cell 0, HX_aX_1.out.cell 1, HX_aY_1.out.cell 0, HX_aY_1.out.cell 1⟩ (fun hHeld => ?_)
      clear hK K
      try simp only [Act.put, List.setIfInBounds_toArray, List.set_cons_zero, List.set_cons_succ]
      refine wpAnyH_ready (rs := [3, 8]) (by kernel_rfl) (by simp) ?_
      refine AllReadyH.cons (o := { dst := some 31, op := Op.call { callee := Callee.value (Operand.func 41), args := #[Operand.tmp 30], argTypes := #[65] }, type := 67, pos := "exact.go:1850", after := #[{ on := 2, ground := Ground.data }, { on := 1, ground := Ground.chain }], guard := none }) rfl (fun K hK => ?_) ?_
      · go_simp
        refine (L_toMarked _ _ d_aY u1 ((HRA_aY.out.below HBl1.out).more (HBl1.out).size) (Nat.le_refl _) hs_aY).mono ?_
        rintro e u2 ⟨vv_aY, rfl, h_oaY, hb_⟩
        have zs2 : u1.heap.size ≤ u2.heap.size := hb_.size
        have HBl2 : Hid (Below w14.heap.size w14 u2) := Lib.hid (HBl1.out.trans (hb_.mono HBl1.out.size))
        have HX_aX_2 : Hid (Bx u2 w.heap.size #[.slice A0_aX n0_aX c0_aX, .slice A1_aX n1_aX c1_aX] 65) := Lib.hid (HX_aX_1.out.below hb_ HX_aX_1.out.lt)
        have HX_aY_2 : Hid (Bx u2 (w.heap.size + 1) #[.slice A0_aY n0_aY c0_aY, .slice A1_aY n1_aY c1_aY] 65) := Lib.hid (HX_aY_1.out.below hb_ HX_aY_1.out.lt)
        have HO_oaX2 := Lib.hid (HO_oaX1.out.below hb_ (by omega))
        have HO_oaY2 := Lib.hid h_oaY
        clear hHeld hb_ HBl1 HX_aX_1 HX_aY_1 HO_oaX1 h_oaY
        (try dsimp only)
        (try go_wp2_with fail)
        refine hK.out _ _ ⟨HX_aX_2.out.cell 0, HX_aX_2.out.cell 1, HX_aY_2.out.cell 0, HX_aY_2.out.cell 1⟩ (fun hHeld => ?_)
        clear hK K
        try simp only [Act.put, List.setIfInBounds_toArray, List.set_cons_zero, List.set_cons_succ]
        refine wpAnyH_ready (rs := [4, 8]) (by kernel_rfl) (by simp) ?_
        refine AllReadyH.cons (o := { dst := some 32, op := Op.call { callee := Callee.value (Operand.func 40), args := #[Operand.tmp 29, Operand.tmp 31], argTypes := #[67, 67] }, type := 68, pos := "exact.go:1850", after := #[{ on := 1, ground := Ground.data }, { on := 3, ground := Ground.data }, { on := 3, ground := Ground.chain }], guard := none }) rfl (fun K hK => ?_) ?_
        · go_simp
          refine (X_s_MarkedAdd _ _ d_aX d_aY u2 (HO_oaX2.out.rd.more (by omega)) (HO_oaY2.out.rd.more (by omega)) hs_aX hs_aY).mono ?_
          rintro e u3 ⟨vr, rfl, h_or, hb_⟩
          have zs3 : u2.heap.size ≤ u3.heap.size := hb_.size
          have HBl3 : Hid (Below w14.heap.size w14 u3) := Lib.hid (HBl2.out.trans (hb_.mono HBl2.out.size))
          have HX_aX_3 : Hid (Bx u3 w.heap.size #[.slice A0_aX n0_aX c0_aX, .slice A1_aX n1_aX c1_aX] 65) := Lib.hid (HX_aX_2.out.below hb_ HX_aX_2.out.lt)
          have HX_aY_3 : Hid (Bx u3 (w.heap.size + 1) #[.slice A0_aY n0_aY c0_aY, .slice A1_aY n1_aY c1_aY] 65) := Lib.hid (HX_aY_2.out.below hb_ HX_aY_2.out.lt)
          have HO_oaX3 := Lib.hid (HO_oaX2.out.below hb_ (by omega))
          have HO_oaY3 := Lib.hid (HO_oaY2.out.below hb_ (by omega))
          have HO_or3 := Lib.hid h_or
          clear hHeld hb_ HBl2 HX_aX_2 HX_aY_2 HO_oaX2 HO_oaY2 h_or
          obtain ⟨A0_vr29, n0_vr29, c0_vr29, A1_vr29, n1_vr29, c1_vr29, hvr⟩ : ∃ A0_vr29 n0_vr29 c0_vr29 A1_vr29 n1_vr29 c1_vr29, vr = .agg #[.slice A0_vr29 n0_vr29 c0_vr29, .slice A1_vr29 n1_vr29 c1_vr29] := by obtain ⟨_, _, _, _, _, _, _, _, _, _, _, rfl, _⟩ := HO_or3.out; exact ⟨_, _, _, _, _, _, rfl⟩
          subst hvr
          (try dsimp only)
          (try go_wp2_with fail)
          refine hK.out _ _ ⟨HX_aX_3.out.cell 0, HX_aX_3.out.cell 1, HX_aY_3.out.cell 0, HX_aY_3.out.cell 1⟩ (fun hHeld => ?_)
          clear hK K
          try simp only [Act.put, List.setIfInBounds_toArray, List.set_cons_zero, List.set_cons_succ]
          refine wpAnyH_take (i := 5) (oi := { dst := some 27, op := Op.move (Operand.tmp 32), type := 68, pos := "exact.go:1850", after := #[{ on := 4, ground := Ground.data }], guard := none }) (v := ?_) rfl (by kernel_rfl) (by kernel_rfl) (by kernel_rfl) (fun _ _ _ h => h) (Or.inl ⟨by rfl, ?_⟩) hHeld ?_
          rotate_left
          · intro w hSw; obtain ⟨s0, s1, s2, s3⟩ := hSw; (try dsimp only at hSw); go_simp; (try with_reducible rfl)
          try simp only [Act.put, List.setIfInBounds_toArray, List.set_cons_zero, List.set_cons_succ]
          refine wpAnyH_take (i := 6) (oi := { dst := some 33, op := Op.extract (Operand.tmp 27) 0, type := 67, pos := "exact.go:1850", after := #[{ on := 5, ground := Ground.data }], guard := none }) (v := ?_) rfl (by kernel_rfl) (by kernel_rfl) (by kernel_rfl) (fun _ _ _ h => h) (Or.inl ⟨by rfl, ?_⟩) hHeld ?_
          rotate_left
          · intro w hSw; obtain ⟨s0, s1, s2, s3⟩ := hSw; (try dsimp only at hSw); go_simp; (try with_reducible rfl)
          try simp only [Act.put, List.setIfInBounds_toArray, List.set_cons_zero, List.set_cons_succ]
          refine wpAnyH_take (i := 7) (oi := { dst := some 34, op := Op.extract (Operand.tmp 27) 1, type := 4, pos := "exact.go:1850", after := #[{ on := 5, ground := Ground.data }, { on := 9, ground := Ground.gcOnly Departure.lateStores }], guard := none }) (v := ?_) rfl (by kernel_rfl) (by kernel_rfl) (by kernel_rfl) (fun _ _ _ h => h) (Or.inl ⟨by rfl, ?_⟩) hHeld ?_
          rotate_left
          · intro w hSw; obtain ⟨s0, s1, s2, s3⟩ := hSw; (try dsimp only at hSw); go_simp; (try with_reducible rfl)
          try simp only [Act.put, List.setIfInBounds_toArray, List.set_cons_zero, List.set_cons_succ]
          refine wpAnyH_ready (rs := [8]) (by kernel_rfl) (by simp) ?_
          refine AllReadyH.cons (o := { dst := some 6, op := Op.alloc 67, type := 0, pos := "exact.go:1850", after := #[], guard := none }) rfl (fun K hK => ?_) ?_
          · go_simp
            obtain ⟨u4, hw4⟩ : ∃ W, Hid (u3.alloc (.cells #[.slice none 0 0, .slice none 0 0] 67) = W) := ⟨_, Lib.hid rfl⟩
            rw [hw4.out]
            have zs4 : u3.heap.size < u4.heap.size := by rw [← hw4.out, World.size_alloc]; omega
            have HBl4 : Hid (Below w14.heap.size w14 u4) := Lib.hid (by rw [← hw4.out]; exact HBl3.out.alloc HBl3.out.size _)
            have HX_aX_4 : Hid (Bx u4 w.heap.size #[.slice A0_aX n0_aX c0_aX, .slice A1_aX n1_aX c1_aX] 65) := Lib.hid (by rw [← hw4.out]; exact HX_aX_3.out.alloc _)
            have HX_aY_4 : Hid (Bx u4 (w.heap.size + 1) #[.slice A0_aY n0_aY c0_aY, .slice A1_aY n1_aY c1_aY] 65) := Lib.hid (by rw [← hw4.out]; exact HX_aY_3.out.alloc _)
            have HX_R4 : Hid (Bx u4 u3.heap.size #[.slice none 0 0, .slice none 0 0] 67) := Lib.hid (by rw [← hw4.out]; exact Bx.new _ _ _)
            have hab4 : Below u3.heap.size u3 u4 := by rw [← hw4.out]; exact (Below.refl _ _).alloc (Nat.le_refl _) _
            have HO_oaX4 := Lib.hid (HO_oaX3.out.below hab4 (by omega))
            have HO_oaY4 := Lib.hid (HO_oaY3.out.below hab4 (by omega))
            have HO_or4 := Lib.hid (HO_or3.out.below hab4 (by omega))
            clear hHeld hw4 hab4 HBl3 HX_aX_3 HX_aY_3 HO_oaX3 HO_oaY3 HO_or3
            refine hK.out _ _ ⟨HX_aX_4.out.cell 0, HX_aX_4.out.cell 1, HX_aY_4.out.cell 0, HX_aY_4.out.cell 1⟩ (fun hHeld => ?_)
            clear hK K
            try simp only [Act.put, List.setIfInBounds_toArray, List.set_cons_zero, List.set_cons_succ]
            refine wpAnyH_ready (rs := [9]) (by kernel_rfl) (by simp) ?_
            refine AllReadyH.cons (o := { dst := none, op := Op.store 67 (Operand.tmp 6) (Operand.tmp 33), type := 0, pos := "exact.go:1850", after := #[{ on := 8, ground := Ground.data }, { on := 6, ground := Ground.data }, { on := 4, ground := Ground.chain }, { on := 0, ground := Ground.phase }, { on := 1, ground := Ground.phase }, { on := 2, ground := Ground.phase }, { on := 3, ground := Ground.phase }, { on := 4, ground := Ground.phase }, { on := 5, ground := Ground.phase }, { on := 6, ground := Ground.phase }, { on := 7, ground := Ground.textOnly Departure.lateStores }, { on := 8, ground := Ground.phase }], guard := none }) rfl (fun K hK => ?_) ?_
            · have xc0 : u4.cell? ⟨u3.heap.size, 0, none⟩ = some (.slice none 0 0) := HX_R4.out.cell 0
              have xf0 : u4.frozen? ⟨u3.heap.size, 0, none⟩ = false := HX_R4.out.free 0
              have xc1 : u4.cell? ⟨u3.heap.size, 1, none⟩ = some (.slice none 0 0) := HX_R4.out.cell 1
              have xf1 : u4.frozen? ⟨u3.heap.size, 1, none⟩ = false := HX_R4.out.free 1
              go_simp
              obtain ⟨u5, hw5⟩ : ∃ W, Hid (((u4.setCell ⟨u3.heap.size, 0, none⟩ (.slice A0_vr29 n0_vr29 c0_vr29)).setCell ⟨u3.heap.size, 1, none⟩ (.slice A1_vr29 n1_vr29 c1_vr29)) = W) := ⟨_, Lib.hid rfl⟩
              rw [hw5.out]
              have hk5 : Kept (u3.heap.size) (u3.heap.size + 1) u4 u5 := by rw [← hw5.out]; exact ((Kept.refl _ _ _).setCell (p := ⟨u3.heap.size, 0, none⟩) (Nat.le_refl _) (Nat.lt_succ_self _) _).setCell (p := ⟨u3.heap.size, 1, none⟩) (Nat.le_refl _) (Nat.lt_succ_self _) _
              have zs5 : u4.heap.size ≤ u5.heap.size := hk5.size
              have hlo5 := HBl4.out.size
              have HBl5 : Hid (Below w14.heap.size w14 u5) := Lib.hid (HBl4.out.trans ((hk5.to_below (by have := HX_R4.out.lt; omega)).mono (by omega)))
              have HX_R5 : Hid (Bx u5 u3.heap.size #[.slice A0_vr29 n0_vr29 c0_vr29, .slice A1_vr29 n1_vr29 c1_vr29] 67) := Lib.hid (by have := ((HX_R4.out).set 0 (.slice A0_vr29 n0_vr29 c0_vr29)).set 1 (.slice A1_vr29 n1_vr29 c1_vr29); rw [hw5.out] at this; exact this)
              have HX_aX_5 : Hid (Bx u5 w.heap.size #[.slice A0_aX n0_aX c0_aX, .slice A1_aX n1_aX c1_aX] 65) := Lib.hid (HX_aX_4.out.kept hk5 (by have := HX_aX_4.out.lt; have := HX_aY_4.out.lt; have := HX_R4.out.lt; omega))
              have HX_aY_5 : Hid (Bx u5 (w.heap.size + 1) #[.slice A0_aY n0_aY c0_aY, .slice A1_aY n1_aY c1_aY] 65) := Lib.hid (HX_aY_4.out.kept hk5 (by have := HX_aX_4.out.lt; have := HX_aY_4.out.lt; have := HX_R4.out.lt; omega))
              have HO_oaX5 := Lib.hid (HO_oaX4.out.kept hk5 (by omega) (by omega))
              have HO_oaY5 := Lib.hid (HO_oaY4.out.kept hk5 (by omega) (by omega))
              have HO_or5 := Lib.hid (HO_or4.out.kept hk5 (by omega) (by omega))
              clear hHeld hw5 hk5 hlo5 xc0 xf0 xc1 xf1 HBl4 HX_aX_4 HX_aY_4 HX_R4 HO_oaX4 HO_oaY4 HO_or4
              refine hK.out _ _ ⟨HX_aX_5.out.cell 0, HX_aX_5.out.cell 1, HX_aY_5.out.cell 0, HX_aY_5.out.cell 1⟩ (fun hHeld => ?_)
              clear hK K
              try simp only [Act.put]
              refine wpAnyH_take (i := 10) (oi := { dst := some 7, op := Op.assign (Operand.tmp 34), type := 4, pos := "exact.go:1850", after := #[{ on := 7, ground := Ground.data }, { on := 9, ground := Ground.chain }, { on := 0, ground := Ground.phase }, { on := 1, ground := Ground.phase }, { on := 2, ground := Ground.phase }, { on := 3, ground := Ground.phase }, { on := 4, ground := Ground.phase }, { on := 5, ground := Ground.phase }, { on := 6, ground := Ground.phase }, { on := 7, ground := Ground.phase }, { on := 8, ground := Ground.phase }, { on := 9, ground := Ground.phase }], guard := none }) (v := ?_) rfl (by kernel_rfl) (by kernel_rfl) (by kernel_rfl) (fun _ _ _ h => h) (Or.inl ⟨by rfl, ?_⟩) hHeld ?_
              rotate_left
              · intro w hSw; obtain ⟨s0, s1, s2, s3⟩ := hSw; (try dsimp only at hSw); go_simp; (try with_reducible rfl)
              try simp only [Act.put, List.setIfInBounds_toArray, List.set_cons_zero, List.set_cons_succ]
              refine wpAnyH_done (by kernel_rfl) ?_ _
              go_wp2
              go_meet
              case rel => exact ⟨u3.heap.size, _, _, _, _, _, _, _, _, rfl, rfl, HX_R5, HO_or5, Lib.hid ⟨by omega, by omega, by omega, by omega, by omega, by omega⟩, HBl5⟩
            exact AllReadyH.nil
          exact AllReadyH.nil
        refine AllReadyH.cons (o := { dst := some 6, op := Op.alloc 67, type := 0, pos := "exact.go:1850", after := #[], guard := none }) rfl (fun K hK => ?_) ?_
        · go_simp
          obtain ⟨u3, hw3⟩ : ∃ W, Hid (u2.alloc (.cells #[.slice none 0 0, .slice none 0 0] 67) = W) := ⟨_, Lib.hid rfl⟩
          rw [hw3.out]
          have zs3 : u2.heap.size < u3.heap.size := by rw [← hw3.out, World.size_alloc]; omega
          have HBl3 : Hid (Below w14.heap.size w14 u3) := Lib.hid (by rw [← hw3.out]; exact HBl2.out.alloc HBl2.out.size _)
          have HX_aX_3 : Hid (Bx u3 w.heap.size #[.slice A0_aX n0_aX c0_aX, .slice A1_aX n1_aX c1_aX] 65) := Lib.hid (by rw [← hw3.out]; exact HX_aX_2.out.alloc _)
          have HX_aY_3 : Hid (Bx u3 (w.heap.size + 1) #[.slice A0_aY n0_aY c0_aY, .slice A1_aY n1_aY c1_aY] 65) := Lib.hid (by rw [← hw3.out]; exact HX_aY_2.out.alloc _)
          have HX_R3 : Hid (Bx u3 u2.heap.size #[.slice none 0 0, .slice none 0 0] 67) := Lib.hid (by rw [← hw3.out]; exact Bx.new _ _ _)
          have hab3 : Below u2.heap.size u2 u3 := by rw [← hw3.out]; exact (Below.refl _ _).alloc (Nat.le_refl _) _
          have HO_oaX3 := Lib.hid (HO_oaX2.out.below hab3 (by omega))
          have HO_oaY3 := Lib.hid (HO_oaY2.out.below hab3 (by omega))
          clear hHeld hw3 hab3 HBl2 HX_aX_2 HX_aY_2 HO_oaX2 HO_oaY2
          refine hK.out _ _ ⟨HX_aX_3.out.cell 0, HX_aX_3.out.cell 1, HX_aY_3.out.cell 0, HX_aY_3.out.cell 1⟩ (fun hHeld => ?_)
          clear hK K
          try simp only [Act.put, List.setIfInBounds_toArray, List.set_cons_zero, List.set_cons_succ]
          refine wpAnyH_ready (rs := [4]) (by kernel_rfl) (by simp) ?_
          refine AllReadyH.cons (o := { dst := some 32, op := Op.call { callee := Callee.value (Operand.func 40), args := #[Operand.tmp 29, Operand.tmp 31], argTypes := #[67, 67] }, type := 68, pos := "exact.go:1850", after := #[{ on := 1, ground := Ground.data }, { on := 3, ground := Ground.data }, { on := 3, ground := Ground.chain }], guard := none }) rfl (fun K hK => ?_) ?_
          · go_simp
            refine (X_s_MarkedAdd _ _ d_aX d_aY u3 (HO_oaX3.out.rd.more (by omega)) (HO_oaY3.out.rd.more (by omega)) hs_aX hs_aY).mono ?_
            rintro e u4 ⟨vr, rfl, h_or, hb_⟩
            have zs4 : u3.heap.size ≤ u4.heap.size := hb_.size
            have HBl4 : Hid (Below w14.heap.size w14 u4) := Lib.hid (HBl3.out.trans (hb_.mono HBl3.out.size))
            have HX_aX_4 : Hid (Bx u4 w.heap.size #[.slice A0_aX n0_aX c0_aX, .slice A1_aX n1_aX c1_aX] 65) := Lib.hid (HX_aX_3.out.below hb_ HX_aX_3.out.lt)
            have HX_aY_4 : Hid (Bx u4 (w.heap.size + 1) #[.slice A0_aY n0_aY c0_aY, .slice A1_aY n1_aY c1_aY] 65) := Lib.hid (HX_aY_3.out.below hb_ HX_aY_3.out.lt)
            have HX_R4 : Hid (Bx u4 u2.heap.size #[.slice none 0 0, .slice none 0 0] 67) := Lib.hid (HX_R3.out.below hb_ HX_R3.out.lt)
            have HO_oaX4 := Lib.hid (HO_oaX3.out.below hb_ (by omega))
            have HO_oaY4 := Lib.hid (HO_oaY3.out.below hb_ (by omega))
            have HO_or4 := Lib.hid h_or
            clear hHeld hb_ HBl3 HX_aX_3 HX_aY_3 HX_R3 HO_oaX3 HO_oaY3 h_or
            obtain ⟨A0_vr29, n0_vr29, c0_vr29, A1_vr29, n1_vr29, c1_vr29, hvr⟩ : ∃ A0_vr29 n0_vr29 c0_vr29 A1_vr29 n1_vr29 c1_vr29, vr = .agg #[.slice A0_vr29 n0_vr29 c0_vr29, .slice A1_vr29 n1_vr29 c1_vr29] := by obtain ⟨_, _, _, _, _, _, _, _, _, _, _, rfl, _⟩ := HO_or4.out; exact ⟨_, _, _, _, _, _, rfl⟩
            subst hvr
            (try dsimp only)
            (try go_wp2_with fail)
            refine hK.out _ _ ⟨HX_aX_4.out.cell 0, HX_aX_4.out.cell 1, HX_aY_4.out.cell 0, HX_aY_4.out.cell 1⟩ (fun hHeld => ?_)
            clear hK K
            try simp only [Act.put, List.setIfInBounds_toArray, List.set_cons_zero, List.set_cons_succ]
            refine wpAnyH_take (i := 5) (oi := { dst := some 27, op := Op.move (Operand.tmp 32), type := 68, pos := "exact.go:1850", after := #[{ on := 4, ground := Ground.data }], guard := none }) (v := ?_) rfl (by kernel_rfl) (by kernel_rfl) (by kernel_rfl) (fun _ _ _ h => h) (Or.inl ⟨by rfl, ?_⟩) hHeld ?_
            rotate_left
            · intro w hSw; obtain ⟨s0, s1, s2, s3⟩ := hSw; (try dsimp only at hSw); go_simp; (try with_reducible rfl)
            try simp only [Act.put, List.setIfInBounds_toArray, List.set_cons_zero, List.set_cons_succ]
            refine wpAnyH_take (i := 6) (oi := { dst := some 33, op := Op.extract (Operand.tmp 27) 0, type := 67, pos := "exact.go:1850", after := #[{ on := 5, ground := Ground.data }], guard := none }) (v := ?_) rfl (by kernel_rfl) (by kernel_rfl) (by kernel_rfl) (fun _ _ _ h => h) (Or.inl ⟨by rfl, ?_⟩) hHeld ?_
            rotate_left
            · intro w hSw; obtain ⟨s0, s1, s2, s3⟩ := hSw; (try dsimp only at hSw); go_simp; (try with_reducible rfl)
            try simp only [Act.put, List.setIfInBounds_toArray, List.set_cons_zero, List.set_cons_succ]
            refine wpAnyH_take (i := 7) (oi := { dst := some 34, op := Op.extract (Operand.tmp 27) 1, type := 4, pos := "exact.go:1850", after := #[{ on := 5, ground := Ground.data }, { on := 9, ground := Ground.gcOnly Departure.lateStores }], guard := none }) (v := ?_) rfl (by kernel_rfl) (by kernel_rfl) (by kernel_rfl) (fun _ _ _ h => h) (Or.inl ⟨by rfl, ?_⟩) hHeld ?_
            rotate_left
            · intro w hSw; obtain ⟨s0, s1, s2, s3⟩ := hSw; (try dsimp only at hSw); go_simp; (try with_reducible rfl)
            try simp only [Act.put, List.setIfInBounds_toArray, List.set_cons_zero, List.set_cons_succ]
            refine wpAnyH_ready (rs := [9]) (by kernel_rfl) (by simp) ?_
            refine AllReadyH.cons (o := { dst := none, op := Op.store 67 (Operand.tmp 6) (Operand.tmp 33), type := 0, pos := "exact.go:1850", after := #[{ on := 8, ground := Ground.data }, { on := 6, ground := Ground.data }, { on := 4, ground := Ground.chain }, { on := 0, ground := Ground.phase }, { on := 1, ground := Ground.phase }, { on := 2, ground := Ground.phase }, { on := 3, ground := Ground.phase }, { on := 4, ground := Ground.phase }, { on := 5, ground := Ground.phase }, { on := 6, ground := Ground.phase }, { on := 7, ground := Ground.textOnly Departure.lateStores }, { on := 8, ground := Ground.phase }], guard := none }) rfl (fun K hK => ?_) ?_
            · have xc0 : u4.cell? ⟨u2.heap.size, 0, none⟩ = some (.slice none 0 0) := HX_R4.out.cell 0
              have xf0 : u4.frozen? ⟨u2.heap.size, 0, none⟩ = false := HX_R4.out.free 0
              have xc1 : u4.cell? ⟨u2.heap.size, 1, none⟩ = some (.slice none 0 0) := HX_R4.out.cell 1
              have xf1 : u4.frozen? ⟨u2.heap.size, 1, none⟩ = false := HX_R4.out.free 1
              go_simp
              obtain ⟨u5, hw5⟩ : ∃ W, Hid (((u4.setCell ⟨u2.heap.size, 0, none⟩ (.slice A0_vr29 n0_vr29 c0_vr29)).setCell ⟨u2.heap.size, 1, none⟩ (.slice A1_vr29 n1_vr29 c1_vr29)) = W) := ⟨_, Lib.hid rfl⟩
              rw [hw5.out]
              have hk5 : Kept (u2.heap.size) (u2.heap.size + 1) u4 u5 := by rw [← hw5.out]; exact ((Kept.refl _ _ _).setCell (p := ⟨u2.heap.size, 0, none⟩) (Nat.le_refl _) (Nat.lt_succ_self _) _).setCell (p := ⟨u2.heap.size, 1, none⟩) (Nat.le_refl _) (Nat.lt_succ_self _) _
              have zs5 : u4.heap.size ≤ u5.heap.size := hk5.size
              have hlo5 := HBl4.out.size
              have HBl5 : Hid (Below w14.heap.size w14 u5) := Lib.hid (HBl4.out.trans ((hk5.to_below (by have := HX_R4.out.lt; omega)).mono (by omega)))
              have HX_R5 : Hid (Bx u5 u2.heap.size #[.slice A0_vr29 n0_vr29 c0_vr29, .slice A1_vr29 n1_vr29 c1_vr29] 67) := Lib.hid (by have := ((HX_R4.out).set 0 (.slice A0_vr29 n0_vr29 c0_vr29)).set 1 (.slice A1_vr29 n1_vr29 c1_vr29); rw [hw5.out] at this; exact this)
              have HX_aX_5 : Hid (Bx u5 w.heap.size #[.slice A0_aX n0_aX c0_aX, .slice A1_aX n1_aX c1_aX] 65) := Lib.hid (HX_aX_4.out.kept hk5 (by have := HX_aX_4.out.lt; have := HX_aY_4.out.lt; have := HX_R4.out.lt; omega))
              have HX_aY_5 : Hid (Bx u5 (w.heap.size + 1) #[.slice A0_aY n0_aY c0_aY, .slice A1_aY n1_aY c1_aY] 65) := Lib.hid (HX_aY_4.out.kept hk5 (by have := HX_aX_4.out.lt; have := HX_aY_4.out.lt; have := HX_R4.out.lt; omega))
              have HO_oaX5 := Lib.hid (HO_oaX4.out.kept hk5 (by omega) (by omega))
              have HO_oaY5 := Lib.hid (HO_oaY4.out.kept hk5 (by omega) (by omega))
              have HO_or5 := Lib.hid (HO_or4.out.kept hk5 (by omega) (by omega))
              clear hHeld hw5 hk5 hlo5 xc0 xf0 xc1 xf1 HBl4 HX_aX_4 HX_aY_4 HX_R4 HO_oaX4 HO_oaY4 HO_or4
              refine hK.out _ _ ⟨HX_aX_5.out.cell 0, HX_aX_5.out.cell 1, HX_aY_5.out.cell 0, HX_aY_5.out.cell 1⟩ (fun hHeld => ?_)
              clear hK K
              try simp only [Act.put]
              refine wpAnyH_take (i := 10) (oi := { dst := some 7, op := Op.assign (Operand.tmp 34), type := 4, pos := "exact.go:1850", after := #[{ on := 7, ground := Ground.data }, { on := 9, ground := Ground.chain }, { on := 0, ground := Ground.phase }, { on := 1, ground := Ground.phase }, { on := 2, ground := Ground.phase }, { on := 3, ground := Ground.phase }, { on := 4, ground := Ground.phase }, { on := 5, ground := Ground.phase }, { on := 6, ground := Ground.phase }, { on := 7, ground := Ground.phase }, { on := 8, ground := Ground.phase }, { on := 9, ground := Ground.phase }], guard := none }) (v := ?_) rfl (by kernel_rfl) (by kernel_rfl) (by kernel_rfl) (fun _ _ _ h => h) (Or.inl ⟨by rfl, ?_⟩) hHeld ?_
              rotate_left
              · intro w hSw; obtain ⟨s0, s1, s2, s3⟩ := hSw; (try dsimp only at hSw); go_simp; (try with_reducible rfl)
              try simp only [Act.put, List.setIfInBounds_toArray, List.set_cons_zero, List.set_cons_succ]
              refine wpAnyH_done (by kernel_rfl) ?_ _
              go_wp2
              go_meet
              case rel => exact ⟨u2.heap.size, _, _, _, _, _, _, _, _, rfl, rfl, HX_R5, HO_or5, Lib.hid ⟨by omega, by omega, by omega, by omega, by omega, by omega⟩, HBl5⟩
            exact AllReadyH.nil
          exact AllReadyH.nil
        exact AllReadyH.nil
      refine AllReadyH.cons (o := { dst := some 6, op := Op.alloc 67, type := 0, pos := "exact.go:1850", after := #[], guard := none }) rfl (fun K hK => ?_) ?_
      · go_simp
        obtain ⟨u2, hw2⟩ : ∃ W, Hid (u1.alloc (.cells #[.slice none 0 0, .slice none 0 0] 67) = W) := ⟨_, Lib.hid rfl⟩
        rw [hw2.out]
        have zs2 : u1.heap.size < u2.heap.size := by rw [← hw2.out, World.size_alloc]; omega
        have HBl2 : Hid (Below w14.heap.size w14 u2) := Lib.hid (by rw [← hw2.out]; exact HBl1.out.alloc HBl1.out.size _)
        have HX_aX_2 : Hid (Bx u2 w.heap.size #[.slice A0_aX n0_aX c0_aX, .slice A1_aX n1_aX c1_aX] 65) := Lib.hid (by rw [← hw2.out]; exact HX_aX_1.out.alloc _)
        have HX_aY_2 : Hid (Bx u2 (w.heap.size + 1) #[.slice A0_aY n0_aY c0_aY, .slice A1_aY n1_aY c1_aY] 65) := Lib.hid (by rw [← hw2.out]; exact HX_aY_1.out.alloc _)
        have HX_R2 : Hid (Bx u2 u1.heap.size #[.slice none 0 0, .slice none 0 0] 67) := Lib.hid (by rw [← hw2.out]; exact Bx.new _ _ _)
        have hab2 : Below u1.heap.size u1 u2 := by rw [← hw2.out]; exact (Below.refl _ _).alloc (Nat.le_refl _) _
        have HO_oaX2 := Lib.hid (HO_oaX1.out.below hab2 (by omega))
        clear hHeld hw2 hab2 HBl1 HX_aX_1 HX_aY_1 HO_oaX1
        refine hK.out _ _ ⟨HX_aX_2.out.cell 0, HX_aX_2.out.cell 1, HX_aY_2.out.cell 0, HX_aY_2.out.cell 1⟩ (fun hHeld => ?_)
        clear hK K
        try simp only [Act.put, List.setIfInBounds_toArray, List.set_cons_zero, List.set_cons_succ]
        refine wpAnyH_ready (rs := [3]) (by kernel_rfl) (by simp) ?_
        refine AllReadyH.cons (o := { dst := some 31, op := Op.call { callee := Callee.value (Operand.func 41), args := #[Operand.tmp 30], argTypes := #[65] }, type := 67, pos := "exact.go:1850", after := #[{ on := 2, ground := Ground.data }, { on := 1, ground := Ground.chain }], guard := none }) rfl (fun K hK => ?_) ?_
        · go_simp
          refine (L_toMarked _ _ d_aY u2 ((HRA_aY.out.below HBl2.out).more (HBl2.out).size) (Nat.le_refl _) hs_aY).mono ?_
          rintro e u3 ⟨vv_aY, rfl, h_oaY, hb_⟩
          have zs3 : u2.heap.size ≤ u3.heap.size := hb_.size
          have HBl3 : Hid (Below w14.heap.size w14 u3) := Lib.hid (HBl2.out.trans (hb_.mono HBl2.out.size))
          have HX_aX_3 : Hid (Bx u3 w.heap.size #[.slice A0_aX n0_aX c0_aX, .slice A1_aX n1_aX c1_aX] 65) := Lib.hid (HX_aX_2.out.below hb_ HX_aX_2.out.lt)
          have HX_aY_3 : Hid (Bx u3 (w.heap.size + 1) #[.slice A0_aY n0_aY c0_aY, .slice A1_aY n1_aY c1_aY] 65) := Lib.hid (HX_aY_2.out.below hb_ HX_aY_2.out.lt)
          have HX_R3 : Hid (Bx u3 u1.heap.size #[.slice none 0 0, .slice none 0 0] 67) := Lib.hid (HX_R2.out.below hb_ HX_R2.out.lt)
          have HO_oaX3 := Lib.hid (HO_oaX2.out.below hb_ (by omega))
          have HO_oaY3 := Lib.hid h_oaY
          clear hHeld hb_ HBl2 HX_aX_2 HX_aY_2 HX_R2 HO_oaX2 h_oaY
          (try dsimp only)
          (try go_wp2_with fail)
          refine hK.out _ _ ⟨HX_aX_3.out.cell 0, HX_aX_3.out.cell 1, HX_aY_3.out.cell 0, HX_aY_3.out.cell 1⟩ (fun hHeld => ?_)
          clear hK K
          try simp only [Act.put, List.setIfInBounds_toArray, List.set_cons_zero, List.set_cons_succ]
          refine wpAnyH_ready (rs := [4]) (by kernel_rfl) (by simp) ?_
          refine AllReadyH.cons (o := { dst := some 32, op := Op.call { callee := Callee.value (Operand.func 40), args := #[Operand.tmp 29, Operand.tmp 31], argTypes := #[67, 67] }, type := 68, pos := "exact.go:1850", after := #[{ on := 1, ground := Ground.data }, { on := 3, ground := Ground.data }, { on := 3, ground := Ground.chain }], guard := none }) rfl (fun K hK => ?_) ?_
          · go_simp
            refine (X_s_MarkedAdd _ _ d_aX d_aY u3 (HO_oaX3.out.rd.more (by omega)) (HO_oaY3.out.rd.more (by omega)) hs_aX hs_aY).mono ?_
            rintro e u4 ⟨vr, rfl, h_or, hb_⟩
            have zs4 : u3.heap.size ≤ u4.heap.size := hb_.size
            have HBl4 : Hid (Below w14.heap.size w14 u4) := Lib.hid (HBl3.out.trans (hb_.mono HBl3.out.size))
            have HX_aX_4 : Hid (Bx u4 w.heap.size #[.slice A0_aX n0_aX c0_aX, .slice A1_aX n1_aX c1_aX] 65) := Lib.hid (HX_aX_3.out.below hb_ HX_aX_3.out.lt)
            have HX_aY_4 : Hid (Bx u4 (w.heap.size + 1) #[.slice A0_aY n0_aY c0_aY, .slice A1_aY n1_aY c1_aY] 65) := Lib.hid (HX_aY_3.out.below hb_ HX_aY_3.out.lt)
            have HX_R4 : Hid (Bx u4 u1.heap.size #[.slice none 0 0, .slice none 0 0] 67) := Lib.hid (HX_R3.out.below hb_ HX_R3.out.lt)
            have HO_oaX4 := Lib.hid (HO_oaX3.out.below hb_ (by omega))
            have HO_oaY4 := Lib.hid (HO_oaY3.out.below hb_ (by omega))
            have HO_or4 := Lib.hid h_or
            clear hHeld hb_ HBl3 HX_aX_3 HX_aY_3 HX_R3 HO_oaX3 HO_oaY3 h_or
            obtain ⟨A0_vr29, n0_vr29, c0_vr29, A1_vr29, n1_vr29, c1_vr29, hvr⟩ : ∃ A0_vr29 n0_vr29 c0_vr29 A1_vr29 n1_vr29 c1_vr29, vr = .agg #[.slice A0_vr29 n0_vr29 c0_vr29, .slice A1_vr29 n1_vr29 c1_vr29] := by obtain ⟨_, _, _, _, _, _, _, _, _, _, _, rfl, _⟩ := HO_or4.out; exact ⟨_, _, _, _, _, _, rfl⟩
            subst hvr
            (try dsimp only)
            (try go_wp2_with fail)
            refine hK.out _ _ ⟨HX_aX_4.out.cell 0, HX_aX_4.out.cell 1, HX_aY_4.out.cell 0, HX_aY_4.out.cell 1⟩ (fun hHeld => ?_)
            clear hK K
            try simp only [Act.put, List.setIfInBounds_toArray, List.set_cons_zero, List.set_cons_succ]
            refine wpAnyH_take (i := 5) (oi := { dst := some 27, op := Op.move (Operand.tmp 32), type := 68, pos := "exact.go:1850", after := #[{ on := 4, ground := Ground.data }], guard := none }) (v := ?_) rfl (by kernel_rfl) (by kernel_rfl) (by kernel_rfl) (fun _ _ _ h => h) (Or.inl ⟨by rfl, ?_⟩) hHeld ?_
            rotate_left
            · intro w hSw; obtain ⟨s0, s1, s2, s3⟩ := hSw; (try dsimp only at hSw); go_simp; (try with_reducible rfl)
            try simp only [Act.put, List.setIfInBounds_toArray, List.set_cons_zero, List.set_cons_succ]
            refine wpAnyH_take (i := 6) (oi := { dst := some 33, op := Op.extract (Operand.tmp 27) 0, type := 67, pos := "exact.go:1850", after := #[{ on := 5, ground := Ground.data }], guard := none }) (v := ?_) rfl (by kernel_rfl) (by kernel_rfl) (by kernel_rfl) (fun _ _ _ h => h) (Or.inl ⟨by rfl, ?_⟩) hHeld ?_
            rotate_left
            · intro w hSw; obtain ⟨s0, s1, s2, s3⟩ := hSw; (try dsimp only at hSw); go_simp; (try with_reducible rfl)
            try simp only [Act.put, List.setIfInBounds_toArray, List.set_cons_zero, List.set_cons_succ]
            refine wpAnyH_take (i := 7) (oi := { dst := some 34, op := Op.extract (Operand.tmp 27) 1, type := 4, pos := "exact.go:1850", after := #[{ on := 5, ground := Ground.data }, { on := 9, ground := Ground.gcOnly Departure.lateStores }], guard := none }) (v := ?_) rfl (by kernel_rfl) (by kernel_rfl) (by kernel_rfl) (fun _ _ _ h => h) (Or.inl ⟨by rfl, ?_⟩) hHeld ?_
            rotate_left
            · intro w hSw; obtain ⟨s0, s1, s2, s3⟩ := hSw; (try dsimp only at hSw); go_simp; (try with_reducible rfl)
            try simp only [Act.put, List.setIfInBounds_toArray, List.set_cons_zero, List.set_cons_succ]
            refine wpAnyH_ready (rs := [9]) (by kernel_rfl) (by simp) ?_
            refine AllReadyH.cons (o := { dst := none, op := Op.store 67 (Operand.tmp 6) (Operand.tmp 33), type := 0, pos := "exact.go:1850", after := #[{ on := 8, ground := Ground.data }, { on := 6, ground := Ground.data }, { on := 4, ground := Ground.chain }, { on := 0, ground := Ground.phase }, { on := 1, ground := Ground.phase }, { on := 2, ground := Ground.phase }, { on := 3, ground := Ground.phase }, { on := 4, ground := Ground.phase }, { on := 5, ground := Ground.phase }, { on := 6, ground := Ground.phase }, { on := 7, ground := Ground.textOnly Departure.lateStores }, { on := 8, ground := Ground.phase }], guard := none }) rfl (fun K hK => ?_) ?_
            · have xc0 : u4.cell? ⟨u1.heap.size, 0, none⟩ = some (.slice none 0 0) := HX_R4.out.cell 0
              have xf0 : u4.frozen? ⟨u1.heap.size, 0, none⟩ = false := HX_R4.out.free 0
              have xc1 : u4.cell? ⟨u1.heap.size, 1, none⟩ = some (.slice none 0 0) := HX_R4.out.cell 1
              have xf1 : u4.frozen? ⟨u1.heap.size, 1, none⟩ = false := HX_R4.out.free 1
              go_simp
              obtain ⟨u5, hw5⟩ : ∃ W, Hid (((u4.setCell ⟨u1.heap.size, 0, none⟩ (.slice A0_vr29 n0_vr29 c0_vr29)).setCell ⟨u1.heap.size, 1, none⟩ (.slice A1_vr29 n1_vr29 c1_vr29)) = W) := ⟨_, Lib.hid rfl⟩
              rw [hw5.out]
              have hk5 : Kept (u1.heap.size) (u1.heap.size + 1) u4 u5 := by rw [← hw5.out]; exact ((Kept.refl _ _ _).setCell (p := ⟨u1.heap.size, 0, none⟩) (Nat.le_refl _) (Nat.lt_succ_self _) _).setCell (p := ⟨u1.heap.size, 1, none⟩) (Nat.le_refl _) (Nat.lt_succ_self _) _
              have zs5 : u4.heap.size ≤ u5.heap.size := hk5.size
              have hlo5 := HBl4.out.size
              have HBl5 : Hid (Below w14.heap.size w14 u5) := Lib.hid (HBl4.out.trans ((hk5.to_below (by have := HX_R4.out.lt; omega)).mono (by omega)))
              have HX_R5 : Hid (Bx u5 u1.heap.size #[.slice A0_vr29 n0_vr29 c0_vr29, .slice A1_vr29 n1_vr29 c1_vr29] 67) := Lib.hid (by have := ((HX_R4.out).set 0 (.slice A0_vr29 n0_vr29 c0_vr29)).set 1 (.slice A1_vr29 n1_vr29 c1_vr29); rw [hw5.out] at this; exact this)
              have HX_aX_5 : Hid (Bx u5 w.heap.size #[.slice A0_aX n0_aX c0_aX, .slice A1_aX n1_aX c1_aX] 65) := Lib.hid (HX_aX_4.out.kept hk5 (by have := HX_aX_4.out.lt; have := HX_aY_4.out.lt; have := HX_R4.out.lt; omega))
              have HX_aY_5 : Hid (Bx u5 (w.heap.size + 1) #[.slice A0_aY n0_aY c0_aY, .slice A1_aY n1_aY c1_aY] 65) := Lib.hid (HX_aY_4.out.kept hk5 (by have := HX_aX_4.out.lt; have := HX_aY_4.out.lt; have := HX_R4.out.lt; omega))
              have HO_oaX5 := Lib.hid (HO_oaX4.out.kept hk5 (by omega) (by omega))
              have HO_oaY5 := Lib.hid (HO_oaY4.out.kept hk5 (by omega) (by omega))
              have HO_or5 := Lib.hid (HO_or4.out.kept hk5 (by omega) (by omega))
              clear hHeld hw5 hk5 hlo5 xc0 xf0 xc1 xf1 HBl4 HX_aX_4 HX_aY_4 HX_R4 HO_oaX4 HO_oaY4 HO_or4
              refine hK.out _ _ ⟨HX_aX_5.out.cell 0, HX_aX_5.out.cell 1, HX_aY_5.out.cell 0, HX_aY_5.out.cell 1⟩ (fun hHeld => ?_)
              clear hK K
              try simp only [Act.put]
              refine wpAnyH_take (i := 10) (oi := { dst := some 7, op := Op.assign (Operand.tmp 34), type := 4, pos := "exact.go:1850", after := #[{ on := 7, ground := Ground.data }, { on := 9, ground := Ground.chain }, { on := 0, ground := Ground.phase }, { on := 1, ground := Ground.phase }, { on := 2, ground := Ground.phase }, { on := 3, ground := Ground.phase }, { on := 4, ground := Ground.phase }, { on := 5, ground := Ground.phase }, { on := 6, ground := Ground.phase }, { on := 7, ground := Ground.phase }, { on := 8, ground := Ground.phase }, { on := 9, ground := Ground.phase }], guard := none }) (v := ?_) rfl (by kernel_rfl) (by kernel_rfl) (by kernel_rfl) (fun _ _ _ h => h) (Or.inl ⟨by rfl, ?_⟩) hHeld ?_
              rotate_left
              · intro w hSw; obtain ⟨s0, s1, s2, s3⟩ := hSw; (try dsimp only at hSw); go_simp; (try with_reducible rfl)
              try simp only [Act.put, List.setIfInBounds_toArray, List.set_cons_zero, List.set_cons_succ]
              refine wpAnyH_done (by kernel_rfl) ?_ _
              go_wp2
              go_meet
              case rel => exact ⟨u1.heap.size, _, _, _, _, _, _, _, _, rfl, rfl, HX_R5, HO_or5, Lib.hid ⟨by omega, by omega, by omega, by omega, by omega, by omega⟩, HBl5⟩
            exact AllReadyH.nil
          exact AllReadyH.nil
        exact AllReadyH.nil
      exact AllReadyH.nil
    refine AllReadyH.cons (o := { dst := some 6, op := Op.alloc 67, type := 0, pos := "exact.go:1850", after := #[], guard := none }) rfl (fun K hK => ?_) ?_
    · go_simp
      obtain ⟨u1, hw1⟩ : ∃ W, Hid (u0.alloc (.cells #[.slice none 0 0, .slice none 0 0] 67) = W) := ⟨_, Lib.hid rfl⟩
      rw [hw1.out]
      have zs1 : u0.heap.size < u1.heap.size := by rw [← hw1.out, World.size_alloc]; omega
      have HBl1 : Hid (Below w14.heap.size w14 u1) := Lib.hid (by rw [← hw1.out]; exact HBl0.out.alloc HBl0.out.size _)
      have HX_aX_1 : Hid (Bx u1 w.heap.size #[.slice A0_aX n0_aX c0_aX, .slice A1_aX n1_aX c1_aX] 65) := Lib.hid (by rw [← hw1.out]; exact HX_aX_0.out.alloc _)
      have HX_aY_1 : Hid (Bx u1 (w.heap.size + 1) #[.slice A0_aY n0_aY c0_aY, .slice A1_aY n1_aY c1_aY] 65) := Lib.hid (by rw [← hw1.out]; exact HX_aY_0.out.alloc _)
      have HX_R1 : Hid (Bx u1 u0.heap.size #[.slice none 0 0, .slice none 0 0] 67) := Lib.hid (by rw [← hw1.out]; exact Bx.new _ _ _)
      have hab1 : Below u0.heap.size u0 u1 := by rw [← hw1.out]; exact (Below.refl _ _).alloc (Nat.le_refl _) _
      clear hHeld hw1 hab1 HBl0 HX_aX_0 HX_aY_0
      refine hK.out _ _ ⟨HX_aX_1.out.cell 0, HX_aX_1.out.cell 1, HX_aY_1.out.cell 0, HX_aY_1.out.cell 1⟩ (fun hHeld => ?_)
      clear hK K
      try simp only [Act.put, List.setIfInBounds_toArray, List.set_cons_zero, List.set_cons_succ]
      refine wpAnyH_ready (rs := [1]) (by kernel_rfl) (by simp) ?_
      refine AllReadyH.cons (o := { dst := some 29, op := Op.call { callee := Callee.value (Operand.func 41), args := #[Operand.tmp 28], argTypes := #[65] }, type := 67, pos := "exact.go:1850", after := #[{ on := 0, ground := Ground.data }], guard := none }) rfl (fun K hK => ?_) ?_
      · go_simp
        refine (L_toMarked _ _ d_aX u1 ((HRA_aX.out.below HBl1.out).more (HBl1.out).size) (Nat.le_refl _) hs_aX).mono ?_
        rintro e u2 ⟨vv_aX, rfl, h_oaX, hb_⟩
        have zs2 : u1.heap.size ≤ u2.heap.size := hb_.size
        have HBl2 : Hid (Below w14.heap.size w14 u2) := Lib.hid (HBl1.out.trans (hb_.mono HBl1.out.size))
        have HX_aX_2 : Hid (Bx u2 w.heap.size #[.slice A0_aX n0_aX c0_aX, .slice A1_aX n1_aX c1_aX] 65) := Lib.hid (HX_aX_1.out.below hb_ HX_aX_1.out.lt)
        have HX_aY_2 : Hid (Bx u2 (w.heap.size + 1) #[.slice A0_aY n0_aY c0_aY, .slice A1_aY n1_aY c1_aY] 65) := Lib.hid (HX_aY_1.out.below hb_ HX_aY_1.out.lt)
        have HX_R2 : Hid (Bx u2 u0.heap.size #[.slice none 0 0, .slice none 0 0] 67) := Lib.hid (HX_R1.out.below hb_ HX_R1.out.lt)
        have HO_oaX2 := Lib.hid h_oaX
        clear hHeld hb_ HBl1 HX_aX_1 HX_aY_1 HX_R1 h_oaX
        (try dsimp only)
        (try go_wp2_with fail)
        refine hK.out _ _ ⟨HX_aX_2.out.cell 0, HX_aX_2.out.cell 1, HX_aY_2.out.cell 0, HX_aY_2.out.cell 1⟩ (fun hHeld => ?_)
        clear hK K
        try simp only [Act.put, List.setIfInBounds_toArray, List.set_cons_zero, List.set_cons_succ]
        refine wpAnyH_ready (rs := [3]) (by kernel_rfl) (by simp) ?_
        refine AllReadyH.cons (o := { dst := some 31, op := Op.call { callee := Callee.value (Operand.func 41), args := #[Operand.tmp 30], argTypes := #[65] }, type := 67, pos := "exact.go:1850", after := #[{ on := 2, ground := Ground.data }, { on := 1, ground := Ground.chain }], guard := none }) rfl (fun K hK => ?_) ?_
        · go_simp
          refine (L_toMarked _ _ d_aY u2 ((HRA_aY.out.below HBl2.out).more (HBl2.out).size) (Nat.le_refl _) hs_aY).mono ?_
          rintro e u3 ⟨vv_aY, rfl, h_oaY, hb_⟩
          have zs3 : u2.heap.size ≤ u3.heap.size := hb_.size
          have HBl3 : Hid (Below w14.heap.size w14 u3) := Lib.hid (HBl2.out.trans (hb_.mono HBl2.out.size))
          have HX_aX_3 : Hid (Bx u3 w.heap.size #[.slice A0_aX n0_aX c0_aX, .slice A1_aX n1_aX c1_aX] 65) := Lib.hid (HX_aX_2.out.below hb_ HX_aX_2.out.lt)
          have HX_aY_3 : Hid (Bx u3 (w.heap.size + 1) #[.slice A0_aY n0_aY c0_aY, .slice A1_aY n1_aY c1_aY] 65) := Lib.hid (HX_aY_2.out.below hb_ HX_aY_2.out.lt)
          have HX_R3 : Hid (Bx u3 u0.heap.size #[.slice none 0 0, .slice none 0 0] 67) := Lib.hid (HX_R2.out.below hb_ HX_R2.out.lt)
          have HO_oaX3 := Lib.hid (HO_oaX2.out.below hb_ (by omega))
          have HO_oaY3 := Lib.hid h_oaY
          clear hHeld hb_ HBl2 HX_aX_2 HX_aY_2 HX_R2 HO_oaX2 h_oaY
          (try dsimp only)
          (try go_wp2_with fail)
          refine hK.out _ _ ⟨HX_aX_3.out.cell 0, HX_aX_3.out.cell 1, HX_aY_3.out.cell 0, HX_aY_3.out.cell 1⟩ (fun hHeld => ?_)
          clear hK K
          try simp only [Act.put, List.setIfInBounds_toArray, List.set_cons_zero, List.set_cons_succ]
          refine wpAnyH_ready (rs := [4]) (by kernel_rfl) (by simp) ?_
          refine AllReadyH.cons (o := { dst := some 32, op := Op.call { callee := Callee.value (Operand.func 40), args := #[Operand.tmp 29, Operand.tmp 31], argTypes := #[67, 67] }, type := 68, pos := "exact.go:1850", after := #[{ on := 1, ground := Ground.data }, { on := 3, ground := Ground.data }, { on := 3, ground := Ground.chain }], guard := none }) rfl (fun K hK => ?_) ?_
          · go_simp
            refine (X_s_MarkedAdd _ _ d_aX d_aY u3 (HO_oaX3.out.rd.more (by omega)) (HO_oaY3.out.rd.more (by omega)) hs_aX hs_aY).mono ?_
            rintro e u4 ⟨vr, rfl, h_or, hb_⟩
            have zs4 : u3.heap.size ≤ u4.heap.size := hb_.size
            have HBl4 : Hid (Below w14.heap.size w14 u4) := Lib.hid (HBl3.out.trans (hb_.mono HBl3.out.size))
            have HX_aX_4 : Hid (Bx u4 w.heap.size #[.slice A0_aX n0_aX c0_aX, .slice A1_aX n1_aX c1_aX] 65) := Lib.hid (HX_aX_3.out.below hb_ HX_aX_3.out.lt)
            have HX_aY_4 : Hid (Bx u4 (w.heap.size + 1) #[.slice A0_aY n0_aY c0_aY, .slice A1_aY n1_aY c1_aY] 65) := Lib.hid (HX_aY_3.out.below hb_ HX_aY_3.out.lt)
            have HX_R4 : Hid (Bx u4 u0.heap.size #[.slice none 0 0, .slice none 0 0] 67) := Lib.hid (HX_R3.out.below hb_ HX_R3.out.lt)
            have HO_oaX4 := Lib.hid (HO_oaX3.out.below hb_ (by omega))
            have HO_oaY4 := Lib.hid (HO_oaY3.out.below hb_ (by omega))
            have HO_or4 := Lib.hid h_or
            clear hHeld hb_ HBl3 HX_aX_3 HX_aY_3 HX_R3 HO_oaX3 HO_oaY3 h_or
            obtain ⟨A0_vr29, n0_vr29, c0_vr29, A1_vr29, n1_vr29, c1_vr29, hvr⟩ : ∃ A0_vr29 n0_vr29 c0_vr29 A1_vr29 n1_vr29 c1_vr29, vr = .agg #[.slice A0_vr29 n0_vr29 c0_vr29, .slice A1_vr29 n1_vr29 c1_vr29] := by obtain ⟨_, _, _, _, _, _, _, _, _, _, _, rfl, _⟩ := HO_or4.out; exact ⟨_, _, _, _, _, _, rfl⟩
            subst hvr
            (try dsimp only)
            (try go_wp2_with fail)
            refine hK.out _ _ ⟨HX_aX_4.out.cell 0, HX_aX_4.out.cell 1, HX_aY_4.out.cell 0, HX_aY_4.out.cell 1⟩ (fun hHeld => ?_)
            clear hK K
            try simp only [Act.put, List.setIfInBounds_toArray, List.set_cons_zero, List.set_cons_succ]
            refine wpAnyH_take (i := 5) (oi := { dst := some 27, op := Op.move (Operand.tmp 32), type := 68, pos := "exact.go:1850", after := #[{ on := 4, ground := Ground.data }], guard := none }) (v := ?_) rfl (by kernel_rfl) (by kernel_rfl) (by kernel_rfl) (fun _ _ _ h => h) (Or.inl ⟨by rfl, ?_⟩) hHeld ?_
            rotate_left
            · intro w hSw; obtain ⟨s0, s1, s2, s3⟩ := hSw; (try dsimp only at hSw); go_simp; (try with_reducible rfl)
            try simp only [Act.put, List.setIfInBounds_toArray, List.set_cons_zero, List.set_cons_succ]
            refine wpAnyH_take (i := 6) (oi := { dst := some 33, op := Op.extract (Operand.tmp 27) 0, type := 67, pos := "exact.go:1850", after := #[{ on := 5, ground := Ground.data }], guard := none }) (v := ?_) rfl (by kernel_rfl) (by kernel_rfl) (by kernel_rfl) (fun _ _ _ h => h) (Or.inl ⟨by rfl, ?_⟩) hHeld ?_
            rotate_left
            · intro w hSw; obtain ⟨s0, s1, s2, s3⟩ := hSw; (try dsimp only at hSw); go_simp; (try with_reducible rfl)
            try simp only [Act.put, List.setIfInBounds_toArray, List.set_cons_zero, List.set_cons_succ]
            refine wpAnyH_take (i := 7) (oi := { dst := some 34, op := Op.extract (Operand.tmp 27) 1, type := 4, pos := "exact.go:1850", after := #[{ on := 5, ground := Ground.data }, { on := 9, ground := Ground.gcOnly Departure.lateStores }], guard := none }) (v := ?_) rfl (by kernel_rfl) (by kernel_rfl) (by kernel_rfl) (fun _ _ _ h => h) (Or.inl ⟨by rfl, ?_⟩) hHeld ?_
            rotate_left
            · intro w hSw; obtain ⟨s0, s1, s2, s3⟩ := hSw; (try dsimp only at hSw); go_simp; (try with_reducible rfl)
            try simp only [Act.put, List.setIfInBounds_toArray, List.set_cons_zero, List.set_cons_succ]
            refine wpAnyH_ready (rs := [9]) (by kernel_rfl) (by simp) ?_
            refine AllReadyH.cons (o := { dst := none, op := Op.store 67 (Operand.tmp 6) (Operand.tmp 33), type := 0, pos := "exact.go:1850", after := #[{ on := 8, ground := Ground.data }, { on := 6, ground := Ground.data }, { on := 4, ground := Ground.chain }, { on := 0, ground := Ground.phase }, { on := 1, ground := Ground.phase }, { on := 2, ground := Ground.phase }, { on := 3, ground := Ground.phase }, { on := 4, ground := Ground.phase }, { on := 5, ground := Ground.phase }, { on := 6, ground := Ground.phase }, { on := 7, ground := Ground.textOnly Departure.lateStores }, { on := 8, ground := Ground.phase }], guard := none }) rfl (fun K hK => ?_) ?_
            · have xc0 : u4.cell? ⟨u0.heap.size, 0, none⟩ = some (.slice none 0 0) := HX_R4.out.cell 0
              have xf0 : u4.frozen? ⟨u0.heap.size, 0, none⟩ = false := HX_R4.out.free 0
              have xc1 : u4.cell? ⟨u0.heap.size, 1, none⟩ = some (.slice none 0 0) := HX_R4.out.cell 1
              have xf1 : u4.frozen? ⟨u0.heap.size, 1, none⟩ = false := HX_R4.out.free 1
              go_simp
              obtain ⟨u5, hw5⟩ : ∃ W, Hid (((u4.setCell ⟨u0.heap.size, 0, none⟩ (.slice A0_vr29 n0_vr29 c0_vr29)).setCell ⟨u0.heap.size, 1, none⟩ (.slice A1_vr29 n1_vr29 c1_vr29)) = W) := ⟨_, Lib.hid rfl⟩
              rw [hw5.out]
              have hk5 : Kept (u0.heap.size) (u0.heap.size + 1) u4 u5 := by rw [← hw5.out]; exact ((Kept.refl _ _ _).setCell (p := ⟨u0.heap.size, 0, none⟩) (Nat.le_refl _) (Nat.lt_succ_self _) _).setCell (p := ⟨u0.heap.size, 1, none⟩) (Nat.le_refl _) (Nat.lt_succ_self _) _
              have zs5 : u4.heap.size ≤ u5.heap.size := hk5.size
              have hlo5 := HBl4.out.size
              have HBl5 : Hid (Below w14.heap.size w14 u5) := Lib.hid (HBl4.out.trans ((hk5.to_below (by have := HX_R4.out.lt; omega)).mono (by omega)))
              have HX_R5 : Hid (Bx u5 u0.heap.size #[.slice A0_vr29 n0_vr29 c0_vr29, .slice A1_vr29 n1_vr29 c1_vr29] 67) := Lib.hid (by have := ((HX_R4.out).set 0 (.slice A0_vr29 n0_vr29 c0_vr29)).set 1 (.slice A1_vr29 n1_vr29 c1_vr29); rw [hw5.out] at this; exact this)
              have HX_aX_5 : Hid (Bx u5 w.heap.size #[.slice A0_aX n0_aX c0_aX, .slice A1_aX n1_aX c1_aX] 65) := Lib.hid (HX_aX_4.out.kept hk5 (by have := HX_aX_4.out.lt; have := HX_aY_4.out.lt; have := HX_R4.out.lt; omega))
              have HX_aY_5 : Hid (Bx u5 (w.heap.size + 1) #[.slice A0_aY n0_aY c0_aY, .slice A1_aY n1_aY c1_aY] 65) := Lib.hid (HX_aY_4.out.kept hk5 (by have := HX_aX_4.out.lt; have := HX_aY_4.out.lt; have := HX_R4.out.lt; omega))
              have HO_oaX5 := Lib.hid (HO_oaX4.out.kept hk5 (by omega) (by omega))
              have HO_oaY5 := Lib.hid (HO_oaY4.out.kept hk5 (by omega) (by omega))
              have HO_or5 := Lib.hid (HO_or4.out.kept hk5 (by omega) (by omega))
              clear hHeld hw5 hk5 hlo5 xc0 xf0 xc1 xf1 HBl4 HX_aX_4 HX_aY_4 HX_R4 HO_oaX4 HO_oaY4 HO_or4
              refine hK.out _ _ ⟨HX_aX_5.out.cell 0, HX_aX_5.out.cell 1, HX_aY_5.out.cell 0, HX_aY_5.out.cell 1⟩ (fun hHeld => ?_)
              clear hK K
              try simp only [Act.put]
              refine wpAnyH_take (i := 10) (oi := { dst := some 7, op := Op.assign (Operand.tmp 34), type := 4, pos := "exact.go:1850", after := #[{ on := 7, ground := Ground.data }, { on := 9, ground := Ground.chain }, { on := 0, ground := Ground.phase }, { on := 1, ground := Ground.phase }, { on := 2, ground := Ground.phase }, { on := 3, ground := Ground.phase }, { on := 4, ground := Ground.phase }, { on := 5, ground := Ground.phase }, { on := 6, ground := Ground.phase }, { on := 7, ground := Ground.phase }, { on := 8, ground := Ground.phase }, { on := 9, ground := Ground.phase }], guard := none }) (v := ?_) rfl (by kernel_rfl) (by kernel_rfl) (by kernel_rfl) (fun _ _ _ h => h) (Or.inl ⟨by rfl, ?_⟩) hHeld ?_
              rotate_left
              · intro w hSw; obtain ⟨s0, s1, s2, s3⟩ := hSw; (try dsimp only at hSw); go_simp; (try with_reducible rfl)
              try simp only [Act.put, List.setIfInBounds_toArray, List.set_cons_zero, List.set_cons_succ]
              refine wpAnyH_done (by kernel_rfl) ?_ _
              go_wp2
              go_meet
              case rel => exact ⟨u0.heap.size, _, _, _, _, _, _, _, _, rfl, rfl, HX_R5, HO_or5, Lib.hid ⟨by omega, by omega, by omega, by omega, by omega, by omega⟩, HBl5⟩
            exact AllReadyH.nil
          exact AllReadyH.nil
        exact AllReadyH.nil
      exact AllReadyH.nil
    exact AllReadyH.nil
  case rest =>
    obtain ⟨B30, s31, t32, A0_vr29, n0_vr29, c0_vr29, A1_vr29, n1_vr29, c1_vr29, rfl, rfl, HX34, HO35, HI36, HS37⟩ := hcut
    obtain ⟨w33, hwc⟩ : ∃ W, W = wc := ⟨_, rfl⟩
    subst hwc
    obtain ⟨z38, z39, z40, z41, z42, z43⟩ := HI36.out
    have z44 : w14.heap.size ≤ w33.heap.size := HS37.out.size
    clear HI36 HRA_aX HRA_aY
    have HX45 := Lib.hid (HX26.out.below HS37.out HX26.out.lt)
    clear HX26
    have HX46 := Lib.hid (HX27.out.below HS37.out HX27.out.lt)
    clear HX27
    have HB47 : Hid (Below w.heap.size w w33) := Lib.hid (HB28.out.trans (HS37.out.mono (by omega)))
    clear HB28
    clear HS37
    have fc53 : w33.cell? ⟨w.heap.size, 0, none⟩ = some (.slice A0_aX n0_aX c0_aX) := HX45.out.cell 0
    have fc54 : w33.cell? ⟨w.heap.size, 1, none⟩ = some (.slice A1_aX n1_aX c1_aX) := HX45.out.cell 1
    have fc55 : w33.cell? ⟨w.heap.size + 1, 0, none⟩ = some (.slice A0_aY n0_aY c0_aY) := HX46.out.cell 0
    have fc56 : w33.cell? ⟨w.heap.size + 1, 1, none⟩ = some (.slice A1_aY n1_aY c1_aY) := HX46.out.cell 1
    have fc57 : w33.cell? ⟨B30, 0, none⟩ = some (.slice A0_vr29 n0_vr29 c0_vr29) := HX34.out.cell 0
    have fc58 : w33.cell? ⟨B30, 1, none⟩ = some (.slice A1_vr29 n1_vr29 c1_vr29) := HX34.out.cell 1
    go_wp2_with fail
    refine (L_toMarked _ _ _ _ (RdMarked.below Ha_aX.out HB47.out) HB47.out.size hs_aX).mono ?_
    rintro e w49 ⟨v48, rfl, hx59, hy60⟩
    have z52 : w33.heap.size ≤ w49.heap.size := hy60.size
    obtain ⟨A0_v48, n0_v48, c0_v48, A1_v48, n1_v48, c1_v48, hv61⟩ : ∃ A0_v48 n0_v48 c0_v48 A1_v48 n1_v48 c1_v48, v48 = .agg #[.slice A0_v48 n0_v48 c0_v48, .slice A1_v48 n1_v48 c1_v48] := by obtain ⟨_, _, _, _, _, _, _, _, _, _, _, rfl, _⟩ := hx59; exact ⟨_, _, _, _, _, _, rfl⟩
    subst hv61
    have HO50 := Lib.hid hx59
    have HS51 := Lib.hid hy60
    clear hx59 hy60
    clear fc53 fc54 fc55 fc56 fc57 fc58
    have HO62 := Lib.hid (HO35.out.below HS51.out (by omega))
    clear HO35
    have HX63 := Lib.hid (HX45.out.below HS51.out HX45.out.lt)
    clear HX45
    have HX64 := Lib.hid (HX46.out.below HS51.out HX46.out.lt)
    clear HX46
    have HX65 := Lib.hid (HX34.out.below HS51.out HX34.out.lt)
    clear HX34
    have HB66 : Hid (Below w.heap.size w w49) := Lib.hid (HB47.out.trans (HS51.out.mono (by omega)))
    clear HB47
    clear HS51
    have fc72 : (w49.alloc (.cells #[.slice A0_v48 n0_v48 c0_v48, .slice A1_v48 n1_v48 c1_v48] 67)).cell? ⟨w.heap.size, 0, none⟩ = some (.slice A0_aX n0_aX c0_aX) := (HX63.out.alloc _).cell 0
    have fc73 : (w49.alloc (.cells #[.slice A0_v48 n0_v48 c0_v48, .slice A1_v48 n1_v48 c1_v48] 67)).cell? ⟨w.heap.size, 1, none⟩ = some (.slice A1_aX n1_aX c1_aX) := (HX63.out.alloc _).cell 1
    have fc74 : (w49.alloc (.cells #[.slice A0_v48 n0_v48 c0_v48, .slice A1_v48 n1_v48 c1_v48] 67)).cell? ⟨w.heap.size + 1, 0, none⟩ = some (.slice A0_aY n0_aY c0_aY) := (HX64.out.alloc _).cell 0
    have fc75 : (w49.alloc (.cells #[.slice A0_v48 n0_v48 c0_v48, .slice A1_v48 n1_v48 c1_v48] 67)).cell? ⟨w.heap.size + 1, 1, none⟩ = some (.slice A1_aY n1_aY c1_aY) := (HX64.out.alloc _).cell 1
    have fc76 : (w49.alloc (.cells #[.slice A0_v48 n0_v48 c0_v48, .slice A1_v48 n1_v48 c1_v48] 67)).cell? ⟨B30, 0, none⟩ = some (.slice A0_vr29 n0_vr29 c0_vr29) := (HX65.out.alloc _).cell 0
    have fc77 : (w49.alloc (.cells #[.slice A0_v48 n0_v48 c0_v48, .slice A1_v48 n1_v48 c1_v48] 67)).cell? ⟨B30, 1, none⟩ = some (.slice A1_vr29 n1_vr29 c1_vr29) := (HX65.out.alloc _).cell 1
    go_wp2_with fail
    clear fc72 fc73 fc74 fc75 fc76 fc77
    obtain ⟨w78, hW79⟩ : ∃ W, Hid (w49.alloc (.cells #[.slice A0_v48 n0_v48 c0_v48, .slice A1_v48 n1_v48 c1_v48] 67) = W) := ⟨_, Lib.hid rfl⟩
    have z80 : w78.heap.size = w49.heap.size + 1 := by rw [← hW79.out, World.size_alloc]
    have HS81 : Hid (Below w49.heap.size w49 w78) := Lib.hid (by rw [← hW79.out]; exact (Below.refl _ _).alloc (Nat.le_refl _) _)
    have HX82 : Hid (Bx w78 w49.heap.size #[.slice A0_v48 n0_v48 c0_v48, .slice A1_v48 n1_v48 c1_v48] 67) := Lib.hid (by rw [← hW79.out]; exact Bx.new _ _ _)
    have HO83 := Lib.hid (HO62.out.below HS81.out (by omega))
    clear HO62
    have HO84 := Lib.hid (HO50.out.below HS81.out (by omega))
    clear HO50
    have HX85 := Lib.hid (HX63.out.below HS81.out HX63.out.lt)
    clear HX63
    have HX86 := Lib.hid (HX64.out.below HS81.out HX64.out.lt)
    clear HX64
    have HX87 := Lib.hid (HX65.out.below HS81.out HX65.out.lt)
    clear HX65
    have HB88 : Hid (Below w.heap.size w w78) := Lib.hid (HB66.out.trans (HS81.out.mono (by omega)))
    clear HB66
    clear HS81
    rw [hW79.out]
    clear hW79
    refine (L_toMarked _ _ _ _ (RdMarked.below Ha_aY.out HB88.out) HB88.out.size hs_aY).mono ?_
    rintro e w68 ⟨v67, rfl, hx89, hy90⟩
    have z71 : w78.heap.size ≤ w68.heap.size := hy90.size
    obtain ⟨A0_v67, n0_v67, c0_v67, A1_v67, n1_v67, c1_v67, hv91⟩ : ∃ A0_v67 n0_v67 c0_v67 A1_v67 n1_v67 c1_v67, v67 = .agg #[.slice A0_v67 n0_v67 c0_v67, .slice A1_v67 n1_v67 c1_v67] := by obtain ⟨_, _, _, _, _, _, _, _, _, _, _, rfl, _⟩ := hx89; exact ⟨_, _, _, _, _, _, rfl⟩
    subst hv91
    have HO69 := Lib.hid hx89
    have HS70 := Lib.hid hy90
    clear hx89 hy90
    have HO92 := Lib.hid (HO83.out.below HS70.out (by omega))
    clear HO83
    have HO93 := Lib.hid (HO84.out.below HS70.out (by omega))
    clear HO84
    have HX94 := Lib.hid (HX85.out.below HS70.out HX85.out.lt)
    clear HX85
    have HX95 := Lib.hid (HX86.out.below HS70.out HX86.out.lt)
    clear HX86
    have HX96 := Lib.hid (HX87.out.below HS70.out HX87.out.lt)
    clear HX87
    have HX97 := Lib.hid (HX82.out.below HS70.out HX82.out.lt)
    clear HX82
    have HB98 : Hid (Below w.heap.size w w68) := Lib.hid (HB88.out.trans (HS70.out.mono (by omega)))
    clear HB88
    clear HS70
    have fc99 : (w68.alloc (.cells #[.slice A0_v67 n0_v67 c0_v67, .slice A1_v67 n1_v67 c1_v67] 67)).cell? ⟨w.heap.size, 0, none⟩ = some (.slice A0_aX n0_aX c0_aX) := (HX94.out.alloc _).cell 0
    have fc100 : (w68.alloc (.cells #[.slice A0_v67 n0_v67 c0_v67, .slice A1_v67 n1_v67 c1_v67] 67)).cell? ⟨w.heap.size, 1, none⟩ = some (.slice A1_aX n1_aX c1_aX) := (HX94.out.alloc _).cell 1
    have fc101 : (w68.alloc (.cells #[.slice A0_v67 n0_v67 c0_v67, .slice A1_v67 n1_v67 c1_v67] 67)).cell? ⟨w.heap.size + 1, 0, none⟩ = some (.slice A0_aY n0_aY c0_aY) := (HX95.out.alloc _).cell 0
    have fc102 : (w68.alloc (.cells #[.slice A0_v67 n0_v67 c0_v67, .slice A1_v67 n1_v67 c1_v67] 67)).cell? ⟨w.heap.size + 1, 1, none⟩ = some (.slice A1_aY n1_aY c1_aY) := (HX95.out.alloc _).cell 1
    have fc103 : (w68.alloc (.cells #[.slice A0_v67 n0_v67 c0_v67, .slice A1_v67 n1_v67 c1_v67] 67)).cell? ⟨B30, 0, none⟩ = some (.slice A0_vr29 n0_vr29 c0_vr29) := (HX96.out.alloc _).cell 0
    have fc104 : (w68.alloc (.cells #[.slice A0_v67 n0_v67 c0_v67, .slice A1_v67 n1_v67 c1_v67] 67)).cell? ⟨B30, 1, none⟩ = some (.slice A1_vr29 n1_vr29 c1_vr29) := (HX96.out.alloc _).cell 1
    have fc105 : (w68.alloc (.cells #[.slice A0_v67 n0_v67 c0_v67, .slice A1_v67 n1_v67 c1_v67] 67)).cell? ⟨w49.heap.size, 0, none⟩ = some (.slice A0_v48 n0_v48 c0_v48) := (HX97.out.alloc _).cell 0
    have fc106 : (w68.alloc (.cells #[.slice A0_v67 n0_v67 c0_v67, .slice A1_v67 n1_v67 c1_v67] 67)).cell? ⟨w49.heap.size, 1, none⟩ = some (.slice A1_v48 n1_v48 c1_v48) := (HX97.out.alloc _).cell 1
    go_wp2_with fail
    clear fc99 fc100 fc101 fc102 fc103 fc104 fc105 fc106
    obtain ⟨w107, hW108⟩ : ∃ W, Hid (w68.alloc (.cells #[.slice A0_v67 n0_v67 c0_v67, .slice A1_v67 n1_v67 c1_v67] 67) = W) := ⟨_, Lib.hid rfl⟩
    have z109 : w107.heap.size = w68.heap.size + 1 := by rw [← hW108.out, World.size_alloc]
    have HS110 : Hid (Below w68.heap.size w68 w107) := Lib.hid (by rw [← hW108.out]; exact (Below.refl _ _).alloc (Nat.le_refl _) _)
    have HX111 : Hid (Bx w107 w68.heap.size #[.slice A0_v67 n0_v67 c0_v67, .slice A1_v67 n1_v67 c1_v67] 67) := Lib.hid (by rw [← hW108.out]; exact Bx.new _ _ _)
    have HO112 := Lib.hid (HO92.out.below HS110.out (by omega))
    clear HO92
    have HO113 := Lib.hid (HO93.out.below HS110.out (by omega))
    clear HO93
    have HO114 := Lib.hid (HO69.out.below HS110.out (by omega))
    clear HO69
    have HX115 := Lib.hid (HX94.out.below HS110.out HX94.out.lt)
    clear HX94
    have HX116 := Lib.hid (HX95.out.below HS110.out HX95.out.lt)
    clear HX95
    have HX117 := Lib.hid (HX96.out.below HS110.out HX96.out.lt)
    clear HX96
    have HX118 := Lib.hid (HX97.out.below HS110.out HX97.out.lt)
    clear HX97
    have HB119 : Hid (Below w.heap.size w w107) := Lib.hid (HB98.out.trans (HS110.out.mono (by omega)))
    clear HB98
    clear HS110
    rw [hW108.out]
    clear hW108
    refine (X_i_MarkedAdd _ _ d_aX d_aY _ (HO113.out.rd.more (by omega)) (HO114.out.rd.more (by omega)) hs_aX hs_aY).mono ?_
    rintro e w120 ⟨g0_w120, rfl, hx121, hy122⟩
    have z123 : w107.heap.size ≤ w120.heap.size := hy122.size
    obtain ⟨A0_g0_w120, n0_g0_w120, c0_g0_w120, A1_g0_w120, n1_g0_w120, c1_g0_w120, hv124⟩ : ∃ A0_g0_w120 n0_g0_w120 c0_g0_w120 A1_g0_w120 n1_g0_w120 c1_g0_w120, g0_w120 = .agg #[.slice A0_g0_w120 n0_g0_w120 c0_g0_w120, .slice A1_g0_w120 n1_g0_w120 c1_g0_w120] := by obtain ⟨_, _, _, _, _, _, _, _, _, _, _, rfl, _⟩ := hx121; exact ⟨_, _, _, _, _, _, rfl⟩
    subst hv124
    have HO125 := Lib.hid hx121
    clear hx121
    have HS126 := Lib.hid hy122
    clear hy122
    have HO127 := Lib.hid (HO112.out.below HS126.out (by omega))
    clear HO112
    have HO128 := Lib.hid (HO113.out.below HS126.out (by omega))
    clear HO113
    have HO129 := Lib.hid (HO114.out.below HS126.out (by omega))
    clear HO114
    have HX130 := Lib.hid (HX115.out.below HS126.out HX115.out.lt)
    clear HX115
    have HX131 := Lib.hid (HX116.out.below HS126.out HX116.out.lt)
    clear HX116
    have HX132 := Lib.hid (HX117.out.below HS126.out HX117.out.lt)
    clear HX117
    have HX133 := Lib.hid (HX118.out.below HS126.out HX118.out.lt)
    clear HX118
    have HX134 := Lib.hid (HX111.out.below HS126.out HX111.out.lt)
    clear HX111
    have HB135 : Hid (Below w.heap.size w w120) := Lib.hid (HB119.out.trans (HS126.out.mono (by omega)))
    clear HB119
    clear HS126
    have fc138 : (w120.alloc (.cells #[.slice A0_g0_w120 n0_g0_w120 c0_g0_w120, .slice A1_g0_w120 n1_g0_w120 c1_g0_w120] 67)).cell? ⟨w.heap.size, 0, none⟩ = some (.slice A0_aX n0_aX c0_aX) := (HX130.out.alloc _).cell 0
    have fc139 : (w120.alloc (.cells #[.slice A0_g0_w120 n0_g0_w120 c0_g0_w120, .slice A1_g0_w120 n1_g0_w120 c1_g0_w120] 67)).cell? ⟨w.heap.size, 1, none⟩ = some (.slice A1_aX n1_aX c1_aX) := (HX130.out.alloc _).cell 1
    have fc140 : (w120.alloc (.cells #[.slice A0_g0_w120 n0_g0_w120 c0_g0_w120, .slice A1_g0_w120 n1_g0_w120 c1_g0_w120] 67)).cell? ⟨w.heap.size + 1, 0, none⟩ = some (.slice A0_aY n0_aY c0_aY) := (HX131.out.alloc _).cell 0
    have fc141 : (w120.alloc (.cells #[.slice A0_g0_w120 n0_g0_w120 c0_g0_w120, .slice A1_g0_w120 n1_g0_w120 c1_g0_w120] 67)).cell? ⟨w.heap.size + 1, 1, none⟩ = some (.slice A1_aY n1_aY c1_aY) := (HX131.out.alloc _).cell 1
    have fc142 : (w120.alloc (.cells #[.slice A0_g0_w120 n0_g0_w120 c0_g0_w120, .slice A1_g0_w120 n1_g0_w120 c1_g0_w120] 67)).cell? ⟨B30, 0, none⟩ = some (.slice A0_vr29 n0_vr29 c0_vr29) := (HX132.out.alloc _).cell 0
    have fc143 : (w120.alloc (.cells #[.slice A0_g0_w120 n0_g0_w120 c0_g0_w120, .slice A1_g0_w120 n1_g0_w120 c1_g0_w120] 67)).cell? ⟨B30, 1, none⟩ = some (.slice A1_vr29 n1_vr29 c1_vr29) := (HX132.out.alloc _).cell 1
    have fc144 : (w120.alloc (.cells #[.slice A0_g0_w120 n0_g0_w120 c0_g0_w120, .slice A1_g0_w120 n1_g0_w120 c1_g0_w120] 67)).cell? ⟨w49.heap.size, 0, none⟩ = some (.slice A0_v48 n0_v48 c0_v48) := (HX133.out.alloc _).cell 0
    have fc145 : (w120.alloc (.cells #[.slice A0_g0_w120 n0_g0_w120 c0_g0_w120, .slice A1_g0_w120 n1_g0_w120 c1_g0_w120] 67)).cell? ⟨w49.heap.size, 1, none⟩ = some (.slice A1_v48 n1_v48 c1_v48) := (HX133.out.alloc _).cell 1
    have fc146 : (w120.alloc (.cells #[.slice A0_g0_w120 n0_g0_w120 c0_g0_w120, .slice A1_g0_w120 n1_g0_w120 c1_g0_w120] 67)).cell? ⟨w68.heap.size, 0, none⟩ = some (.slice A0_v67 n0_v67 c0_v67) := (HX134.out.alloc _).cell 0
    have fc147 : (w120.alloc (.cells #[.slice A0_g0_w120 n0_g0_w120 c0_g0_w120, .slice A1_g0_w120 n1_g0_w120 c1_g0_w120] 67)).cell? ⟨w68.heap.size, 1, none⟩ = some (.slice A1_v67 n1_v67 c1_v67) := (HX134.out.alloc _).cell 1
    go_wp2_with fail
    clear fc138 fc139 fc140 fc141 fc142 fc143 fc144 fc145 fc146 fc147
    obtain ⟨w148, hW149⟩ : ∃ W, Hid (w120.alloc (.cells #[.slice A0_g0_w120 n0_g0_w120 c0_g0_w120, .slice A1_g0_w120 n1_g0_w120 c1_g0_w120] 67) = W) := ⟨_, Lib.hid rfl⟩
    have z150 : w148.heap.size = w120.heap.size + 1 := by rw [← hW149.out, World.size_alloc]
    have HS151 : Hid (Below w120.heap.size w120 w148) := Lib.hid (by rw [← hW149.out]; exact (Below.refl _ _).alloc (Nat.le_refl _) _)
    have HX152 : Hid (Bx w148 w120.heap.size #[.slice A0_g0_w120 n0_g0_w120 c0_g0_w120, .slice A1_g0_w120 n1_g0_w120 c1_g0_w120] 67) := Lib.hid (by rw [← hW149.out]; exact Bx.new _ _ _)
    have HO153 := Lib.hid (HO127.out.below HS151.out (by omega))
    clear HO127
    have HO154 := Lib.hid (HO128.out.below HS151.out (by omega))
    clear HO128
    have HO155 := Lib.hid (HO129.out.below HS151.out (by omega))
    clear HO129
    have HO156 := Lib.hid (HO125.out.below HS151.out (by omega))
    clear HO125
    have HX157 := Lib.hid (HX130.out.below HS151.out HX130.out.lt)
    clear HX130
    have HX158 := Lib.hid (HX131.out.below HS151.out HX131.out.lt)
    clear HX131
    have HX159 := Lib.hid (HX132.out.below HS151.out HX132.out.lt)
    clear HX132
    have HX160 := Lib.hid (HX133.out.below HS151.out HX133.out.lt)
    clear HX133
    have HX161 := Lib.hid (HX134.out.below HS151.out HX134.out.lt)
    clear HX134
    have HB162 : Hid (Below w.heap.size w w148) := Lib.hid (HB135.out.trans (HS151.out.mono (by omega)))
    clear HB135
    clear HS151
    rw [hW149.out]
    clear hW149
    refine (L_eqMarked _ _ _ _ _ _ HO156.out.rd HO153.out.rd (by omega) (by omega) HO156.out.small).mono ?_
    rintro e w136 ⟨rfl, hx137⟩
    have z163 : w148.heap.size ≤ w136.heap.size := hx137.size
    have HS164 := Lib.hid hx137
    clear hx137
    have HO165 := Lib.hid (HO153.out.below HS164.out (by omega))
    clear HO153
    have HO166 := Lib.hid (HO154.out.below HS164.out (by omega))
    clear HO154
    have HO167 := Lib.hid (HO155.out.below HS164.out (by omega))
    clear HO155
    have HO168 := Lib.hid (HO156.out.below HS164.out (by omega))
    clear HO156
    have HX169 := Lib.hid (HX157.out.below HS164.out HX157.out.lt)
    clear HX157
    have HX170 := Lib.hid (HX158.out.below HS164.out HX158.out.lt)
    clear HX158
    have HX171 := Lib.hid (HX159.out.below HS164.out HX159.out.lt)
    clear HX159
    have HX172 := Lib.hid (HX160.out.below HS164.out HX160.out.lt)
    clear HX160
    have HX173 := Lib.hid (HX161.out.below HS164.out HX161.out.lt)
    clear HX161
    have HX174 := Lib.hid (HX152.out.below HS164.out HX152.out.lt)
    clear HX152
    have HB175 : Hid (Below w.heap.size w w136) := Lib.hid (HB162.out.trans (HS164.out.mono (by omega)))
    clear HB162
    clear HS164
    have hq_aX_0 : w136.cell? ⟨w.heap.size, 0, none⟩ = some (.slice A0_aX n0_aX c0_aX) := HX169.out.cell 0
    have hq_aX_1 : w136.cell? ⟨w.heap.size, 1, none⟩ = some (.slice A1_aX n1_aX c1_aX) := HX169.out.cell 1
    have hq_x0_0 : w136.cell? ⟨w49.heap.size, 0, none⟩ = some (.slice A0_v48 n0_v48 c0_v48) := HX172.out.cell 0
    have hq_x0_1 : w136.cell? ⟨w49.heap.size, 1, none⟩ = some (.slice A1_v48 n1_v48 c1_v48) := HX172.out.cell 1
    have hbq := Below.refl w136.heap.size w136
    have hsq := And.intro hbq (And.intro hq_aX_0 (And.intro hq_aX_1 (And.intro hq_x0_0 hq_x0_1)))
    go_wp2
    go_region_held3 (fun w' => Below w136.heap.size w136 w' ∧ w'.cell? ⟨w.heap.size, 0, none⟩ = some (.slice A0_aX n0_aX c0_aX) ∧ w'.cell? ⟨w.heap.size, 1, none⟩ = some (.slice A1_aX n1_aX c1_aX) ∧ w'.cell? ⟨w49.heap.size, 0, none⟩ = some (.slice A0_v48 n0_v48 c0_v48) ∧ w'.cell? ⟨w49.heap.size, 1, none⟩ = some (.slice A1_v48 n1_v48 c1_v48))
      (first | exact ⟨hbq, hq_aX_0, hq_aX_1, hq_x0_0, hq_x0_1⟩ | exact ⟨hbq.drew, hq_aX_0, hq_aX_1, hq_x0_0, hq_x0_1⟩)
      (first
        | (go_at_call 41
           refine (L_toMarked w.heap.size _ d_aX _ (RdMarked.below Ha_aX.out (Below.trans HB175.out (Below.mono (by first | exact hbq | exact hbq.drew) (by exact HB175.out.size)))) (by exact Nat.le_trans (HB175.out).size hbq.size) hs_aX).mono ?_
           rintro e w3 ⟨vq, rfl, hoq, hbq3⟩
           obtain ⟨A0_vq, n0_vq, c0_vq, A1_vq, n1_vq, c1_vq, hvq⟩ : ∃ A0_vq n0_vq c0_vq A1_vq n1_vq c1_vq, vq = .agg #[.slice A0_vq n0_vq c0_vq, .slice A1_vq n1_vq c1_vq] := by obtain ⟨_, _, _, _, _, _, _, _, _, _, _, rfl, _⟩ := hoq; exact ⟨_, _, _, _, _, _, rfl⟩
           subst hvq
           have hbn : Below w136.heap.size w136 w3 := Below.trans (by first | exact hbq | exact hbq.drew) (hbq3.mono (by exact hbq.size))
           have nhq_aX_0 : w3.cell? ⟨w.heap.size, 0, none⟩ = some (.slice A0_aX n0_aX c0_aX) := (HX169.out.below hbn HX169.out.lt).cell 0
           have nhq_aX_1 : w3.cell? ⟨w.heap.size, 1, none⟩ = some (.slice A1_aX n1_aX c1_aX) := (HX169.out.below hbn HX169.out.lt).cell 1
           have nhq_x0_0 : w3.cell? ⟨w49.heap.size, 0, none⟩ = some (.slice A0_v48 n0_v48 c0_v48) := (HX172.out.below hbn HX172.out.lt).cell 0
           have nhq_x0_1 : w3.cell? ⟨w49.heap.size, 1, none⟩ = some (.slice A1_v48 n1_v48 c1_v48) := (HX172.out.below hbn HX172.out.lt).cell 1
           clear hbq hq_aX_0 hq_aX_1 hq_x0_0 hq_x0_1 hbq3
           have hbq := hbn
           have hq_aX_0 := nhq_aX_0
           have hq_aX_1 := nhq_aX_1
           have hq_x0_0 := nhq_x0_0
           have hq_x0_1 := nhq_x0_1
           clear hbn nhq_aX_0 nhq_aX_1 nhq_x0_0 nhq_x0_1)
        | (go_at_call 43
           refine (L_eqMarked _ _ _ _ d_aX _ (by exact HO166.out.rd.below (hbq.mono (by omega))) (by exact hoq.rd) (by have := hbq.size; omega) (by exact Nat.le_refl _) hs_aX).mono ?_
           rintro e w4 ⟨rfl, hbq4⟩
           have hbn : Below w136.heap.size w136 w4 := Below.trans (by first | exact hbq | exact hbq.drew) (hbq4.mono (by exact hbq.size))
           have nhq_aX_0 : w4.cell? ⟨w.heap.size, 0, none⟩ = some (.slice A0_aX n0_aX c0_aX) := (HX169.out.below hbn HX169.out.lt).cell 0
           have nhq_aX_1 : w4.cell? ⟨w.heap.size, 1, none⟩ = some (.slice A1_aX n1_aX c1_aX) := (HX169.out.below hbn HX169.out.lt).cell 1
           have nhq_x0_0 : w4.cell? ⟨w49.heap.size, 0, none⟩ = some (.slice A0_v48 n0_v48 c0_v48) := (HX172.out.below hbn HX172.out.lt).cell 0
           have nhq_x0_1 : w4.cell? ⟨w49.heap.size, 1, none⟩ = some (.slice A1_v48 n1_v48 c1_v48) := (HX172.out.below hbn HX172.out.lt).cell 1
           clear hbq hq_aX_0 hq_aX_1 hq_x0_0 hq_x0_1 hbq4
           have hbq := hbn
           have hq_aX_0 := nhq_aX_0
           have hq_aX_1 := nhq_aX_1
           have hq_x0_0 := nhq_x0_0
           have hq_x0_1 := nhq_x0_1
           clear hbn nhq_aX_0 nhq_aX_1 nhq_x0_0 nhq_x0_1))
    obtain ⟨w176, hwq⟩ : ∃ W, Hid (_ = W) := ⟨_, Lib.hid (Eq.refl w4)⟩
    have HS177 : Hid (Below w136.heap.size w136 w176) := Lib.hid (by rw [← hwq.out]; exact hbq)
    have z178 : w136.heap.size ≤ w176.heap.size := HS177.out.size
    try rw [hwq.out]
    clear hbq hsq hwq hoq hq_aX_0 hq_aX_1 hq_x0_0 hq_x0_1
    have HO179 := Lib.hid (HO165.out.below HS177.out (by omega))
    clear HO165
    have HO180 := Lib.hid (HO166.out.below HS177.out (by omega))
    clear HO166
    have HO181 := Lib.hid (HO167.out.below HS177.out (by omega))
    clear HO167
    have HO182 := Lib.hid (HO168.out.below HS177.out (by omega))
    clear HO168
    have HX183 := Lib.hid (HX169.out.below HS177.out HX169.out.lt)
    clear HX169
    have HX184 := Lib.hid (HX170.out.below HS177.out HX170.out.lt)
    clear HX170
    have HX185 := Lib.hid (HX171.out.below HS177.out HX171.out.lt)
    clear HX171
    have HX186 := Lib.hid (HX172.out.below HS177.out HX172.out.lt)
    clear HX172
    have HX187 := Lib.hid (HX173.out.below HS177.out HX173.out.lt)
    clear HX173
    have HX188 := Lib.hid (HX174.out.below HS177.out HX174.out.lt)
    clear HX174
    have HB189 : Hid (Below w.heap.size w w176) := Lib.hid (HB175.out.trans (HS177.out.mono (by omega)))
    clear HB175
    clear HS177
    have hq_aY_0 : w176.cell? ⟨w.heap.size + 1, 0, none⟩ = some (.slice A0_aY n0_aY c0_aY) := HX184.out.cell 0
    have hq_aY_1 : w176.cell? ⟨w.heap.size + 1, 1, none⟩ = some (.slice A1_aY n1_aY c1_aY) := HX184.out.cell 1
    have hq_x1_0 : w176.cell? ⟨w68.heap.size, 0, none⟩ = some (.slice A0_v67 n0_v67 c0_v67) := HX187.out.cell 0
    have hq_x1_1 : w176.cell? ⟨w68.heap.size, 1, none⟩ = some (.slice A1_v67 n1_v67 c1_v67) := HX187.out.cell 1
    have hbq := Below.refl w176.heap.size w176
    have hsq := And.intro hbq (And.intro hq_aY_0 (And.intro hq_aY_1 (And.intro hq_x1_0 hq_x1_1)))
    go_wp2
    go_region_held3 (fun w' => Below w176.heap.size w176 w' ∧ w'.cell? ⟨w.heap.size + 1, 0, none⟩ = some (.slice A0_aY n0_aY c0_aY) ∧ w'.cell? ⟨w.heap.size + 1, 1, none⟩ = some (.slice A1_aY n1_aY c1_aY) ∧ w'.cell? ⟨w68.heap.size, 0, none⟩ = some (.slice A0_v67 n0_v67 c0_v67) ∧ w'.cell? ⟨w68.heap.size, 1, none⟩ = some (.slice A1_v67 n1_v67 c1_v67))
      (first | exact ⟨hbq, hq_aY_0, hq_aY_1, hq_x1_0, hq_x1_1⟩ | exact ⟨hbq.drew, hq_aY_0, hq_aY_1, hq_x1_0, hq_x1_1⟩)
      (first
        | (go_at_call 41
           refine (L_toMarked w.heap.size _ d_aY _ (RdMarked.below Ha_aY.out (Below.trans HB189.out (Below.mono (by first | exact hbq | exact hbq.drew) (by exact HB189.out.size)))) (by exact Nat.le_trans (HB189.out).size hbq.size) hs_aY).mono ?_
           rintro e w3 ⟨vq, rfl, hoq, hbq3⟩
           obtain ⟨A0_vq, n0_vq, c0_vq, A1_vq, n1_vq, c1_vq, hvq⟩ : ∃ A0_vq n0_vq c0_vq A1_vq n1_vq c1_vq, vq = .agg #[.slice A0_vq n0_vq c0_vq, .slice A1_vq n1_vq c1_vq] := by obtain ⟨_, _, _, _, _, _, _, _, _, _, _, rfl, _⟩ := hoq; exact ⟨_, _, _, _, _, _, rfl⟩
           subst hvq
           have hbn : Below w176.heap.size w176 w3 := Below.trans (by first | exact hbq | exact hbq.drew) (hbq3.mono (by exact hbq.size))
           have nhq_aY_0 : w3.cell? ⟨w.heap.size + 1, 0, none⟩ = some (.slice A0_aY n0_aY c0_aY) := (HX184.out.below hbn HX184.out.lt).cell 0
           have nhq_aY_1 : w3.cell? ⟨w.heap.size + 1, 1, none⟩ = some (.slice A1_aY n1_aY c1_aY) := (HX184.out.below hbn HX184.out.lt).cell 1
           have nhq_x1_0 : w3.cell? ⟨w68.heap.size, 0, none⟩ = some (.slice A0_v67 n0_v67 c0_v67) := (HX187.out.below hbn HX187.out.lt).cell 0
           have nhq_x1_1 : w3.cell? ⟨w68.heap.size, 1, none⟩ = some (.slice A1_v67 n1_v67 c1_v67) := (HX187.out.below hbn HX187.out.lt).cell 1
           clear hbq hq_aY_0 hq_aY_1 hq_x1_0 hq_x1_1 hbq3
           have hbq := hbn
           have hq_aY_0 := nhq_aY_0
           have hq_aY_1 := nhq_aY_1
           have hq_x1_0 := nhq_x1_0
           have hq_x1_1 := nhq_x1_1
           clear hbn nhq_aY_0 nhq_aY_1 nhq_x1_0 nhq_x1_1)
        | (go_at_call 43
           refine (L_eqMarked _ _ _ _ d_aY _ (by exact HO181.out.rd.below (hbq.mono (by omega))) (by exact hoq.rd) (by have := hbq.size; omega) (by exact Nat.le_refl _) hs_aY).mono ?_
           rintro e w4 ⟨rfl, hbq4⟩
           have hbn : Below w176.heap.size w176 w4 := Below.trans (by first | exact hbq | exact hbq.drew) (hbq4.mono (by exact hbq.size))
           have nhq_aY_0 : w4.cell? ⟨w.heap.size + 1, 0, none⟩ = some (.slice A0_aY n0_aY c0_aY) := (HX184.out.below hbn HX184.out.lt).cell 0
           have nhq_aY_1 : w4.cell? ⟨w.heap.size + 1, 1, none⟩ = some (.slice A1_aY n1_aY c1_aY) := (HX184.out.below hbn HX184.out.lt).cell 1
           have nhq_x1_0 : w4.cell? ⟨w68.heap.size, 0, none⟩ = some (.slice A0_v67 n0_v67 c0_v67) := (HX187.out.below hbn HX187.out.lt).cell 0
           have nhq_x1_1 : w4.cell? ⟨w68.heap.size, 1, none⟩ = some (.slice A1_v67 n1_v67 c1_v67) := (HX187.out.below hbn HX187.out.lt).cell 1
           clear hbq hq_aY_0 hq_aY_1 hq_x1_0 hq_x1_1 hbq4
           have hbq := hbn
           have hq_aY_0 := nhq_aY_0
           have hq_aY_1 := nhq_aY_1
           have hq_x1_0 := nhq_x1_0
           have hq_x1_1 := nhq_x1_1
           clear hbn nhq_aY_0 nhq_aY_1 nhq_x1_0 nhq_x1_1))
    obtain ⟨w190, hwq⟩ : ∃ W, Hid (_ = W) := ⟨_, Lib.hid (Eq.refl w4)⟩
    have HS191 : Hid (Below w176.heap.size w176 w190) := Lib.hid (by rw [← hwq.out]; exact hbq)
    have z192 : w176.heap.size ≤ w190.heap.size := HS191.out.size
    try rw [hwq.out]
    clear hbq hsq hwq hoq hq_aY_0 hq_aY_1 hq_x1_0 hq_x1_1
    have HO193 := Lib.hid (HO179.out.below HS191.out (by omega))
    clear HO179
    have HO194 := Lib.hid (HO180.out.below HS191.out (by omega))
    clear HO180
    have HO195 := Lib.hid (HO181.out.below HS191.out (by omega))
    clear HO181
    have HO196 := Lib.hid (HO182.out.below HS191.out (by omega))
    clear HO182
    have HX197 := Lib.hid (HX183.out.below HS191.out HX183.out.lt)
    clear HX183
    have HX198 := Lib.hid (HX184.out.below HS191.out HX184.out.lt)
    clear HX184
    have HX199 := Lib.hid (HX185.out.below HS191.out HX185.out.lt)
    clear HX185
    have HX200 := Lib.hid (HX186.out.below HS191.out HX186.out.lt)
    clear HX186
    have HX201 := Lib.hid (HX187.out.below HS191.out HX187.out.lt)
    clear HX187
    have HX202 := Lib.hid (HX188.out.below HS191.out HX188.out.lt)
    clear HX188
    have HB203 : Hid (Below w.heap.size w w190) := Lib.hid (HB189.out.trans (HS191.out.mono (by omega)))
    clear HB189
    clear HS191
    have fc212 : w190.cell? ⟨w.heap.size, 0, none⟩ = some (.slice A0_aX n0_aX c0_aX) := HX197.out.cell 0
    have fc213 : w190.cell? ⟨w.heap.size, 1, none⟩ = some (.slice A1_aX n1_aX c1_aX) := HX197.out.cell 1
    have fc214 : w190.cell? ⟨w.heap.size + 1, 0, none⟩ = some (.slice A0_aY n0_aY c0_aY) := HX198.out.cell 0
    have fc215 : w190.cell? ⟨w.heap.size + 1, 1, none⟩ = some (.slice A1_aY n1_aY c1_aY) := HX198.out.cell 1
    have fc216 : w190.cell? ⟨B30, 0, none⟩ = some (.slice A0_vr29 n0_vr29 c0_vr29) := HX199.out.cell 0
    have fc217 : w190.cell? ⟨B30, 1, none⟩ = some (.slice A1_vr29 n1_vr29 c1_vr29) := HX199.out.cell 1
    have fc218 : w190.cell? ⟨w49.heap.size, 0, none⟩ = some (.slice A0_v48 n0_v48 c0_v48) := HX200.out.cell 0
    have fc219 : w190.cell? ⟨w49.heap.size, 1, none⟩ = some (.slice A1_v48 n1_v48 c1_v48) := HX200.out.cell 1
    have fc220 : w190.cell? ⟨w68.heap.size, 0, none⟩ = some (.slice A0_v67 n0_v67 c0_v67) := HX201.out.cell 0
    have fc221 : w190.cell? ⟨w68.heap.size, 1, none⟩ = some (.slice A1_v67 n1_v67 c1_v67) := HX201.out.cell 1
    have fc222 : w190.cell? ⟨w120.heap.size, 0, none⟩ = some (.slice A0_g0_w120 n0_g0_w120 c0_g0_w120) := HX202.out.cell 0
    have fc223 : w190.cell? ⟨w120.heap.size, 1, none⟩ = some (.slice A1_g0_w120 n1_g0_w120 c1_g0_w120) := HX202.out.cell 1
    go_wp2_with fail
    refine (L_markMarked _ _ _ _ _ _ HO194.out (by omega) (by omega) (by omega)).mono ?_
    rintro e w204 ⟨K205, rfl, hk206, h0_207, h1_208, hx209, hy210⟩
    have z211 : w190.heap.size ≤ w204.heap.size := hy210.size
    have HO224 := Lib.hid hx209
    have HS225 := Lib.hid hy210
    clear hx209 hy210
    clear fc212 fc213 fc214 fc215 fc216 fc217 fc218 fc219 fc220 fc221 fc222 fc223
    have HO226 := Lib.hid (HO193.out.kept HS225.out (by omega) (by omega))
    clear HO193
    have HO227 := Lib.hid (HO195.out.kept HS225.out (by omega) (by omega))
    clear HO195
    have HO228 := Lib.hid (HO196.out.kept HS225.out (by omega) (by omega))
    clear HO196
    have HX229 := Lib.hid (HX197.out.kept HS225.out (by omega))
    clear HX197
    have HX230 := Lib.hid (HX198.out.kept HS225.out (by omega))
    clear HX198
    have HX231 := Lib.hid (HX199.out.kept HS225.out (by omega))
    clear HX199
    have HX232 := Lib.hid (HX200.out.kept HS225.out (by omega))
    clear HX200
    have HX233 := Lib.hid (HX201.out.kept HS225.out (by omega))
    clear HX201
    have HX234 := Lib.hid (HX202.out.kept HS225.out (by omega))
    clear HX202
    have HB235 : Hid (Below w.heap.size w w204) := Lib.hid (HB203.out.trans ((HS225.out.to_below (by omega)).mono (by omega)))
    clear HB203
    clear HS225 HO194
    have fc244 : w204.cell? ⟨w.heap.size, 0, none⟩ = some (.slice A0_aX n0_aX c0_aX) := HX229.out.cell 0
    have fc245 : w204.cell? ⟨w.heap.size, 1, none⟩ = some (.slice A1_aX n1_aX c1_aX) := HX229.out.cell 1
    have fc246 : w204.cell? ⟨w.heap.size + 1, 0, none⟩ = some (.slice A0_aY n0_aY c0_aY) := HX230.out.cell 0
    have fc247 : w204.cell? ⟨w.heap.size + 1, 1, none⟩ = some (.slice A1_aY n1_aY c1_aY) := HX230.out.cell 1
    have fc248 : w204.cell? ⟨B30, 0, none⟩ = some (.slice A0_vr29 n0_vr29 c0_vr29) := HX231.out.cell 0
    have fc249 : w204.cell? ⟨B30, 1, none⟩ = some (.slice A1_vr29 n1_vr29 c1_vr29) := HX231.out.cell 1
    have fc250 : w204.cell? ⟨w49.heap.size, 0, none⟩ = some (.slice A0_v48 n0_v48 c0_v48) := HX232.out.cell 0
    have fc251 : w204.cell? ⟨w49.heap.size, 1, none⟩ = some (.slice A1_v48 n1_v48 c1_v48) := HX232.out.cell 1
    have fc252 : w204.cell? ⟨w68.heap.size, 0, none⟩ = some (.slice A0_v67 n0_v67 c0_v67) := HX233.out.cell 0
    have fc253 : w204.cell? ⟨w68.heap.size, 1, none⟩ = some (.slice A1_v67 n1_v67 c1_v67) := HX233.out.cell 1
    have fc254 : w204.cell? ⟨w120.heap.size, 0, none⟩ = some (.slice A0_g0_w120 n0_g0_w120 c0_g0_w120) := HX234.out.cell 0
    have fc255 : w204.cell? ⟨w120.heap.size, 1, none⟩ = some (.slice A1_g0_w120 n1_g0_w120 c1_g0_w120) := HX234.out.cell 1
    go_wp2_with fail
    refine (L_markMarked _ _ _ _ _ _ HO227.out (by omega) (by omega) (by omega)).mono ?_
    rintro e w236 ⟨K237, rfl, hk238, h0_239, h1_240, hx241, hy242⟩
    have z243 : w204.heap.size ≤ w236.heap.size := hy242.size
    have HO256 := Lib.hid hx241
    have HS257 := Lib.hid hy242
    clear hx241 hy242
    clear fc244 fc245 fc246 fc247 fc248 fc249 fc250 fc251 fc252 fc253 fc254 fc255
    have HO258 := Lib.hid (HO226.out.kept HS257.out (by omega) (by omega))
    clear HO226
    have HO259 := Lib.hid (HO224.out.kept HS257.out (by omega) (by omega))
    clear HO224
    have HO260 := Lib.hid (HO228.out.kept HS257.out (by omega) (by omega))
    clear HO228
    have HX261 := Lib.hid (HX229.out.kept HS257.out (by omega))
    clear HX229
    have HX262 := Lib.hid (HX230.out.kept HS257.out (by omega))
    clear HX230
    have HX263 := Lib.hid (HX231.out.kept HS257.out (by omega))
    clear HX231
    have HX264 := Lib.hid (HX232.out.kept HS257.out (by omega))
    clear HX232
    have HX265 := Lib.hid (HX233.out.kept HS257.out (by omega))
    clear HX233
    have HX266 := Lib.hid (HX234.out.kept HS257.out (by omega))
    clear HX234
    have HB267 : Hid (Below w.heap.size w w236) := Lib.hid (HB235.out.trans ((HS257.out.to_below (by omega)).mono (by omega)))
    clear HB235
    clear HS257 HO227
    clear HO259
    clear HO256
    have fc270 : w236.cell? ⟨w.heap.size, 0, none⟩ = some (.slice A0_aX n0_aX c0_aX) := HX261.out.cell 0
    have fc271 : w236.cell? ⟨w.heap.size, 1, none⟩ = some (.slice A1_aX n1_aX c1_aX) := HX261.out.cell 1
    have fc272 : w236.cell? ⟨w.heap.size + 1, 0, none⟩ = some (.slice A0_aY n0_aY c0_aY) := HX262.out.cell 0
    have fc273 : w236.cell? ⟨w.heap.size + 1, 1, none⟩ = some (.slice A1_aY n1_aY c1_aY) := HX262.out.cell 1
    have fc274 : w236.cell? ⟨B30, 0, none⟩ = some (.slice A0_vr29 n0_vr29 c0_vr29) := HX263.out.cell 0
    have fc275 : w236.cell? ⟨B30, 1, none⟩ = some (.slice A1_vr29 n1_vr29 c1_vr29) := HX263.out.cell 1
    have fc276 : w236.cell? ⟨w49.heap.size, 0, none⟩ = some (.slice A0_v48 n0_v48 c0_v48) := HX264.out.cell 0
    have fc277 : w236.cell? ⟨w49.heap.size, 1, none⟩ = some (.slice A1_v48 n1_v48 c1_v48) := HX264.out.cell 1
    have fc278 : w236.cell? ⟨w68.heap.size, 0, none⟩ = some (.slice A0_v67 n0_v67 c0_v67) := HX265.out.cell 0
    have fc279 : w236.cell? ⟨w68.heap.size, 1, none⟩ = some (.slice A1_v67 n1_v67 c1_v67) := HX265.out.cell 1
    have fc280 : w236.cell? ⟨w120.heap.size, 0, none⟩ = some (.slice A0_g0_w120 n0_g0_w120 c0_g0_w120) := HX266.out.cell 0
    have fc281 : w236.cell? ⟨w120.heap.size, 1, none⟩ = some (.slice A1_g0_w120 n1_g0_w120 c1_g0_w120) := HX266.out.cell 1
    go_wp2_with fail
    refine (L_eqMarked _ _ _ _ _ _ HO260.out.rd HO258.out.rd (by omega) (by omega) HO260.out.small).mono ?_
    rintro e w268 ⟨rfl, hx269⟩
    have z282 : w236.heap.size ≤ w268.heap.size := hx269.size
    have HS283 := Lib.hid hx269
    clear hx269
    clear fc270 fc271 fc272 fc273 fc274 fc275 fc276 fc277 fc278 fc279 fc280 fc281
    have HO284 := Lib.hid (HO258.out.below HS283.out (by omega))
    clear HO258
    have HO285 := Lib.hid (HO260.out.below HS283.out (by omega))
    clear HO260
    have HX286 := Lib.hid (HX261.out.below HS283.out HX261.out.lt)
    clear HX261
    have HX287 := Lib.hid (HX262.out.below HS283.out HX262.out.lt)
    clear HX262
    have HX288 := Lib.hid (HX263.out.below HS283.out HX263.out.lt)
    clear HX263
    have HX289 := Lib.hid (HX264.out.below HS283.out HX264.out.lt)
    clear HX264
    have HX290 := Lib.hid (HX265.out.below HS283.out HX265.out.lt)
    clear HX265
    have HX291 := Lib.hid (HX266.out.below HS283.out HX266.out.lt)
    clear HX266
    have HB292 : Hid (Below w.heap.size w w268) := Lib.hid (HB267.out.trans (HS283.out.mono (by omega)))
    clear HB267
    clear HS283
    have hs293 := HO285.out.small
    have fc302 : w268.cell? ⟨w.heap.size, 0, none⟩ = some (.slice A0_aX n0_aX c0_aX) := HX286.out.cell 0
    have fc303 : w268.cell? ⟨w.heap.size, 1, none⟩ = some (.slice A1_aX n1_aX c1_aX) := HX286.out.cell 1
    have fc304 : w268.cell? ⟨w.heap.size + 1, 0, none⟩ = some (.slice A0_aY n0_aY c0_aY) := HX287.out.cell 0
    have fc305 : w268.cell? ⟨w.heap.size + 1, 1, none⟩ = some (.slice A1_aY n1_aY c1_aY) := HX287.out.cell 1
    have fc306 : w268.cell? ⟨B30, 0, none⟩ = some (.slice A0_vr29 n0_vr29 c0_vr29) := HX288.out.cell 0
    have fc307 : w268.cell? ⟨B30, 1, none⟩ = some (.slice A1_vr29 n1_vr29 c1_vr29) := HX288.out.cell 1
    have fc308 : w268.cell? ⟨w49.heap.size, 0, none⟩ = some (.slice A0_v48 n0_v48 c0_v48) := HX289.out.cell 0
    have fc309 : w268.cell? ⟨w49.heap.size, 1, none⟩ = some (.slice A1_v48 n1_v48 c1_v48) := HX289.out.cell 1
    have fc310 : w268.cell? ⟨w68.heap.size, 0, none⟩ = some (.slice A0_v67 n0_v67 c0_v67) := HX290.out.cell 0
    have fc311 : w268.cell? ⟨w68.heap.size, 1, none⟩ = some (.slice A1_v67 n1_v67 c1_v67) := HX290.out.cell 1
    have fc312 : w268.cell? ⟨w120.heap.size, 0, none⟩ = some (.slice A0_g0_w120 n0_g0_w120 c0_g0_w120) := HX291.out.cell 0
    have fc313 : w268.cell? ⟨w120.heap.size, 1, none⟩ = some (.slice A1_g0_w120 n1_g0_w120 c1_g0_w120) := HX291.out.cell 1
    go_wp2_with fail
    refine (L_markMarked _ _ _ _ _ _ HO285.out (by omega) (by omega) (by omega)).mono ?_
    rintro e w294 ⟨K295, rfl, hk296, h0_297, h1_298, hx299, hy300⟩
    have z301 : w268.heap.size ≤ w294.heap.size := hy300.size
    have HO314 := Lib.hid hx299
    have HS315 := Lib.hid hy300
    clear hx299 hy300
    clear fc302 fc303 fc304 fc305 fc306 fc307 fc308 fc309 fc310 fc311 fc312 fc313
    have HO316 := Lib.hid (HO284.out.kept HS315.out (by omega) (by omega))
    clear HO284
    have HX317 := Lib.hid (HX286.out.kept HS315.out (by omega))
    clear HX286
    have HX318 := Lib.hid (HX287.out.kept HS315.out (by omega))
    clear HX287
    have HX319 := Lib.hid (HX288.out.kept HS315.out (by omega))
    clear HX288
    have HX320 := Lib.hid (HX289.out.kept HS315.out (by omega))
    clear HX289
    have HX321 := Lib.hid (HX290.out.kept HS315.out (by omega))
    clear HX290
    have HX322 := Lib.hid (HX291.out.kept HS315.out (by omega))
    clear HX291
    have HB323 : Hid (Below w.heap.size w w294) := Lib.hid (HB292.out.trans ((HS315.out.to_below (by omega)).mono (by omega)))
    clear HB292
    clear HS315 HO285
    go_upto_region 25 with (fail)
    go_cut [14] from 27 (fun p w' => p = .int .i64 1 ∧ w' = w294)
    case first =>
      go_wp2
      go_meet
      case rel => exact ⟨rfl, rfl⟩
    case rest =>
      obtain ⟨rfl, hwc⟩ := hcut
      obtain rfl := hwc.symm
      have fc330 : w294.cell? ⟨w.heap.size, 0, none⟩ = some (.slice A0_aX n0_aX c0_aX) := HX317.out.cell 0
      have fc331 : w294.cell? ⟨w.heap.size, 1, none⟩ = some (.slice A1_aX n1_aX c1_aX) := HX317.out.cell 1
      have fc332 : w294.cell? ⟨w.heap.size + 1, 0, none⟩ = some (.slice A0_aY n0_aY c0_aY) := HX318.out.cell 0
      have fc333 : w294.cell? ⟨w.heap.size + 1, 1, none⟩ = some (.slice A1_aY n1_aY c1_aY) := HX318.out.cell 1
      have fc334 : w294.cell? ⟨B30, 0, none⟩ = some (.slice A0_vr29 n0_vr29 c0_vr29) := HX319.out.cell 0
      have fc335 : w294.cell? ⟨B30, 1, none⟩ = some (.slice A1_vr29 n1_vr29 c1_vr29) := HX319.out.cell 1
      have fc336 : w294.cell? ⟨w49.heap.size, 0, none⟩ = some (.slice A0_v48 n0_v48 c0_v48) := HX320.out.cell 0
      have fc337 : w294.cell? ⟨w49.heap.size, 1, none⟩ = some (.slice A1_v48 n1_v48 c1_v48) := HX320.out.cell 1
      have fc338 : w294.cell? ⟨w68.heap.size, 0, none⟩ = some (.slice A0_v67 n0_v67 c0_v67) := HX321.out.cell 0
      have fc339 : w294.cell? ⟨w68.heap.size, 1, none⟩ = some (.slice A1_v67 n1_v67 c1_v67) := HX321.out.cell 1
      have fc340 : w294.cell? ⟨w120.heap.size, 0, none⟩ = some (.slice A0_g0_w120 n0_g0_w120 c0_g0_w120) := HX322.out.cell 0
      have fc341 : w294.cell? ⟨w120.heap.size, 1, none⟩ = some (.slice A1_g0_w120 n1_g0_w120 c1_g0_w120) := HX322.out.cell 1
      go_wp2_with fail
      refine (L_heldMarked _ _ (R_MarkedAdd_0 d_aX d_aY) 1 _ _ HO314.out.rd (by omega) hs293 (Lib.hid rfl) (by omega) (by omega)).mono ?_
      rintro e w324 ⟨K325, rfl, hk326, h0_327, h1_328, hx329⟩
      have z342 : w294.heap.size ≤ w324.heap.size := hx329.size
      have HS343 := Lib.hid hx329
      clear hx329
      have HE344 : Hid (K325 = K295) := Lib.hid (by rw [hk326.out, hk296.out])
      have hne345 : (K325 != K295) = false := by rw [HE344.out]; simp
      clear fc330 fc331 fc332 fc333 fc334 fc335 fc336 fc337 fc338 fc339 fc340 fc341
      have HO346 := Lib.hid (HO316.out.below HS343.out (by omega))
      clear HO316
      have HO347 := Lib.hid (HO314.out.below HS343.out (by omega))
      clear HO314
      have HX348 := Lib.hid (HX317.out.below HS343.out HX317.out.lt)
      clear HX317
      have HX349 := Lib.hid (HX318.out.below HS343.out HX318.out.lt)
      clear HX318
      have HX350 := Lib.hid (HX319.out.below HS343.out HX319.out.lt)
      clear HX319
      have HX351 := Lib.hid (HX320.out.below HS343.out HX320.out.lt)
      clear HX320
      have HX352 := Lib.hid (HX321.out.below HS343.out HX321.out.lt)
      clear HX321
      have HX353 := Lib.hid (HX322.out.below HS343.out HX322.out.lt)
      clear HX322
      have HB354 : Hid (Below w.heap.size w w324) := Lib.hid (HB323.out.trans (HS343.out.mono (by omega)))
      clear HB323
      clear HS343
      go_upto_region 31 with (fail)
      have HRA_aX := Lib.hid (RdMarked.more (RdMarked.below Ha_aX.out HB354.out) (HB354.out).size)
      have HRA_aY := Lib.hid (RdMarked.more (RdMarked.below Ha_aY.out HB354.out) (HB354.out).size)
      go_cut [15, 16] from 94 (fun p q w' => ∃ (B s t : Nat) (A0_vr355 : Option Addr) (n0_vr355 c0_vr355 : Nat) (A1_vr355 : Option Addr) (n1_vr355 c1_vr355 : Nat), p = .pointer (some ⟨B, 0, none⟩) ∧ q = .bool (R_MarkedAdd_1 d_aX d_aY) ∧ Hid (Bx w' B #[.slice A0_vr355 n0_vr355 c0_vr355, .slice A1_vr355 n1_vr355 c1_vr355] 67) ∧ Hid (OwMarked w' s t (.agg #[.slice A0_vr355 n0_vr355 c0_vr355, .slice A1_vr355 n1_vr355 c1_vr355]) (R_MarkedAdd_0 d_aX d_aY)) ∧ Hid (w324.heap.size ≤ s ∧ s ≤ t ∧ t ≤ w'.heap.size ∧ w324.heap.size ≤ B ∧ B < w'.heap.size ∧ (B < s ∨ t ≤ B)) ∧ Hid (Below w324.heap.size w324 w'))
      case first =>
        have HB := Lib.hid (Below.refl w324.heap.size w324)
        have HX_aX_ := HX348
        have zl_aX : w.heap.size < w324.heap.size := HX348.out.lt
        have HX_aY_ := HX349
        have zl_aY : w.heap.size + 1 < w324.heap.size := HX349.out.lt
        try clear hl1
        try clear h0_4
        try clear h1_5
        try clear hx6
        try clear z8
        try clear hl13
        try clear h0_16
        try clear h1_17
        try clear hx18
        try clear z24
        try clear z38
        try clear z39
        try clear z40
        try clear z41
        try clear z42
        try clear z43
        try clear z44
        try clear z52
        try clear hx59
        try clear z71
        try clear z80
        try clear hx89
        try clear z109
        try clear hx121
        try clear z123
        try clear hx137
        try clear z150
        try clear z163
        try clear z178
        try clear z192
        try clear hk206
        try clear h0_207
        try clear h1_208
        try clear hx209
        try clear z211
        try clear hk238
        try clear h0_239
        try clear h1_240
        try clear hx241
        try clear z243
        try clear hx269
        try clear z282
        try clear hs293
        try clear hk296
        try clear h0_297
        try clear h1_298
        try clear hx299
        try clear z301
        try clear hk326
        try clear h0_327
        try clear h1_328
        try clear hx329
        try clear z342
        try clear HE344
        try clear hne345
        try clear z_0
        go_wp2
        refine wp_region_held_drew (S := fun w' => w'.cell? ⟨w.heap.size, 0, none⟩ = some (.slice A0_aX n0_aX c0_aX) ∧ w'.cell? ⟨w.heap.size, 1, none⟩ = some (.slice A1_aX n1_aX c1_aX) ∧ w'.cell? ⟨(w.heap.size + 1), 0, none⟩ = some (.slice A0_aY n0_aY c0_aY) ∧ w'.cell? ⟨(w.heap.size + 1), 1, none⟩ = some (.slice A1_aY n1_aY c1_aY)) (by kernel_rfl) ⟨HX_aX_.out.cell 0, HX_aX_.out.cell 1, HX_aY_.out.cell 0, HX_aY_.out.cell 1⟩ (fun hHeld => ?_)
        obtain ⟨u0, hu0⟩ : ∃ u0, Hid (w324.drew = u0) := ⟨_, Lib.hid rfl⟩
        rw [hu0.out] at hHeld ⊢
        have zs0 : w324.heap.size = u0.heap.size := by rw [← hu0.out]; rfl
        replace zs0 := Nat.le_of_eq zs0
        have HBl0 : Hid (Below w324.heap.size w324 u0) := Lib.hid (by rw [← hu0.out]; exact HB.out.drew)
        have HX_aX_0 : Hid (Bx u0 w.heap.size #[.slice A0_aX n0_aX c0_aX, .slice A1_aX n1_aX c1_aX] 65) := Lib.hid (by rw [← hu0.out]; exact HX_aX_.out)
        have HX_aY_0 : Hid (Bx u0 (w.heap.size + 1) #[.slice A0_aY n0_aY c0_aY, .slice A1_aY n1_aY c1_aY] 65) := Lib.hid (by rw [← hu0.out]; exact HX_aY_.out)
        clear hu0
        refine wpAnyH_take (i := 0) (oi := { dst := some 95, op := Op.load 65 (Operand.tmp 2), type := 65, pos := "exact.go:1879", after := #[], guard := none }) (v := ?_) rfl (by kernel_rfl) (by kernel_rfl) (by kernel_rfl) (fun _ _ _ h => h) (Or.inl ⟨by rfl, ?_⟩) hHeld ?_
        rotate_left
        · intro w hSw; obtain ⟨s0, s1, s2, s3⟩ := hSw; (try dsimp only at hSw); go_simp; (try with_reducible rfl)
        try simp only [Act.put, List.setIfInBounds_toArray, List.set_cons_zero, List.set_cons_succ]
        refine wpAnyH_take (i := 2) (oi := { dst := some 97, op := Op.load 65 (Operand.tmp 3), type := 65, pos := "exact.go:1879", after := #[], guard := none }) (v := ?_) rfl (by kernel_rfl) (by kernel_rfl) (by kernel_rfl) (fun _ _ _ h => h) (Or.inl ⟨by rfl, ?_⟩) hHeld ?_
        rotate_left
        · intro w hSw; obtain ⟨s0, s1, s2, s3⟩ := hSw; (try dsimp only at hSw); go_simp; (try with_reducible rfl)
        try simp only [Act.put, List.setIfInBounds_toArray, List.set_cons_zero, List.set_cons_succ]
        refine wpAnyH_ready (rs := [1, 8]) (by kernel_rfl) (by simp) ?_
        refine AllReadyH.cons (o := { dst := some 96, op := Op.call { callee := Callee.value (Operand.func 41), args := #[Operand.tmp 95], argTypes := #[65] }, type := 67, pos := "exact.go:1879", after := #[{ on := 0, ground := Ground.data }], guard := none }) rfl (fun K hK => ?_) ?_
        · go_simp
          refine (L_toMarked _ _ d_aX u0 ((HRA_aX.out.below HBl0.out).more (HBl0.out).size) (Nat.le_refl _) hs_aX).mono ?_
          rintro e u1 ⟨vv_aX, rfl, h_oaX, hb_⟩
          have zs1 : u0.heap.size ≤ u1.heap.size := hb_.size
          have HBl1 : Hid (Below w324.heap.size w324 u1) := Lib.hid (HBl0.out.trans (hb_.mono HBl0.out.size))
          have HX_aX_1 : Hid (Bx u1 w.heap.size #[.slice A0_aX n0_aX c0_aX, .slice A1_aX n1_aX c1_aX] 65) := Lib.hid (HX_aX_0.out.below hb_ HX_aX_0.out.lt)
          have HX_aY_1 : Hid (Bx u1 (w.heap.size + 1) #[.slice A0_aY n0_aY c0_aY, .slice A1_aY n1_aY c1_aY] 65) := Lib.hid (HX_aY_0.out.below hb_ HX_aY_0.out.lt)
          have HO_oaX1 := Lib.hid h_oaX
          clear hHeld hb_ HBl0 HX_aX_0 HX_aY_0 h_oaX
          (try dsimp only)
          (try go_wp2_with fail)
          refine hK.out _ _ ⟨HX_aX_1.out.cell 0, HX_aX_1.out.cell 1, HX_aY_1.out.cell 0, HX_aY_1.out.cell 1⟩ (fun hHeld => ?_)
          clear hK K
          try simp only [Act.put, List.setIfInBounds_toArray, List.set_cons_zero, List.set_cons_succ]
          refine wpAnyH_ready (rs := [3, 8]) (by kernel_rfl) (by simp) ?_
          refine AllReadyH.cons (o := { dst := some 98, op := Op.call { callee := Callee.value (Operand.func 41), args := #[Operand.tmp 97], argTypes := #[65] }, type := 67, pos := "exact.go:1879", after := #[{ on := 2, ground := Ground.data }, { on := 1, ground := Ground.chain }], guard := none }) rfl (fun K hK => ?_) ?_
          · go_simp
            refine (L_toMarked _ _ d_aY u1 ((HRA_aY.out.below HBl1.out).more (HBl1.out).size) (Nat.le_refl _) hs_aY).mono ?_
            rintro e u2 ⟨vv_aY, rfl, h_oaY, hb_⟩
            have zs2 : u1.heap.size ≤ u2.heap.size := hb_.size
            have HBl2 : Hid (Below w324.heap.size w324 u2) := Lib.hid (HBl1.out.trans (hb_.mono HBl1.out.size))
            have HX_aX_2 : Hid (Bx u2 w.heap.size #[.slice A0_aX n0_aX c0_aX, .slice A1_aX n1_aX c1_aX] 65) := Lib.hid (HX_aX_1.out.below hb_ HX_aX_1.out.lt)
            have HX_aY_2 : Hid (Bx u2 (w.heap.size + 1) #[.slice A0_aY n0_aY c0_aY, .slice A1_aY n1_aY c1_aY] 65) := Lib.hid (HX_aY_1.out.below hb_ HX_aY_1.out.lt)
            have HO_oaX2 := Lib.hid (HO_oaX1.out.below hb_ (by omega))
            have HO_oaY2 := Lib.hid h_oaY
            clear hHeld hb_ HBl1 HX_aX_1 HX_aY_1 HO_oaX1 h_oaY
            (try dsimp only)
            (try go_wp2_with fail)
            refine hK.out _ _ ⟨HX_aX_2.out.cell 0, HX_aX_2.out.cell 1, HX_aY_2.out.cell 0, HX_aY_2.out.cell 1⟩ (fun hHeld => ?_)
            clear hK K
            try simp only [Act.put, List.setIfInBounds_toArray, List.set_cons_zero, List.set_cons_succ]
            refine wpAnyH_ready (rs := [4, 8]) (by kernel_rfl) (by simp) ?_
            refine AllReadyH.cons (o := { dst := some 99, op := Op.call { callee := Callee.value (Operand.func 42), args := #[Operand.tmp 96, Operand.tmp 98], argTypes := #[67, 67] }, type := 68, pos := "exact.go:1879", after := #[{ on := 1, ground := Ground.data }, { on := 3, ground := Ground.data }, { on := 3, ground := Ground.chain }], guard := none }) rfl (fun K hK => ?_) ?_
            · go_simp
              refine (X_i_MarkedAdd _ _ d_aX d_aY u2 (HO_oaX2.out.rd.more (by omega)) (HO_oaY2.out.rd.more (by omega)) hs_aX hs_aY).mono ?_
              rintro e u3 ⟨vr, rfl, h_or, hb_⟩
              have zs3 : u2.heap.size ≤ u3.heap.size := hb_.size
              have HBl3 : Hid (Below w324.heap.size w324 u3) := Lib.hid (HBl2.out.trans (hb_.mono HBl2.out.size))
              have HX_aX_3 : Hid (Bx u3 w.heap.size #[.slice A0_aX n0_aX c0_aX, .slice A1_aX n1_aX c1_aX] 65) := Lib.hid (HX_aX_2.out.below hb_ HX_aX_2.out.lt)
              have HX_aY_3 : Hid (Bx u3 (w.heap.size + 1) #[.slice A0_aY n0_aY c0_aY, .slice A1_aY n1_aY c1_aY] 65) := Lib.hid (HX_aY_2.out.below hb_ HX_aY_2.out.lt)
              have HO_oaX3 := Lib.hid (HO_oaX2.out.below hb_ (by omega))
              have HO_oaY3 := Lib.hid (HO_oaY2.out.below hb_ (by omega))
              have HO_or3 := Lib.hid h_or
              clear hHeld hb_ HBl2 HX_aX_2 HX_aY_2 HO_oaX2 HO_oaY2 h_or
              obtain ⟨A0_vr355, n0_vr355, c0_vr355, A1_vr355, n1_vr355, c1_vr355, hvr⟩ : ∃ A0_vr355 n0_vr355 c0_vr355 A1_vr355 n1_vr355 c1_vr355, vr = .agg #[.slice A0_vr355 n0_vr355 c0_vr355, .slice A1_vr355 n1_vr355 c1_vr355] := by obtain ⟨_, _, _, _, _, _, _, _, _, _, _, rfl, _⟩ := HO_or3.out; exact ⟨_, _, _, _, _, _, rfl⟩
              subst hvr
              (try dsimp only)
              (try go_wp2_with fail)
              refine hK.out _ _ ⟨HX_aX_3.out.cell 0, HX_aX_3.out.cell 1, HX_aY_3.out.cell 0, HX_aY_3.out.cell 1⟩ (fun hHeld => ?_)
              clear hK K
              try simp only [Act.put, List.setIfInBounds_toArray, List.set_cons_zero, List.set_cons_succ]
              refine wpAnyH_take (i := 5) (oi := { dst := some 94, op := Op.move (Operand.tmp 99), type := 68, pos := "exact.go:1879", after := #[{ on := 4, ground := Ground.data }], guard := none }) (v := ?_) rfl (by kernel_rfl) (by kernel_rfl) (by kernel_rfl) (fun _ _ _ h => h) (Or.inl ⟨by rfl, ?_⟩) hHeld ?_
              rotate_left
              · intro w hSw; obtain ⟨s0, s1, s2, s3⟩ := hSw; (try dsimp only at hSw); go_simp; (try with_reducible rfl)
              try simp only [Act.put, List.setIfInBounds_toArray, List.set_cons_zero, List.set_cons_succ]
              refine wpAnyH_take (i := 6) (oi := { dst := some 100, op := Op.extract (Operand.tmp 94) 0, type := 67, pos := "exact.go:1879", after := #[{ on := 5, ground := Ground.data }], guard := none }) (v := ?_) rfl (by kernel_rfl) (by kernel_rfl) (by kernel_rfl) (fun _ _ _ h => h) (Or.inl ⟨by rfl, ?_⟩) hHeld ?_
              rotate_left
              · intro w hSw; obtain ⟨s0, s1, s2, s3⟩ := hSw; (try dsimp only at hSw); go_simp; (try with_reducible rfl)
              try simp only [Act.put, List.setIfInBounds_toArray, List.set_cons_zero, List.set_cons_succ]
              refine wpAnyH_take (i := 7) (oi := { dst := some 101, op := Op.extract (Operand.tmp 94) 1, type := 4, pos := "exact.go:1879", after := #[{ on := 5, ground := Ground.data }, { on := 9, ground := Ground.gcOnly Departure.lateStores }], guard := none }) (v := ?_) rfl (by kernel_rfl) (by kernel_rfl) (by kernel_rfl) (fun _ _ _ h => h) (Or.inl ⟨by rfl, ?_⟩) hHeld ?_
              rotate_left
              · intro w hSw; obtain ⟨s0, s1, s2, s3⟩ := hSw; (try dsimp only at hSw); go_simp; (try with_reducible rfl)
              try simp only [Act.put, List.setIfInBounds_toArray, List.set_cons_zero, List.set_cons_succ]
              refine wpAnyH_ready (rs := [8]) (by kernel_rfl) (by simp) ?_
              refine AllReadyH.cons (o := { dst := some 15, op := Op.alloc 67, type := 0, pos := "exact.go:1879", after := #[], guard := none }) rfl (fun K hK => ?_) ?_
              · go_simp
                obtain ⟨u4, hw4⟩ : ∃ W, Hid (u3.alloc (.cells #[.slice none 0 0, .slice none 0 0] 67) = W) := ⟨_, Lib.hid rfl⟩
                rw [hw4.out]
                have zs4 : u3.heap.size < u4.heap.size := by rw [← hw4.out, World.size_alloc]; omega
                have HBl4 : Hid (Below w324.heap.size w324 u4) := Lib.hid (by rw [← hw4.out]; exact HBl3.out.alloc HBl3.out.size _)
                have HX_aX_4 : Hid (Bx u4 w.heap.size #[.slice A0_aX n0_aX c0_aX, .slice A1_aX n1_aX c1_aX] 65) := Lib.hid (by rw [← hw4.out]; exact HX_aX_3.out.alloc _)
                have HX_aY_4 : Hid (Bx u4 (w.heap.size + 1) #[.slice A0_aY n0_aY c0_aY, .slice A1_aY n1_aY c1_aY] 65) := Lib.hid (by rw [← hw4.out]; exact HX_aY_3.out.alloc _)
                have HX_R4 : Hid (Bx u4 u3.heap.size #[.slice none 0 0, .slice none 0 0] 67) := Lib.hid (by rw [← hw4.out]; exact Bx.new _ _ _)
                have hab4 : Below u3.heap.size u3 u4 := by rw [← hw4.out]; exact (Below.refl _ _).alloc (Nat.le_refl _) _
                have HO_oaX4 := Lib.hid (HO_oaX3.out.below hab4 (by omega))
                have HO_oaY4 := Lib.hid (HO_oaY3.out.below hab4 (by omega))
                have HO_or4 := Lib.hid (HO_or3.out.below hab4 (by omega))
                clear hHeld hw4 hab4 HBl3 HX_aX_3 HX_aY_3 HO_oaX3 HO_oaY3 HO_or3
                refine hK.out _ _ ⟨HX_aX_4.out.cell 0, HX_aX_4.out.cell 1, HX_aY_4.out.cell 0, HX_aY_4.out.cell 1⟩ (fun hHeld => ?_)
                clear hK K
                try simp only [Act.put, List.setIfInBounds_toArray, List.set_cons_zero, List.set_cons_succ]
                refine wpAnyH_ready (rs := [9]) (by kernel_rfl) (by simp) ?_
                refine AllReadyH.cons (o := { dst := none, op := Op.store 67 (Operand.tmp 15) (Operand.tmp 100), type := 0, pos := "exact.go:1879", after := #[{ on := 8, ground := Ground.data }, { on := 6, ground := Ground.data }, { on := 4, ground := Ground.chain }, { on := 0, ground := Ground.phase }, { on := 1, ground := Ground.phase }, { on := 2, ground := Ground.phase }, { on := 3, ground := Ground.phase }, { on := 4, ground := Ground.phase }, { on := 5, ground := Ground.phase }, { on := 6, ground := Ground.phase }, { on := 7, ground := Ground.textOnly Departure.lateStores }, { on := 8, ground := Ground.phase }], guard := none }) rfl (fun K hK => ?_) ?_
                · have xc0 : u4.cell? ⟨u3.heap.size, 0, none⟩ = some (.slice none 0 0) := HX_R4.out.cell 0
                  have xf0 : u4.frozen? ⟨u3.heap.size, 0, none⟩ = false := HX_R4.out.free 0
                  have xc1 : u4.cell? ⟨u3.heap.size, 1, none⟩ = some (.slice none 0 0) := HX_R4.out.cell 1
                  have xf1 : u4.frozen? ⟨u3.heap.size, 1, none⟩ = false := HX_R4.out.free 1
                  go_simp
                  obtain ⟨u5, hw5⟩ : ∃ W, Hid (((u4.setCell ⟨u3.heap.size, 0, none⟩ (.slice A0_vr355 n0_vr355 c0_vr355)).setCell ⟨u3.heap.size, 1, none⟩ (.slice A1_vr355 n1_vr355 c1_vr355)) = W) := ⟨_, Lib.hid rfl⟩
                  rw [hw5.out]
                  have hk5 : Kept (u3.heap.size) (u3.heap.size + 1) u4 u5 := by rw [← hw5.out]; exact ((Kept.refl _ _ _).setCell (p := ⟨u3.heap.size, 0, none⟩) (Nat.le_refl _) (Nat.lt_succ_self _) _).setCell (p := ⟨u3.heap.size, 1, none⟩) (Nat.le_refl _) (Nat.lt_succ_self _) _
                  have zs5 : u4.heap.size ≤ u5.heap.size := hk5.size
                  have hlo5 := HBl4.out.size
                  have HBl5 : Hid (Below w324.heap.size w324 u5) := Lib.hid (HBl4.out.trans ((hk5.to_below (by have := HX_R4.out.lt; omega)).mono (by omega)))
                  have HX_R5 : Hid (Bx u5 u3.heap.size #[.slice A0_vr355 n0_vr355 c0_vr355, .slice A1_vr355 n1_vr355 c1_vr355] 67) := Lib.hid (by have := ((HX_R4.out).set 0 (.slice A0_vr355 n0_vr355 c0_vr355)).set 1 (.slice A1_vr355 n1_vr355 c1_vr355); rw [hw5.out] at this; exact this)
                  have HX_aX_5 : Hid (Bx u5 w.heap.size #[.slice A0_aX n0_aX c0_aX, .slice A1_aX n1_aX c1_aX] 65) := Lib.hid (HX_aX_4.out.kept hk5 (by have := HX_aX_4.out.lt; have := HX_aY_4.out.lt; have := HX_R4.out.lt; omega))
                  have HX_aY_5 : Hid (Bx u5 (w.heap.size + 1) #[.slice A0_aY n0_aY c0_aY, .slice A1_aY n1_aY c1_aY] 65) := Lib.hid (HX_aY_4.out.kept hk5 (by have := HX_aX_4.out.lt; have := HX_aY_4.out.lt; have := HX_R4.out.lt; omega))
                  have HO_oaX5 := Lib.hid (HO_oaX4.out.kept hk5 (by omega) (by omega))
                  have HO_oaY5 := Lib.hid (HO_oaY4.out.kept hk5 (by omega) (by omega))
                  have HO_or5 := Lib.hid (HO_or4.out.kept hk5 (by omega) (by omega))
                  clear hHeld hw5 hk5 hlo5 xc0 xf0 xc1 xf1 HBl4 HX_aX_4 HX_aY_4 HX_R4 HO_oaX4 HO_oaY4 HO_or4
                  refine hK.out _ _ ⟨HX_aX_5.out.cell 0, HX_aX_5.out.cell 1, HX_aY_5.out.cell 0, HX_aY_5.out.cell 1⟩ (fun hHeld => ?_)
                  clear hK K
                  try simp only [Act.put]
                  refine wpAnyH_take (i := 10) (oi := { dst := some 16, op := Op.assign (Operand.tmp 101), type := 4, pos := "exact.go:1879", after := #[{ on := 7, ground := Ground.data }, { on := 9, ground := Ground.chain }, { on := 0, ground := Ground.phase }, { on := 1, ground := Ground.phase }, { on := 2, ground := Ground.phase }, { on := 3, ground := Ground.phase }, { on := 4, ground := Ground.phase }, { on := 5, ground := Ground.phase }, { on := 6, ground := Ground.phase }, { on := 7, ground := Ground.phase }, { on := 8, ground := Ground.phase }, { on := 9, ground := Ground.phase }], guard := none }) (v := ?_) rfl (by kernel_rfl) (by kernel_rfl) (by kernel_rfl) (fun _ _ _ h => h) (Or.inl ⟨by rfl, ?_⟩) hHeld ?_
                  rotate_left
                  · intro w hSw; obtain ⟨s0, s1, s2, s3⟩ := hSw; (try dsimp only at hSw); go_simp; (try with_reducible rfl)
                  try simp only [Act.put, List.setIfInBounds_toArray, List.set_cons_zero, List.set_cons_succ]
                  refine wpAnyH_done (by kernel_rfl) ?_ _
                  go_wp2
                  go_meet
                  case rel => exact ⟨u3.heap.size, _, _, _, _, _, _, _, _, rfl, rfl, HX_R5, HO_or5, Lib.hid ⟨by omega, by omega, by omega, by omega, by omega, by omega⟩, HBl5⟩
                exact AllReadyH.nil
              exact AllReadyH.nil
            refine AllReadyH.cons (o := { dst := some 15, op := Op.alloc 67, type := 0, pos := "exact.go:1879", after := #[], guard := none }) rfl (fun K hK => ?_) ?_
            · go_simp
              obtain ⟨u3, hw3⟩ : ∃ W, Hid (u2.alloc (.cells #[.slice none 0 0, .slice none 0 0] 67) = W) := ⟨_, Lib.hid rfl⟩
              rw [hw3.out]
              have zs3 : u2.heap.size < u3.heap.size := by rw [← hw3.out, World.size_alloc]; omega
              have HBl3 : Hid (Below w324.heap.size w324 u3) := Lib.hid (by rw [← hw3.out]; exact HBl2.out.alloc HBl2.out.size _)
              have HX_aX_3 : Hid (Bx u3 w.heap.size #[.slice A0_aX n0_aX c0_aX, .slice A1_aX n1_aX c1_aX] 65) := Lib.hid (by rw [← hw3.out]; exact HX_aX_2.out.alloc _)
              have HX_aY_3 : Hid (Bx u3 (w.heap.size + 1) #[.slice A0_aY n0_aY c0_aY, .slice A1_aY n1_aY c1_aY] 65) := Lib.hid (by rw [← hw3.out]; exact HX_aY_2.out.alloc _)
              have HX_R3 : Hid (Bx u3 u2.heap.size #[.slice none 0 0, .slice none 0 0] 67) := Lib.hid (by rw [← hw3.out]; exact Bx.new _ _ _)
              have hab3 : Below u2.heap.size u2 u3 := by rw [← hw3.out]; exact (Below.refl _ _).alloc (Nat.le_refl _) _
              have HO_oaX3 := Lib.hid (HO_oaX2.out.below hab3 (by omega))
              have HO_oaY3 := Lib.hid (HO_oaY2.out.below hab3 (by omega))
              clear hHeld hw3 hab3 HBl2 HX_aX_2 HX_aY_2 HO_oaX2 HO_oaY2
              refine hK.out _ _ ⟨HX_aX_3.out.cell 0, HX_aX_3.out.cell 1, HX_aY_3.out.cell 0, HX_aY_3.out.cell 1⟩ (fun hHeld => ?_)
              clear hK K
              try simp only [Act.put, List.setIfInBounds_toArray, List.set_cons_zero, List.set_cons_succ]
              refine wpAnyH_ready (rs := [4]) (by kernel_rfl) (by simp) ?_
              refine AllReadyH.cons (o := { dst := some 99, op := Op.call { callee := Callee.value (Operand.func 42), args := #[Operand.tmp 96, Operand.tmp 98], argTypes := #[67, 67] }, type := 68, pos := "exact.go:1879", after := #[{ on := 1, ground := Ground.data }, { on := 3, ground := Ground.data }, { on := 3, ground := Ground.chain }], guard := none }) rfl (fun K hK => ?_) ?_
              · go_simp
                refine (X_i_MarkedAdd _ _ d_aX d_aY u3 (HO_oaX3.out.rd.more (by omega)) (HO_oaY3.out.rd.more (by omega)) hs_aX hs_aY).mono ?_
                rintro e u4 ⟨vr, rfl, h_or, hb_⟩
                have zs4 : u3.heap.size ≤ u4.heap.size := hb_.size
                have HBl4 : Hid (Below w324.heap.size w324 u4) := Lib.hid (HBl3.out.trans (hb_.mono HBl3.out.size))
                have HX_aX_4 : Hid (Bx u4 w.heap.size #[.slice A0_aX n0_aX c0_aX, .slice A1_aX n1_aX c1_aX] 65) := Lib.hid (HX_aX_3.out.below hb_ HX_aX_3.out.lt)
                have HX_aY_4 : Hid (Bx u4 (w.heap.size + 1) #[.slice A0_aY n0_aY c0_aY, .slice A1_aY n1_aY c1_aY] 65) := Lib.hid (HX_aY_3.out.below hb_ HX_aY_3.out.lt)
                have HX_R4 : Hid (Bx u4 u2.heap.size #[.slice none 0 0, .slice none 0 0] 67) := Lib.hid (HX_R3.out.below hb_ HX_R3.out.lt)
                have HO_oaX4 := Lib.hid (HO_oaX3.out.below hb_ (by omega))
                have HO_oaY4 := Lib.hid (HO_oaY3.out.below hb_ (by omega))
                have HO_or4 := Lib.hid h_or
                clear hHeld hb_ HBl3 HX_aX_3 HX_aY_3 HX_R3 HO_oaX3 HO_oaY3 h_or
                obtain ⟨A0_vr355, n0_vr355, c0_vr355, A1_vr355, n1_vr355, c1_vr355, hvr⟩ : ∃ A0_vr355 n0_vr355 c0_vr355 A1_vr355 n1_vr355 c1_vr355, vr = .agg #[.slice A0_vr355 n0_vr355 c0_vr355, .slice A1_vr355 n1_vr355 c1_vr355] := by obtain ⟨_, _, _, _, _, _, _, _, _, _, _, rfl, _⟩ := HO_or4.out; exact ⟨_, _, _, _, _, _, rfl⟩
                subst hvr
                (try dsimp only)
                (try go_wp2_with fail)
                refine hK.out _ _ ⟨HX_aX_4.out.cell 0, HX_aX_4.out.cell 1, HX_aY_4.out.cell 0, HX_aY_4.out.cell 1⟩ (fun hHeld => ?_)
                clear hK K
                try simp only [Act.put, List.setIfInBounds_toArray, List.set_cons_zero, List.set_cons_succ]
                refine wpAnyH_take (i := 5) (oi := { dst := some 94, op := Op.move (Operand.tmp 99), type := 68, pos := "exact.go:1879", after := #[{ on := 4, ground := Ground.data }], guard := none }) (v := ?_) rfl (by kernel_rfl) (by kernel_rfl) (by kernel_rfl) (fun _ _ _ h => h) (Or.inl ⟨by rfl, ?_⟩) hHeld ?_
                rotate_left
                · intro w hSw; obtain ⟨s0, s1, s2, s3⟩ := hSw; (try dsimp only at hSw); go_simp; (try with_reducible rfl)
                try simp only [Act.put, List.setIfInBounds_toArray, List.set_cons_zero, List.set_cons_succ]
                refine wpAnyH_take (i := 6) (oi := { dst := some 100, op := Op.extract (Operand.tmp 94) 0, type := 67, pos := "exact.go:1879", after := #[{ on := 5, ground := Ground.data }], guard := none }) (v := ?_) rfl (by kernel_rfl) (by kernel_rfl) (by kernel_rfl) (fun _ _ _ h => h) (Or.inl ⟨by rfl, ?_⟩) hHeld ?_
                rotate_left
                · intro w hSw; obtain ⟨s0, s1, s2, s3⟩ := hSw; (try dsimp only at hSw); go_simp; (try with_reducible rfl)
                try simp only [Act.put, List.setIfInBounds_toArray, List.set_cons_zero, List.set_cons_succ]
                refine wpAnyH_take (i := 7) (oi := { dst := some 101, op := Op.extract (Operand.tmp 94) 1, type := 4, pos := "exact.go:1879", after := #[{ on := 5, ground := Ground.data }, { on := 9, ground := Ground.gcOnly Departure.lateStores }], guard := none }) (v := ?_) rfl (by kernel_rfl) (by kernel_rfl) (by kernel_rfl) (fun _ _ _ h => h) (Or.inl ⟨by rfl, ?_⟩) hHeld ?_
                rotate_left
                · intro w hSw; obtain ⟨s0, s1, s2, s3⟩ := hSw; (try dsimp only at hSw); go_simp; (try with_reducible rfl)
                try simp only [Act.put, List.setIfInBounds_toArray, List.set_cons_zero, List.set_cons_succ]
                refine wpAnyH_ready (rs := [9]) (by kernel_rfl) (by simp) ?_
                refine AllReadyH.cons (o := { dst := none, op := Op.store 67 (Operand.tmp 15) (Operand.tmp 100), type := 0, pos := "exact.go:1879", after := #[{ on := 8, ground := Ground.data }, { on := 6, ground := Ground.data }, { on := 4, ground := Ground.chain }, { on := 0, ground := Ground.phase }, { on := 1, ground := Ground.phase }, { on := 2, ground := Ground.phase }, { on := 3, ground := Ground.phase }, { on := 4, ground := Ground.phase }, { on := 5, ground := Ground.phase }, { on := 6, ground := Ground.phase }, { on := 7, ground := Ground.textOnly Departure.lateStores }, { on := 8, ground := Ground.phase }], guard := none }) rfl (fun K hK => ?_) ?_
                · have xc0 : u4.cell? ⟨u2.heap.size, 0, none⟩ = some (.slice none 0 0) := HX_R4.out.cell 0
                  have xf0 : u4.frozen? ⟨u2.heap.size, 0, none⟩ = false := HX_R4.out.free 0
                  have xc1 : u4.cell? ⟨u2.heap.size, 1, none⟩ = some (.slice none 0 0) := HX_R4.out.cell 1
                  have xf1 : u4.frozen? ⟨u2.heap.size, 1, none⟩ = false := HX_R4.out.free 1
                  go_simp
                  obtain ⟨u5, hw5⟩ : ∃ W, Hid (((u4.setCell ⟨u2.heap.size, 0, none⟩ (.slice A0_vr355 n0_vr355 c0_vr355)).setCell ⟨u2.heap.size, 1, none⟩ (.slice A1_vr355 n1_vr355 c1_vr355)) = W) := ⟨_, Lib.hid rfl⟩
                  rw [hw5.out]
                  have hk5 : Kept (u2.heap.size) (u2.heap.size + 1) u4 u5 := by rw [← hw5.out]; exact ((Kept.refl _ _ _).setCell (p := ⟨u2.heap.size, 0, none⟩) (Nat.le_refl _) (Nat.lt_succ_self _) _).setCell (p := ⟨u2.heap.size, 1, none⟩) (Nat.le_refl _) (Nat.lt_succ_self _) _
                  have zs5 : u4.heap.size ≤ u5.heap.size := hk5.size
                  have hlo5 := HBl4.out.size
                  have HBl5 : Hid (Below w324.heap.size w324 u5) := Lib.hid (HBl4.out.trans ((hk5.to_below (by have := HX_R4.out.lt; omega)).mono (by omega)))
                  have HX_R5 : Hid (Bx u5 u2.heap.size #[.slice A0_vr355 n0_vr355 c0_vr355, .slice A1_vr355 n1_vr355 c1_vr355] 67) := Lib.hid (by have := ((HX_R4.out).set 0 (.slice A0_vr355 n0_vr355 c0_vr355)).set 1 (.slice A1_vr355 n1_vr355 c1_vr355); rw [hw5.out] at this; exact this)
                  have HX_aX_5 : Hid (Bx u5 w.heap.size #[.slice A0_aX n0_aX c0_aX, .slice A1_aX n1_aX c1_aX] 65) := Lib.hid (HX_aX_4.out.kept hk5 (by have := HX_aX_4.out.lt; have := HX_aY_4.out.lt; have := HX_R4.out.lt; omega))
                  have HX_aY_5 : Hid (Bx u5 (w.heap.size + 1) #[.slice A0_aY n0_aY c0_aY, .slice A1_aY n1_aY c1_aY] 65) := Lib.hid (HX_aY_4.out.kept hk5 (by have := HX_aX_4.out.lt; have := HX_aY_4.out.lt; have := HX_R4.out.lt; omega))
                  have HO_oaX5 := Lib.hid (HO_oaX4.out.kept hk5 (by omega) (by omega))
                  have HO_oaY5 := Lib.hid (HO_oaY4.out.kept hk5 (by omega) (by omega))
                  have HO_or5 := Lib.hid (HO_or4.out.kept hk5 (by omega) (by omega))
                  clear hHeld hw5 hk5 hlo5 xc0 xf0 xc1 xf1 HBl4 HX_aX_4 HX_aY_4 HX_R4 HO_oaX4 HO_oaY4 HO_or4
                  refine hK.out _ _ ⟨HX_aX_5.out.cell 0, HX_aX_5.out.cell 1, HX_aY_5.out.cell 0, HX_aY_5.out.cell 1⟩ (fun hHeld => ?_)
                  clear hK K
                  try simp only [Act.put]
                  refine wpAnyH_take (i := 10) (oi := { dst := some 16, op := Op.assign (Operand.tmp 101), type := 4, pos := "exact.go:1879", after := #[{ on := 7, ground := Ground.data }, { on := 9, ground := Ground.chain }, { on := 0, ground := Ground.phase }, { on := 1, ground := Ground.phase }, { on := 2, ground := Ground.phase }, { on := 3, ground := Ground.phase }, { on := 4, ground := Ground.phase }, { on := 5, ground := Ground.phase }, { on := 6, ground := Ground.phase }, { on := 7, ground := Ground.phase }, { on := 8, ground := Ground.phase }, { on := 9, ground := Ground.phase }], guard := none }) (v := ?_) rfl (by kernel_rfl) (by kernel_rfl) (by kernel_rfl) (fun _ _ _ h => h) (Or.inl ⟨by rfl, ?_⟩) hHeld ?_
                  rotate_left
                  · intro w hSw; obtain ⟨s0, s1, s2, s3⟩ := hSw; (try dsimp only at hSw); go_simp; (try with_reducible rfl)
                  try simp only [Act.put, List.setIfInBounds_toArray, List.set_cons_zero, List.set_cons_succ]
                  refine wpAnyH_done (by kernel_rfl) ?_ _
                  go_wp2
                  go_meet
                  case rel => exact ⟨u2.heap.size, _, _, _, _, _, _, _, _, rfl, rfl, HX_R5, HO_or5, Lib.hid ⟨by omega, by omega, by omega, by omega, by omega, by omega⟩, HBl5⟩
                exact AllReadyH.nil
              exact AllReadyH.nil
            exact AllReadyH.nil
          refine AllReadyH.cons (o := { dst := some 15, op := Op.alloc 67, type := 0, pos := "exact.go:1879", after := #[], guard := none }) rfl (fun K hK => ?_) ?_
          · go_simp
            obtain ⟨u2, hw2⟩ : ∃ W, Hid (u1.alloc (.cells #[.slice none 0 0, .slice none 0 0] 67) = W) := ⟨_, Lib.hid rfl⟩
            rw [hw2.out]
            have zs2 : u1.heap.size < u2.heap.size := by rw [← hw2.out, World.size_alloc]; omega
            have HBl2 : Hid (Below w324.heap.size w324 u2) := Lib.hid (by rw [← hw2.out]; exact HBl1.out.alloc HBl1.out.size _)
            have HX_aX_2 : Hid (Bx u2 w.heap.size #[.slice A0_aX n0_aX c0_aX, .slice A1_aX n1_aX c1_aX] 65) := Lib.hid (by rw [← hw2.out]; exact HX_aX_1.out.alloc _)
            have HX_aY_2 : Hid (Bx u2 (w.heap.size + 1) #[.slice A0_aY n0_aY c0_aY, .slice A1_aY n1_aY c1_aY] 65) := Lib.hid (by rw [← hw2.out]; exact HX_aY_1.out.alloc _)
            have HX_R2 : Hid (Bx u2 u1.heap.size #[.slice none 0 0, .slice none 0 0] 67) := Lib.hid (by rw [← hw2.out]; exact Bx.new _ _ _)
            have hab2 : Below u1.heap.size u1 u2 := by rw [← hw2.out]; exact (Below.refl _ _).alloc (Nat.le_refl _) _
            have HO_oaX2 := Lib.hid (HO_oaX1.out.below hab2 (by omega))
            clear hHeld hw2 hab2 HBl1 HX_aX_1 HX_aY_1 HO_oaX1
            refine hK.out _ _ ⟨HX_aX_2.out.cell 0, HX_aX_2.out.cell 1, HX_aY_2.out.cell 0, HX_aY_2.out.cell 1⟩ (fun hHeld => ?_)
            clear hK K
            try simp only [Act.put, List.setIfInBounds_toArray, List.set_cons_zero, List.set_cons_succ]
            refine wpAnyH_ready (rs := [3]) (by kernel_rfl) (by simp) ?_
            refine AllReadyH.cons (o := { dst := some 98, op := Op.call { callee := Callee.value (Operand.func 41), args := #[Operand.tmp 97], argTypes := #[65] }, type := 67, pos := "exact.go:1879", after := #[{ on := 2, ground := Ground.data }, { on := 1, ground := Ground.chain }], guard := none }) rfl (fun K hK => ?_) ?_
            · go_simp
              refine (L_toMarked _ _ d_aY u2 ((HRA_aY.out.below HBl2.out).more (HBl2.out).size) (Nat.le_refl _) hs_aY).mono ?_
              rintro e u3 ⟨vv_aY, rfl, h_oaY, hb_⟩
              have zs3 : u2.heap.size ≤ u3.heap.size := hb_.size
              have HBl3 : Hid (Below w324.heap.size w324 u3) := Lib.hid (HBl2.out.trans (hb_.mono HBl2.out.size))
              have HX_aX_3 : Hid (Bx u3 w.heap.size #[.slice A0_aX n0_aX c0_aX, .slice A1_aX n1_aX c1_aX] 65) := Lib.hid (HX_aX_2.out.below hb_ HX_aX_2.out.lt)
              have HX_aY_3 : Hid (Bx u3 (w.heap.size + 1) #[.slice A0_aY n0_aY c0_aY, .slice A1_aY n1_aY c1_aY] 65) := Lib.hid (HX_aY_2.out.below hb_ HX_aY_2.out.lt)
              have HX_R3 : Hid (Bx u3 u1.heap.size #[.slice none 0 0, .slice none 0 0] 67) := Lib.hid (HX_R2.out.below hb_ HX_R2.out.lt)
              have HO_oaX3 := Lib.hid (HO_oaX2.out.below hb_ (by omega))
              have HO_oaY3 := Lib.hid h_oaY
              clear hHeld hb_ HBl2 HX_aX_2 HX_aY_2 HX_R2 HO_oaX2 h_oaY
              (try dsimp only)
              (try go_wp2_with fail)
              refine hK.out _ _ ⟨HX_aX_3.out.cell 0, HX_aX_3.out.cell 1, HX_aY_3.out.cell 0, HX_aY_3.out.cell 1⟩ (fun hHeld => ?_)
              clear hK K
              try simp only [Act.put, List.setIfInBounds_toArray, List.set_cons_zero, List.set_cons_succ]
              refine wpAnyH_ready (rs := [4]) (by kernel_rfl) (by simp) ?_
              refine AllReadyH.cons (o := { dst := some 99, op := Op.call { callee := Callee.value (Operand.func 42), args := #[Operand.tmp 96, Operand.tmp 98], argTypes := #[67, 67] }, type := 68, pos := "exact.go:1879", after := #[{ on := 1, ground := Ground.data }, { on := 3, ground := Ground.data }, { on := 3, ground := Ground.chain }], guard := none }) rfl (fun K hK => ?_) ?_
              · go_simp
                refine (X_i_MarkedAdd _ _ d_aX d_aY u3 (HO_oaX3.out.rd.more (by omega)) (HO_oaY3.out.rd.more (by omega)) hs_aX hs_aY).mono ?_
                rintro e u4 ⟨vr, rfl, h_or, hb_⟩
                have zs4 : u3.heap.size ≤ u4.heap.size := hb_.size
                have HBl4 : Hid (Below w324.heap.size w324 u4) := Lib.hid (HBl3.out.trans (hb_.mono HBl3.out.size))
                have HX_aX_4 : Hid (Bx u4 w.heap.size #[.slice A0_aX n0_aX c0_aX, .slice A1_aX n1_aX c1_aX] 65) := Lib.hid (HX_aX_3.out.below hb_ HX_aX_3.out.lt)
                have HX_aY_4 : Hid (Bx u4 (w.heap.size + 1) #[.slice A0_aY n0_aY c0_aY, .slice A1_aY n1_aY c1_aY] 65) := Lib.hid (HX_aY_3.out.below hb_ HX_aY_3.out.lt)
                have HX_R4 : Hid (Bx u4 u1.heap.size #[.slice none 0 0, .slice none 0 0] 67) := Lib.hid (HX_R3.out.below hb_ HX_R3.out.lt)
                have HO_oaX4 := Lib.hid (HO_oaX3.out.below hb_ (by omega))
                have HO_oaY4 := Lib.hid (HO_oaY3.out.below hb_ (by omega))
                have HO_or4 := Lib.hid h_or
                clear hHeld hb_ HBl3 HX_aX_3 HX_aY_3 HX_R3 HO_oaX3 HO_oaY3 h_or
                obtain ⟨A0_vr355, n0_vr355, c0_vr355, A1_vr355, n1_vr355, c1_vr355, hvr⟩ : ∃ A0_vr355 n0_vr355 c0_vr355 A1_vr355 n1_vr355 c1_vr355, vr = .agg #[.slice A0_vr355 n0_vr355 c0_vr355, .slice A1_vr355 n1_vr355 c1_vr355] := by obtain ⟨_, _, _, _, _, _, _, _, _, _, _, rfl, _⟩ := HO_or4.out; exact ⟨_, _, _, _, _, _, rfl⟩
                subst hvr
                (try dsimp only)
                (try go_wp2_with fail)
                refine hK.out _ _ ⟨HX_aX_4.out.cell 0, HX_aX_4.out.cell 1, HX_aY_4.out.cell 0, HX_aY_4.out.cell 1⟩ (fun hHeld => ?_)
                clear hK K
                try simp only [Act.put, List.setIfInBounds_toArray, List.set_cons_zero, List.set_cons_succ]
                refine wpAnyH_take (i := 5) (oi := { dst := some 94, op := Op.move (Operand.tmp 99), type := 68, pos := "exact.go:1879", after := #[{ on := 4, ground := Ground.data }], guard := none }) (v := ?_) rfl (by kernel_rfl) (by kernel_rfl) (by kernel_rfl) (fun _ _ _ h => h) (Or.inl ⟨by rfl, ?_⟩) hHeld ?_
                rotate_left
                · intro w hSw; obtain ⟨s0, s1, s2, s3⟩ := hSw; (try dsimp only at hSw); go_simp; (try with_reducible rfl)
                try simp only [Act.put, List.setIfInBounds_toArray, List.set_cons_zero, List.set_cons_succ]
                refine wpAnyH_take (i := 6) (oi := { dst := some 100, op := Op.extract (Operand.tmp 94) 0, type := 67, pos := "exact.go:1879", after := #[{ on := 5, ground := Ground.data }], guard := none }) (v := ?_) rfl (by kernel_rfl) (by kernel_rfl) (by kernel_rfl) (fun _ _ _ h => h) (Or.inl ⟨by rfl, ?_⟩) hHeld ?_
                rotate_left
                · intro w hSw; obtain ⟨s0, s1, s2, s3⟩ := hSw; (try dsimp only at hSw); go_simp; (try with_reducible rfl)
                try simp only [Act.put, List.setIfInBounds_toArray, List.set_cons_zero, List.set_cons_succ]
                refine wpAnyH_take (i := 7) (oi := { dst := some 101, op := Op.extract (Operand.tmp 94) 1, type := 4, pos := "exact.go:1879", after := #[{ on := 5, ground := Ground.data }, { on := 9, ground := Ground.gcOnly Departure.lateStores }], guard := none }) (v := ?_) rfl (by kernel_rfl) (by kernel_rfl) (by kernel_rfl) (fun _ _ _ h => h) (Or.inl ⟨by rfl, ?_⟩) hHeld ?_
                rotate_left
                · intro w hSw; obtain ⟨s0, s1, s2, s3⟩ := hSw; (try dsimp only at hSw); go_simp; (try with_reducible rfl)
                try simp only [Act.put, List.setIfInBounds_toArray, List.set_cons_zero, List.set_cons_succ]
                refine wpAnyH_ready (rs := [9]) (by kernel_rfl) (by simp) ?_
                refine AllReadyH.cons (o := { dst := none, op := Op.store 67 (Operand.tmp 15) (Operand.tmp 100), type := 0, pos := "exact.go:1879", after := #[{ on := 8, ground := Ground.data }, { on := 6, ground := Ground.data }, { on := 4, ground := Ground.chain }, { on := 0, ground := Ground.phase }, { on := 1, ground := Ground.phase }, { on := 2, ground := Ground.phase }, { on := 3, ground := Ground.phase }, { on := 4, ground := Ground.phase }, { on := 5, ground := Ground.phase }, { on := 6, ground := Ground.phase }, { on := 7, ground := Ground.textOnly Departure.lateStores }, { on := 8, ground := Ground.phase }], guard := none }) rfl (fun K hK => ?_) ?_
                · have xc0 : u4.cell? ⟨u1.heap.size, 0, none⟩ = some (.slice none 0 0) := HX_R4.out.cell 0
                  have xf0 : u4.frozen? ⟨u1.heap.size, 0, none⟩ = false := HX_R4.out.free 0
                  have xc1 : u4.cell? ⟨u1.heap.size, 1, none⟩ = some (.slice none 0 0) := HX_R4.out.cell 1
                  have xf1 : u4.frozen? ⟨u1.heap.size, 1, none⟩ = false := HX_R4.out.free 1
                  go_simp
                  obtain ⟨u5, hw5⟩ : ∃ W, Hid (((u4.setCell ⟨u1.heap.size, 0, none⟩ (.slice A0_vr355 n0_vr355 c0_vr355)).setCell ⟨u1.heap.size, 1, none⟩ (.slice A1_vr355 n1_vr355 c1_vr355)) = W) := ⟨_, Lib.hid rfl⟩
                  rw [hw5.out]
                  have hk5 : Kept (u1.heap.size) (u1.heap.size + 1) u4 u5 := by rw [← hw5.out]; exact ((Kept.refl _ _ _).setCell (p := ⟨u1.heap.size, 0, none⟩) (Nat.le_refl _) (Nat.lt_succ_self _) _).setCell (p := ⟨u1.heap.size, 1, none⟩) (Nat.le_refl _) (Nat.lt_succ_self _) _
                  have zs5 : u4.heap.size ≤ u5.heap.size := hk5.size
                  have hlo5 := HBl4.out.size
                  have HBl5 : Hid (Below w324.heap.size w324 u5) := Lib.hid (HBl4.out.trans ((hk5.to_below (by have := HX_R4.out.lt; omega)).mono (by omega)))
                  have HX_R5 : Hid (Bx u5 u1.heap.size #[.slice A0_vr355 n0_vr355 c0_vr355, .slice A1_vr355 n1_vr355 c1_vr355] 67) := Lib.hid (by have := ((HX_R4.out).set 0 (.slice A0_vr355 n0_vr355 c0_vr355)).set 1 (.slice A1_vr355 n1_vr355 c1_vr355); rw [hw5.out] at this; exact this)
                  have HX_aX_5 : Hid (Bx u5 w.heap.size #[.slice A0_aX n0_aX c0_aX, .slice A1_aX n1_aX c1_aX] 65) := Lib.hid (HX_aX_4.out.kept hk5 (by have := HX_aX_4.out.lt; have := HX_aY_4.out.lt; have := HX_R4.out.lt; omega))
                  have HX_aY_5 : Hid (Bx u5 (w.heap.size + 1) #[.slice A0_aY n0_aY c0_aY, .slice A1_aY n1_aY c1_aY] 65) := Lib.hid (HX_aY_4.out.kept hk5 (by have := HX_aX_4.out.lt; have := HX_aY_4.out.lt; have := HX_R4.out.lt; omega))
                  have HO_oaX5 := Lib.hid (HO_oaX4.out.kept hk5 (by omega) (by omega))
                  have HO_oaY5 := Lib.hid (HO_oaY4.out.kept hk5 (by omega) (by omega))
                  have HO_or5 := Lib.hid (HO_or4.out.kept hk5 (by omega) (by omega))
                  clear hHeld hw5 hk5 hlo5 xc0 xf0 xc1 xf1 HBl4 HX_aX_4 HX_aY_4 HX_R4 HO_oaX4 HO_oaY4 HO_or4
                  refine hK.out _ _ ⟨HX_aX_5.out.cell 0, HX_aX_5.out.cell 1, HX_aY_5.out.cell 0, HX_aY_5.out.cell 1⟩ (fun hHeld => ?_)
                  clear hK K
                  try simp only [Act.put]
                  refine wpAnyH_take (i := 10) (oi := { dst := some 16, op := Op.assign (Operand.tmp 101), type := 4, pos := "exact.go:1879", after := #[{ on := 7, ground := Ground.data }, { on := 9, ground := Ground.chain }, { on := 0, ground := Ground.phase }, { on := 1, ground := Ground.phase }, { on := 2, ground := Ground.phase }, { on := 3, ground := Ground.phase }, { on := 4, ground := Ground.phase }, { on := 5, ground := Ground.phase }, { on := 6, ground := Ground.phase }, { on := 7, ground := Ground.phase }, { on := 8, ground := Ground.phase }, { on := 9, ground := Ground.phase }], guard := none }) (v := ?_) rfl (by kernel_rfl) (by kernel_rfl) (by kernel_rfl) (fun _ _ _ h => h) (Or.inl ⟨by rfl, ?_⟩) hHeld ?_
                  rotate_left
                  · intro w hSw; obtain ⟨s0, s1, s2, s3⟩ := hSw; (try dsimp only at hSw); go_simp; (try with_reducible rfl)
                  try simp only [Act.put, List.setIfInBounds_toArray, List.set_cons_zero, List.set_cons_succ]
                  refine wpAnyH_done (by kernel_rfl) ?_ _
                  go_wp2
                  go_meet
                  case rel => exact ⟨u1.heap.size, _, _, _, _, _, _, _, _, rfl, rfl, HX_R5, HO_or5, Lib.hid ⟨by omega, by omega, by omega, by omega, by omega, by omega⟩, HBl5⟩
                exact AllReadyH.nil
              exact AllReadyH.nil
            exact AllReadyH.nil
          exact AllReadyH.nil
        refine AllReadyH.cons (o := { dst := some 15, op := Op.alloc 67, type := 0, pos := "exact.go:1879", after := #[], guard := none }) rfl (fun K hK => ?_) ?_
        · go_simp
          obtain ⟨u1, hw1⟩ : ∃ W, Hid (u0.alloc (.cells #[.slice none 0 0, .slice none 0 0] 67) = W) := ⟨_, Lib.hid rfl⟩
          rw [hw1.out]
          have zs1 : u0.heap.size < u1.heap.size := by rw [← hw1.out, World.size_alloc]; omega
          have HBl1 : Hid (Below w324.heap.size w324 u1) := Lib.hid (by rw [← hw1.out]; exact HBl0.out.alloc HBl0.out.size _)
          have HX_aX_1 : Hid (Bx u1 w.heap.size #[.slice A0_aX n0_aX c0_aX, .slice A1_aX n1_aX c1_aX] 65) := Lib.hid (by rw [← hw1.out]; exact HX_aX_0.out.alloc _)
          have HX_aY_1 : Hid (Bx u1 (w.heap.size + 1) #[.slice A0_aY n0_aY c0_aY, .slice A1_aY n1_aY c1_aY] 65) := Lib.hid (by rw [← hw1.out]; exact HX_aY_0.out.alloc _)
          have HX_R1 : Hid (Bx u1 u0.heap.size #[.slice none 0 0, .slice none 0 0] 67) := Lib.hid (by rw [← hw1.out]; exact Bx.new _ _ _)
          have hab1 : Below u0.heap.size u0 u1 := by rw [← hw1.out]; exact (Below.refl _ _).alloc (Nat.le_refl _) _
          clear hHeld hw1 hab1 HBl0 HX_aX_0 HX_aY_0
          refine hK.out _ _ ⟨HX_aX_1.out.cell 0, HX_aX_1.out.cell 1, HX_aY_1.out.cell 0, HX_aY_1.out.cell 1⟩ (fun hHeld => ?_)
          clear hK K
          try simp only [Act.put, List.setIfInBounds_toArray, List.set_cons_zero, List.set_cons_succ]
          refine wpAnyH_ready (rs := [1]) (by kernel_rfl) (by simp) ?_
          refine AllReadyH.cons (o := { dst := some 96, op := Op.call { callee := Callee.value (Operand.func 41), args := #[Operand.tmp 95], argTypes := #[65] }, type := 67, pos := "exact.go:1879", after := #[{ on := 0, ground := Ground.data }], guard := none }) rfl (fun K hK => ?_) ?_
          · go_simp
            refine (L_toMarked _ _ d_aX u1 ((HRA_aX.out.below HBl1.out).more (HBl1.out).size) (Nat.le_refl _) hs_aX).mono ?_
            rintro e u2 ⟨vv_aX, rfl, h_oaX, hb_⟩
            have zs2 : u1.heap.size ≤ u2.heap.size := hb_.size
            have HBl2 : Hid (Below w324.heap.size w324 u2) := Lib.hid (HBl1.out.trans (hb_.mono HBl1.out.size))
            have HX_aX_2 : Hid (Bx u2 w.heap.size #[.slice A0_aX n0_aX c0_aX, .slice A1_aX n1_aX c1_aX] 65) := Lib.hid (HX_aX_1.out.below hb_ HX_aX_1.out.lt)
            have HX_aY_2 : Hid (Bx u2 (w.heap.size + 1) #[.slice A0_aY n0_aY c0_aY, .slice A1_aY n1_aY c1_aY] 65) := Lib.hid (HX_aY_1.out.below hb_ HX_aY_1.out.lt)
            have HX_R2 : Hid (Bx u2 u0.heap.size #[.slice none 0 0, .slice none 0 0] 67) := Lib.hid (HX_R1.out.below hb_ HX_R1.out.lt)
            have HO_oaX2 := Lib.hid h_oaX
            clear hHeld hb_ HBl1 HX_aX_1 HX_aY_1 HX_R1 h_oaX
            (try dsimp only)
            (try go_wp2_with fail)
            refine hK.out _ _ ⟨HX_aX_2.out.cell 0, HX_aX_2.out.cell 1, HX_aY_2.out.cell 0, HX_aY_2.out.cell 1⟩ (fun hHeld => ?_)
            clear hK K
            try simp only [Act.put, List.setIfInBounds_toArray, List.set_cons_zero, List.set_cons_succ]
            refine wpAnyH_ready (rs := [3]) (by kernel_rfl) (by simp) ?_
            refine AllReadyH.cons (o := { dst := some 98, op := Op.call { callee := Callee.value (Operand.func 41), args := #[Operand.tmp 97], argTypes := #[65] }, type := 67, pos := "exact.go:1879", after := #[{ on := 2, ground := Ground.data }, { on := 1, ground := Ground.chain }], guard := none }) rfl (fun K hK => ?_) ?_
            · go_simp
              refine (L_toMarked _ _ d_aY u2 ((HRA_aY.out.below HBl2.out).more (HBl2.out).size) (Nat.le_refl _) hs_aY).mono ?_
              rintro e u3 ⟨vv_aY, rfl, h_oaY, hb_⟩
              have zs3 : u2.heap.size ≤ u3.heap.size := hb_.size
              have HBl3 : Hid (Below w324.heap.size w324 u3) := Lib.hid (HBl2.out.trans (hb_.mono HBl2.out.size))
              have HX_aX_3 : Hid (Bx u3 w.heap.size #[.slice A0_aX n0_aX c0_aX, .slice A1_aX n1_aX c1_aX] 65) := Lib.hid (HX_aX_2.out.below hb_ HX_aX_2.out.lt)
              have HX_aY_3 : Hid (Bx u3 (w.heap.size + 1) #[.slice A0_aY n0_aY c0_aY, .slice A1_aY n1_aY c1_aY] 65) := Lib.hid (HX_aY_2.out.below hb_ HX_aY_2.out.lt)
              have HX_R3 : Hid (Bx u3 u0.heap.size #[.slice none 0 0, .slice none 0 0] 67) := Lib.hid (HX_R2.out.below hb_ HX_R2.out.lt)
              have HO_oaX3 := Lib.hid (HO_oaX2.out.below hb_ (by omega))
              have HO_oaY3 := Lib.hid h_oaY
              clear hHeld hb_ HBl2 HX_aX_2 HX_aY_2 HX_R2 HO_oaX2 h_oaY
              (try dsimp only)
              (try go_wp2_with fail)
              refine hK.out _ _ ⟨HX_aX_3.out.cell 0, HX_aX_3.out.cell 1, HX_aY_3.out.cell 0, HX_aY_3.out.cell 1⟩ (fun hHeld => ?_)
              clear hK K
              try simp only [Act.put, List.setIfInBounds_toArray, List.set_cons_zero, List.set_cons_succ]
              refine wpAnyH_ready (rs := [4]) (by kernel_rfl) (by simp) ?_
              refine AllReadyH.cons (o := { dst := some 99, op := Op.call { callee := Callee.value (Operand.func 42), args := #[Operand.tmp 96, Operand.tmp 98], argTypes := #[67, 67] }, type := 68, pos := "exact.go:1879", after := #[{ on := 1, ground := Ground.data }, { on := 3, ground := Ground.data }, { on := 3, ground := Ground.chain }], guard := none }) rfl (fun K hK => ?_) ?_
              · go_simp
                refine (X_i_MarkedAdd _ _ d_aX d_aY u3 (HO_oaX3.out.rd.more (by omega)) (HO_oaY3.out.rd.more (by omega)) hs_aX hs_aY).mono ?_
                rintro e u4 ⟨vr, rfl, h_or, hb_⟩
                have zs4 : u3.heap.size ≤ u4.heap.size := hb_.size
                have HBl4 : Hid (Below w324.heap.size w324 u4) := Lib.hid (HBl3.out.trans (hb_.mono HBl3.out.size))
                have HX_aX_4 : Hid (Bx u4 w.heap.size #[.slice A0_aX n0_aX c0_aX, .slice A1_aX n1_aX c1_aX] 65) := Lib.hid (HX_aX_3.out.below hb_ HX_aX_3.out.lt)
                have HX_aY_4 : Hid (Bx u4 (w.heap.size + 1) #[.slice A0_aY n0_aY c0_aY, .slice A1_aY n1_aY c1_aY] 65) := Lib.hid (HX_aY_3.out.below hb_ HX_aY_3.out.lt)
                have HX_R4 : Hid (Bx u4 u0.heap.size #[.slice none 0 0, .slice none 0 0] 67) := Lib.hid (HX_R3.out.below hb_ HX_R3.out.lt)
                have HO_oaX4 := Lib.hid (HO_oaX3.out.below hb_ (by omega))
                have HO_oaY4 := Lib.hid (HO_oaY3.out.below hb_ (by omega))
                have HO_or4 := Lib.hid h_or
                clear hHeld hb_ HBl3 HX_aX_3 HX_aY_3 HX_R3 HO_oaX3 HO_oaY3 h_or
                obtain ⟨A0_vr355, n0_vr355, c0_vr355, A1_vr355, n1_vr355, c1_vr355, hvr⟩ : ∃ A0_vr355 n0_vr355 c0_vr355 A1_vr355 n1_vr355 c1_vr355, vr = .agg #[.slice A0_vr355 n0_vr355 c0_vr355, .slice A1_vr355 n1_vr355 c1_vr355] := by obtain ⟨_, _, _, _, _, _, _, _, _, _, _, rfl, _⟩ := HO_or4.out; exact ⟨_, _, _, _, _, _, rfl⟩
                subst hvr
                (try dsimp only)
                (try go_wp2_with fail)
                refine hK.out _ _ ⟨HX_aX_4.out.cell 0, HX_aX_4.out.cell 1, HX_aY_4.out.cell 0, HX_aY_4.out.cell 1⟩ (fun hHeld => ?_)
                clear hK K
                try simp only [Act.put, List.setIfInBounds_toArray, List.set_cons_zero, List.set_cons_succ]
                refine wpAnyH_take (i := 5) (oi := { dst := some 94, op := Op.move (Operand.tmp 99), type := 68, pos := "exact.go:1879", after := #[{ on := 4, ground := Ground.data }], guard := none }) (v := ?_) rfl (by kernel_rfl) (by kernel_rfl) (by kernel_rfl) (fun _ _ _ h => h) (Or.inl ⟨by rfl, ?_⟩) hHeld ?_
                rotate_left
                · intro w hSw; obtain ⟨s0, s1, s2, s3⟩ := hSw; (try dsimp only at hSw); go_simp; (try with_reducible rfl)
                try simp only [Act.put, List.setIfInBounds_toArray, List.set_cons_zero, List.set_cons_succ]
                refine wpAnyH_take (i := 6) (oi := { dst := some 100, op := Op.extract (Operand.tmp 94) 0, type := 67, pos := "exact.go:1879", after := #[{ on := 5, ground := Ground.data }], guard := none }) (v := ?_) rfl (by kernel_rfl) (by kernel_rfl) (by kernel_rfl) (fun _ _ _ h => h) (Or.inl ⟨by rfl, ?_⟩) hHeld ?_
                rotate_left
                · intro w hSw; obtain ⟨s0, s1, s2, s3⟩ := hSw; (try dsimp only at hSw); go_simp; (try with_reducible rfl)
                try simp only [Act.put, List.setIfInBounds_toArray, List.set_cons_zero, List.set_cons_succ]
                refine wpAnyH_take (i := 7) (oi := { dst := some 101, op := Op.extract (Operand.tmp 94) 1, type := 4, pos := "exact.go:1879", after := #[{ on := 5, ground := Ground.data }, { on := 9, ground := Ground.gcOnly Departure.lateStores }], guard := none }) (v := ?_) rfl (by kernel_rfl) (by kernel_rfl) (by kernel_rfl) (fun _ _ _ h => h) (Or.inl ⟨by rfl, ?_⟩) hHeld ?_
                rotate_left
                · intro w hSw; obtain ⟨s0, s1, s2, s3⟩ := hSw; (try dsimp only at hSw); go_simp; (try with_reducible rfl)
                try simp only [Act.put, List.setIfInBounds_toArray, List.set_cons_zero, List.set_cons_succ]
                refine wpAnyH_ready (rs := [9]) (by kernel_rfl) (by simp) ?_
                refine AllReadyH.cons (o := { dst := none, op := Op.store 67 (Operand.tmp 15) (Operand.tmp 100), type := 0, pos := "exact.go:1879", after := #[{ on := 8, ground := Ground.data }, { on := 6, ground := Ground.data }, { on := 4, ground := Ground.chain }, { on := 0, ground := Ground.phase }, { on := 1, ground := Ground.phase }, { on := 2, ground := Ground.phase }, { on := 3, ground := Ground.phase }, { on := 4, ground := Ground.phase }, { on := 5, ground := Ground.phase }, { on := 6, ground := Ground.phase }, { on := 7, ground := Ground.textOnly Departure.lateStores }, { on := 8, ground := Ground.phase }], guard := none }) rfl (fun K hK => ?_) ?_
                · have xc0 : u4.cell? ⟨u0.heap.size, 0, none⟩ = some (.slice none 0 0) := HX_R4.out.cell 0
                  have xf0 : u4.frozen? ⟨u0.heap.size, 0, none⟩ = false := HX_R4.out.free 0
                  have xc1 : u4.cell? ⟨u0.heap.size, 1, none⟩ = some (.slice none 0 0) := HX_R4.out.cell 1
                  have xf1 : u4.frozen? ⟨u0.heap.size, 1, none⟩ = false := HX_R4.out.free 1
                  go_simp
                  obtain ⟨u5, hw5⟩ : ∃ W, Hid (((u4.setCell ⟨u0.heap.size, 0, none⟩ (.slice A0_vr355 n0_vr355 c0_vr355)).setCell ⟨u0.heap.size, 1, none⟩ (.slice A1_vr355 n1_vr355 c1_vr355)) = W) := ⟨_, Lib.hid rfl⟩
                  rw [hw5.out]
                  have hk5 : Kept (u0.heap.size) (u0.heap.size + 1) u4 u5 := by rw [← hw5.out]; exact ((Kept.refl _ _ _).setCell (p := ⟨u0.heap.size, 0, none⟩) (Nat.le_refl _) (Nat.lt_succ_self _) _).setCell (p := ⟨u0.heap.size, 1, none⟩) (Nat.le_refl _) (Nat.lt_succ_self _) _
                  have zs5 : u4.heap.size ≤ u5.heap.size := hk5.size
                  have hlo5 := HBl4.out.size
                  have HBl5 : Hid (Below w324.heap.size w324 u5) := Lib.hid (HBl4.out.trans ((hk5.to_below (by have := HX_R4.out.lt; omega)).mono (by omega)))
                  have HX_R5 : Hid (Bx u5 u0.heap.size #[.slice A0_vr355 n0_vr355 c0_vr355, .slice A1_vr355 n1_vr355 c1_vr355] 67) := Lib.hid (by have := ((HX_R4.out).set 0 (.slice A0_vr355 n0_vr355 c0_vr355)).set 1 (.slice A1_vr355 n1_vr355 c1_vr355); rw [hw5.out] at this; exact this)
                  have HX_aX_5 : Hid (Bx u5 w.heap.size #[.slice A0_aX n0_aX c0_aX, .slice A1_aX n1_aX c1_aX] 65) := Lib.hid (HX_aX_4.out.kept hk5 (by have := HX_aX_4.out.lt; have := HX_aY_4.out.lt; have := HX_R4.out.lt; omega))
                  have HX_aY_5 : Hid (Bx u5 (w.heap.size + 1) #[.slice A0_aY n0_aY c0_aY, .slice A1_aY n1_aY c1_aY] 65) := Lib.hid (HX_aY_4.out.kept hk5 (by have := HX_aX_4.out.lt; have := HX_aY_4.out.lt; have := HX_R4.out.lt; omega))
                  have HO_oaX5 := Lib.hid (HO_oaX4.out.kept hk5 (by omega) (by omega))
                  have HO_oaY5 := Lib.hid (HO_oaY4.out.kept hk5 (by omega) (by omega))
                  have HO_or5 := Lib.hid (HO_or4.out.kept hk5 (by omega) (by omega))
                  clear hHeld hw5 hk5 hlo5 xc0 xf0 xc1 xf1 HBl4 HX_aX_4 HX_aY_4 HX_R4 HO_oaX4 HO_oaY4 HO_or4
                  refine hK.out _ _ ⟨HX_aX_5.out.cell 0, HX_aX_5.out.cell 1, HX_aY_5.out.cell 0, HX_aY_5.out.cell 1⟩ (fun hHeld => ?_)
                  clear hK K
                  try simp only [Act.put]
                  refine wpAnyH_take (i := 10) (oi := { dst := some 16, op := Op.assign (Operand.tmp 101), type := 4, pos := "exact.go:1879", after := #[{ on := 7, ground := Ground.data }, { on := 9, ground := Ground.chain }, { on := 0, ground := Ground.phase }, { on := 1, ground := Ground.phase }, { on := 2, ground := Ground.phase }, { on := 3, ground := Ground.phase }, { on := 4, ground := Ground.phase }, { on := 5, ground := Ground.phase }, { on := 6, ground := Ground.phase }, { on := 7, ground := Ground.phase }, { on := 8, ground := Ground.phase }, { on := 9, ground := Ground.phase }], guard := none }) (v := ?_) rfl (by kernel_rfl) (by kernel_rfl) (by kernel_rfl) (fun _ _ _ h => h) (Or.inl ⟨by rfl, ?_⟩) hHeld ?_
                  rotate_left
                  · intro w hSw; obtain ⟨s0, s1, s2, s3⟩ := hSw; (try dsimp only at hSw); go_simp; (try with_reducible rfl)
                  try simp only [Act.put, List.setIfInBounds_toArray, List.set_cons_zero, List.set_cons_succ]
                  refine wpAnyH_done (by kernel_rfl) ?_ _
                  go_wp2
                  go_meet
                  case rel => exact ⟨u0.heap.size, _, _, _, _, _, _, _, _, rfl, rfl, HX_R5, HO_or5, Lib.hid ⟨by omega, by omega, by omega, by omega, by omega, by omega⟩, HBl5⟩
                exact AllReadyH.nil
              exact AllReadyH.nil
            exact AllReadyH.nil
          exact AllReadyH.nil
        exact AllReadyH.nil
      case rest =>
        obtain ⟨B356, s357, t358, A0_vr355, n0_vr355, c0_vr355, A1_vr355, n1_vr355, c1_vr355, rfl, rfl, HX360, HO361, HI362, HS363⟩ := hcut
        obtain ⟨w359, hwc⟩ : ∃ W, W = wc := ⟨_, rfl⟩
        subst hwc
        obtain ⟨z364, z365, z366, z367, z368, z369⟩ := HI362.out
        have z370 : w324.heap.size ≤ w359.heap.size := HS363.out.size
        clear HI362 HRA_aX HRA_aY
        have HO371 := Lib.hid (HO346.out.below HS363.out (by omega))
        clear HO346
        have HO372 := Lib.hid (HO347.out.below HS363.out (by omega))
        clear HO347
        have HX373 := Lib.hid (HX348.out.below HS363.out HX348.out.lt)
        clear HX348
        have HX374 := Lib.hid (HX349.out.below HS363.out HX349.out.lt)
        clear HX349
        have HX375 := Lib.hid (HX350.out.below HS363.out HX350.out.lt)
        clear HX350
        have HX376 := Lib.hid (HX351.out.below HS363.out HX351.out.lt)
        clear HX351
        have HX377 := Lib.hid (HX352.out.below HS363.out HX352.out.lt)
        clear HX352
        have HX378 := Lib.hid (HX353.out.below HS363.out HX353.out.lt)
        clear HX353
        have HB379 : Hid (Below w.heap.size w w359) := Lib.hid (HB354.out.trans (HS363.out.mono (by omega)))
        clear HB354
        clear HS363
        have fc382 : w359.cell? ⟨w.heap.size, 0, none⟩ = some (.slice A0_aX n0_aX c0_aX) := HX373.out.cell 0
        have fc383 : w359.cell? ⟨w.heap.size, 1, none⟩ = some (.slice A1_aX n1_aX c1_aX) := HX373.out.cell 1
        have fc384 : w359.cell? ⟨w.heap.size + 1, 0, none⟩ = some (.slice A0_aY n0_aY c0_aY) := HX374.out.cell 0
        have fc385 : w359.cell? ⟨w.heap.size + 1, 1, none⟩ = some (.slice A1_aY n1_aY c1_aY) := HX374.out.cell 1
        have fc386 : w359.cell? ⟨B30, 0, none⟩ = some (.slice A0_vr29 n0_vr29 c0_vr29) := HX375.out.cell 0
        have fc387 : w359.cell? ⟨B30, 1, none⟩ = some (.slice A1_vr29 n1_vr29 c1_vr29) := HX375.out.cell 1
        have fc388 : w359.cell? ⟨w49.heap.size, 0, none⟩ = some (.slice A0_v48 n0_v48 c0_v48) := HX376.out.cell 0
        have fc389 : w359.cell? ⟨w49.heap.size, 1, none⟩ = some (.slice A1_v48 n1_v48 c1_v48) := HX376.out.cell 1
        have fc390 : w359.cell? ⟨w68.heap.size, 0, none⟩ = some (.slice A0_v67 n0_v67 c0_v67) := HX377.out.cell 0
        have fc391 : w359.cell? ⟨w68.heap.size, 1, none⟩ = some (.slice A1_v67 n1_v67 c1_v67) := HX377.out.cell 1
        have fc392 : w359.cell? ⟨w120.heap.size, 0, none⟩ = some (.slice A0_g0_w120 n0_g0_w120 c0_g0_w120) := HX378.out.cell 0
        have fc393 : w359.cell? ⟨w120.heap.size, 1, none⟩ = some (.slice A1_g0_w120 n1_g0_w120 c1_g0_w120) := HX378.out.cell 1
        have fc394 : w359.cell? ⟨B356, 0, none⟩ = some (.slice A0_vr355 n0_vr355 c0_vr355) := HX360.out.cell 0
        have fc395 : w359.cell? ⟨B356, 1, none⟩ = some (.slice A1_vr355 n1_vr355 c1_vr355) := HX360.out.cell 1
        go_wp2_with fail
        refine (L_eqMarked _ _ _ _ _ _ HO361.out.rd HO371.out.rd (by omega) (by omega) HO361.out.small).mono ?_
        rintro e w380 ⟨rfl, hx381⟩
        have z396 : w359.heap.size ≤ w380.heap.size := hx381.size
        have HS397 := Lib.hid hx381
        clear hx381
        clear fc382 fc383 fc384 fc385 fc386 fc387 fc388 fc389 fc390 fc391 fc392 fc393 fc394 fc395
        have HO398 := Lib.hid (HO371.out.below HS397.out (by omega))
        clear HO371
        have HO399 := Lib.hid (HO372.out.below HS397.out (by omega))
        clear HO372
        have HO400 := Lib.hid (HO361.out.below HS397.out (by omega))
        clear HO361
        have HX401 := Lib.hid (HX373.out.below HS397.out HX373.out.lt)
        clear HX373
        have HX402 := Lib.hid (HX374.out.below HS397.out HX374.out.lt)
        clear HX374
        have HX403 := Lib.hid (HX375.out.below HS397.out HX375.out.lt)
        clear HX375
        have HX404 := Lib.hid (HX376.out.below HS397.out HX376.out.lt)
        clear HX376
        have HX405 := Lib.hid (HX377.out.below HS397.out HX377.out.lt)
        clear HX377
        have HX406 := Lib.hid (HX378.out.below HS397.out HX378.out.lt)
        clear HX378
        have HX407 := Lib.hid (HX360.out.below HS397.out HX360.out.lt)
        clear HX360
        have HB408 : Hid (Below w.heap.size w w380) := Lib.hid (HB379.out.trans (HS397.out.mono (by omega)))
        clear HB379
        clear HS397
        have fc415 : w380.cell? ⟨w.heap.size, 0, none⟩ = some (.slice A0_aX n0_aX c0_aX) := HX401.out.cell 0
        have fc416 : w380.cell? ⟨w.heap.size, 1, none⟩ = some (.slice A1_aX n1_aX c1_aX) := HX401.out.cell 1
        have fc417 : w380.cell? ⟨w.heap.size + 1, 0, none⟩ = some (.slice A0_aY n0_aY c0_aY) := HX402.out.cell 0
        have fc418 : w380.cell? ⟨w.heap.size + 1, 1, none⟩ = some (.slice A1_aY n1_aY c1_aY) := HX402.out.cell 1
        have fc419 : w380.cell? ⟨B30, 0, none⟩ = some (.slice A0_vr29 n0_vr29 c0_vr29) := HX403.out.cell 0
        have fc420 : w380.cell? ⟨B30, 1, none⟩ = some (.slice A1_vr29 n1_vr29 c1_vr29) := HX403.out.cell 1
        have fc421 : w380.cell? ⟨w49.heap.size, 0, none⟩ = some (.slice A0_v48 n0_v48 c0_v48) := HX404.out.cell 0
        have fc422 : w380.cell? ⟨w49.heap.size, 1, none⟩ = some (.slice A1_v48 n1_v48 c1_v48) := HX404.out.cell 1
        have fc423 : w380.cell? ⟨w68.heap.size, 0, none⟩ = some (.slice A0_v67 n0_v67 c0_v67) := HX405.out.cell 0
        have fc424 : w380.cell? ⟨w68.heap.size, 1, none⟩ = some (.slice A1_v67 n1_v67 c1_v67) := HX405.out.cell 1
        have fc425 : w380.cell? ⟨w120.heap.size, 0, none⟩ = some (.slice A0_g0_w120 n0_g0_w120 c0_g0_w120) := HX406.out.cell 0
        have fc426 : w380.cell? ⟨w120.heap.size, 1, none⟩ = some (.slice A1_g0_w120 n1_g0_w120 c1_g0_w120) := HX406.out.cell 1
        have fc427 : w380.cell? ⟨B356, 0, none⟩ = some (.slice A0_vr355 n0_vr355 c0_vr355) := HX407.out.cell 0
        have fc428 : w380.cell? ⟨B356, 1, none⟩ = some (.slice A1_vr355 n1_vr355 c1_vr355) := HX407.out.cell 1
        go_wp2_with fail
        refine (L_heldMarked _ _ (R_MarkedAdd_0 d_aX d_aY) 1 _ _ HO399.out.rd (by omega) hs293 (Lib.hid rfl) (by omega) (by omega)).mono ?_
        rintro e w409 ⟨K410, rfl, hk411, h0_412, h1_413, hx414⟩
        have z429 : w380.heap.size ≤ w409.heap.size := hx414.size
        have HS430 := Lib.hid hx414
        clear hx414
        have HE431 : Hid (K410 = K295) := Lib.hid (by rw [hk411.out, hk296.out])
        have hne432 : (K410 != K295) = false := by rw [HE431.out]; simp
        clear fc415 fc416 fc417 fc418 fc419 fc420 fc421 fc422 fc423 fc424 fc425 fc426 fc427 fc428
        have HO433 := Lib.hid (HO398.out.below HS430.out (by omega))
        clear HO398
        have HO434 := Lib.hid (HO399.out.below HS430.out (by omega))
        clear HO399
        have HO435 := Lib.hid (HO400.out.below HS430.out (by omega))
        clear HO400
        have HX436 := Lib.hid (HX401.out.below HS430.out HX401.out.lt)
        clear HX401
        have HX437 := Lib.hid (HX402.out.below HS430.out HX402.out.lt)
        clear HX402
        have HX438 := Lib.hid (HX403.out.below HS430.out HX403.out.lt)
        clear HX403
        have HX439 := Lib.hid (HX404.out.below HS430.out HX404.out.lt)
        clear HX404
        have HX440 := Lib.hid (HX405.out.below HS430.out HX405.out.lt)
        clear HX405
        have HX441 := Lib.hid (HX406.out.below HS430.out HX406.out.lt)
        clear HX406
        have HX442 := Lib.hid (HX407.out.below HS430.out HX407.out.lt)
        clear HX407
        have HB443 : Hid (Below w.heap.size w w409) := Lib.hid (HB408.out.trans (HS430.out.mono (by omega)))
        clear HB408
        clear HS430
        go_wp2
        go_ret
        exact ⟨rfl, HB443.out⟩

set_option maxRecDepth 100000 in
theorem lifted (os : Os) (started : os.Started) (H : Type) (enc : TypeId × Value → H) :
    ReturnsInHanded {} Try.checked os 9 .any (Rows.fnExactMarkedAddSpec.pre6 enc Try.prog Try.f9 Rows.fnExactMarkedAddRow.domain false) (Rows.fnExactMarkedAddSpec.post enc Try.prog Try.f9 false true false false) := by
  refine returnsInHanded_of_change (C := Try.checked) own started (by kernel_rfl) Try.func9
    (ChangeSpec.witness6 (enc := enc) (C := Try.checked) false ⟨#[], #[.agg #[.slice none 0 0, .slice none 0 0], .agg #[.slice none 0 0, .slice none 0 0]], []⟩ 8 (by kernel_rfl) (by kernel_rfl) (by kernel_rfl) (by kernel_rfl)) ?_
  intro W base args ds gs before hval0 hW hcnd _
  have hval : ∀ (j : Nat) t v, Try.f9.params[j]? = some t → args[j]? = some v → Value.okWide Try.prog W .any base t v := hval0
  have hW' := hW
  obtain ⟨p, q, hA0, hV, rfl, hfz, hnd⟩ := hW
  have hA : DataW.TrodAll enc Try.prog W 0 (fun _ => true) true Try.f9.params.toList args.toList ds p := hA0
  rw [Try.params9] at hA hval
  obtain ⟨v0, vs0, dd0, ds0, p0, q0, hargs, rfl, rfl, h0, r0⟩ := trodAll_cons hA
  obtain ⟨v1, vs1, dd1, ds1, p1, q1, rfl, rfl, rfl, h1, r1⟩ := trodAll_cons r0
  obtain ⟨rfl, rfl, rfl⟩ := trodAll_nil r1
  obtain rfl : args = #[v0, v1] := by cases args; simp_all
  obtain ⟨rfl, rfl⟩ := trodVars_none hV
  obtain ⟨u0_aX, u1_aX, y0_aX, y1_aX, fz_aX, rfl, rfl, rfl, g0_aX, g1_aX⟩ := Go.Joins.open_agg2 Try.underlying65 (by kernel_rfl) (by kernel_rfl) (hval 0 65 v0 rfl rfl) h0
  obtain ⟨A0_aX, n0_aX, c0_aX, d0_aX, rfl, h0_aX⟩ := field_IntS Try.underlying24 Try.underlying3 (by kernel_rfl) g0_aX
  obtain ⟨A1_aX, n1_aX, c1_aX, d1_aX, rfl, h1_aX⟩ := field_IntS Try.underlying24 Try.underlying3 (by kernel_rfl) g1_aX
  obtain ⟨u0_aY, u1_aY, y0_aY, y1_aY, fz_aY, rfl, rfl, rfl, g0_aY, g1_aY⟩ := Go.Joins.open_agg2 Try.underlying65 (by kernel_rfl) (by kernel_rfl) (hval 1 65 v1 rfl rfl) h1
  obtain ⟨A0_aY, n0_aY, c0_aY, d0_aY, rfl, h0_aY⟩ := field_IntS Try.underlying24 Try.underlying3 (by kernel_rfl) g0_aY
  obtain ⟨A1_aY, n1_aY, c1_aY, d1_aY, rfl, h1_aY⟩ := field_IntS Try.underlying24 Try.underlying3 (by kernel_rfl) g1_aY
  refine (walk A0_aX n0_aX c0_aX A1_aX n1_aX c1_aX d0_aX d1_aX A0_aY n0_aY c0_aY A1_aY n1_aY c1_aY d0_aY d1_aY W h0_aX h1_aX h0_aY h1_aY).mono fun e W' ⟨he, hb⟩ => ?_
  subst he
  exact ⟨_, rfl, post_law rfl rfl Try.underlying4 (by kernel_rfl) (by kernel_rfl) hW' rfl hb⟩

theorem closed : joinedFacts Try.prog 9 Try.f9 Rows.fnExactMarkedAddSpec Rows.fnExactMarkedAddRow = true := joined_of (by kernel_rfl)
theorem over : Rows.fnExactMarkedAddRow.holds Try.pinned (OpenSpec.ofChange Rows.fnExactMarkedAddSpec) :=
  OpenClaim.holds_of_wide 9 Try.f9 rfl rfl rfl rfl rfl rfl rfl ⟨rfl, rfl, rfl, rfl, rfl⟩ rfl rfl rfl rfl rfl (by kernel_rfl) Try.func9 closed
    (of_decide_eq_true (by kernel_rfl)) (by unfold Func.isWrapper; first | (rw [if_pos (by decide +kernel)]; kernel_rfl) | (rw [if_neg (by decide +kernel)]; exact ⟨rfl, rfl⟩))
    (fun os started H enc _ => lifted os started H enc)
/-- the statement -/
theorem proved : Rows.FnExactMarkedAddSaid :=
  over
end Go.Proofs.Ytipdflbnnmghdaa.fnExactMarkedAdd
