/- Chapter 16: LinkGood of the model. Made by tools/gen15/j.py. -/
import Derived.Test.YtdhakbpimbadgaaWalk16i
import Derived.Test.YtdhakbpimbadgaaWalk16g
import Derived.Test.YtdhakbpimbadgaaWalk15f
namespace Go.Proofs.Ytdhakbpimbadgaa
open Go.RowKit
set_option maxRecDepth 100000

set_option maxHeartbeats 8000000 in
theorem s_l16Link (tag : Int) (A1 : Option Addr) (n1 c1 : Nat) (msg : List Int) (A : Option Addr) (n c : Nat) (ks : List Int) (A2 : Option Addr) (n2 c2 : Nat) (l : List Tw) (w : World) (h : Rd w w.heap.size 1 A n (cI ks)) (h1 : Rd w w.heap.size 1 A1 n1 (cI msg)) (h2 : Rd w w.heap.size 4 A2 n2 (cTwin l)) (hn : n ≤ 1048576) (hn1 : n1 ≤ 1048576) (hn2 : n2 ≤ 1048576) (hmix : mixB (msg ++ ks ++ [tag] ++ comsT l) = true) :
    Calls Try.prog 58 #[.slice A1 n1 c1, .slice A n c, .int .i64 tag, .slice A2 n2 c2] w fun e w' => e = .returned (.int .i64 (lchal ks msg tag l)) ∧ Below w.heap.size w w' := by
  have H := Lib.hid h
  have H1 := Lib.hid h1
  have H2 := Lib.hid h2
  have HL2 := Lib.hid h2.Twinlen
  have HMX := Lib.hid hmix
  clear h h1 h2 hmix
  obtain ⟨W0, hW0⟩ : ∃ W, Hid (w.alloc (.cells #[] 3) = W) := ⟨_, Lib.hid rfl⟩
  have HB0 : Hid (Below w.heap.size w W0) := Lib.hid (by rw [← hW0.out]; exact (Below.refl _ _).alloc (Nat.le_refl _) _)
  have HO0 : Hid (W0.ownsRow w.heap.size 3 1 (.slice (some ⟨w.heap.size, 0, none⟩) 0 0) 0 (cI [])) := Lib.hid (by rw [← hW0.out]; exact own_empty w 3 1)
  have z0 := HB0.out.size
  go_enter Try.func58, Try.ntmps58
  go_wp2_with (first
    | (at_builtin
       rw [hW0.out]
       refine wpList_append_rd2 rfl (.tmp 11) (.tmp 12) 22 22 3 rfl w.heap.size 3 _ 1 8 Try.underlying22 Try.underlying22 info_int rfl (by decide) _ 0 (cI []) rfl HO0.out w.heap.size _ n1 _ (cI msg) rfl (H1.out.below HB0.out) (cI_one _) (by unfold maxLen; omega) (by omega) z0 ?_
       intro v5 w5 hown hgr hat
       have HO5 : Hid (w5.ownsRow w.heap.size 3 1 v5 n1 (cI msg)) := Lib.hid (by rw [← cI_app, List.nil_append, Nat.zero_add] at hown; exact hown)
       have HB5 : Hid (Below w.heap.size w w5) := Lib.hid (below_grown HB0.out hgr (fun g e => own_ge HO0.out e) z0)
       have z5 := HB5.out.size
       clear hown hgr hat HO0 HB0 hW0)
    | (at_builtin
       refine wpList_append_rd2 rfl (.tmp 13) (.tmp 14) 22 22 3 rfl w.heap.size 3 _ 1 8 Try.underlying22 Try.underlying22 info_int rfl (by decide) v5 n1 (cI msg) rfl HO5.out w.heap.size _ n _ (cI ks) rfl (H.out.below HB5.out) (cI_one _) (by unfold maxLen; omega) (by omega) z5 ?_
       intro v6 w6 hown hgr hat
       obtain ⟨W7, hW7⟩ : ∃ W, Hid (w6.alloc (.cells #[.int .i64 tag] 3) = W) := ⟨_, Lib.hid rfl⟩
       have hb6 : Below w.heap.size w w6 := below_grown HB5.out hgr (fun g e => own_ge HO5.out e) z5
       have hb7 : Below w6.heap.size w6 W7 := by rw [← hW7.out]; exact (Below.refl _ _).alloc (Nat.le_refl _) _
       have HO6 : Hid (W7.ownsRow w.heap.size 3 1 v6 (n1 + n) (cI (msg ++ ks))) := Lib.hid (by rw [← cI_app] at hown; exact ownsRow_below hown hb7)
       have HB6 : Hid (Below w.heap.size w W7) := Lib.hid (hb6.trans (hb7.mono hb6.size))
       have HR6 : Hid (Rd W7 W7.heap.size 1 (some ⟨w6.heap.size, 0, none⟩) 1 (cI [tag])) := Lib.hid (by rw [← hW7.out]; exact (Bx.new w6 #[.int .i64 tag] 3).rdI (zs := [tag]) rfl)
       have z6 := HB6.out.size
       clear hown hgr hat HO5 HB5 z5 hb6 hb7)
    | (at_builtin
       rw [hW7.out]
       refine wpList_append_rd2 rfl (.tmp 15) (.tmp 17) 22 22 3 rfl w.heap.size 3 _ 1 8 Try.underlying22 Try.underlying22 info_int rfl (by decide) v6 (n1 + n) (cI (msg ++ ks)) rfl HO6.out W7.heap.size _ 1 _ (cI [tag]) rfl HR6.out (cI_one _) (by unfold maxLen; omega) (by omega) z6 ?_
       intro v8 w8 hown hgr hat
       have HO8 : Hid (w8.ownsRow w.heap.size 3 1 v8 (n1 + n + 1 + 2 * 0) (cI (msg ++ ks ++ [tag] ++ comsT (l.take 0)))) := Lib.hid (by rw [← cI_app] at hown; simpa [comsT] using hown)
       have HB8 : Hid (Below w.heap.size w w8) := Lib.hid (below_grown HB6.out hgr (fun g e => own_ge HO6.out e) z6)
       clear hown hgr hat HO6 HB6 z6 HR6 hW7))
  clear z0
  go_loopw [9, 10] (fun t j wr => ∃ (k : Nat) (tv : Value), k ≤ n2 ∧ tv = t ∧ j = .int .i64 k ∧ Hid (wr.ownsRow w.heap.size 3 1 tv (n1 + n + 1 + 2 * k) (cI (msg ++ ks ++ [tag] ++ comsT (l.take k)))) ∧ Hid (Below w.heap.size w wr)) (fun _ j _ => n2 - (intOf j).toNat)
  case atStart => exact ⟨0, _, Nat.zero_le _, rfl, rfl, HO8, HB8⟩
  case round =>
    clear HO8 HB8
    obtain ⟨k, tv, hkn, rfl, rfl, HW, HB⟩ := hrel
    by_cases hlt : k < n2
    · obtain ⟨a, x, y, z, u, rfl, hab, hcx0, hcy0, hcz0, hcu0, HP⟩ := H2.out.TwinAt hlt
      have hba : (a.add (k * 4)).block < w.heap.size := by rw [add_block]; exact hab
      have hcx := (HB.out.cell (p := a.add (k * 4)) hba).trans hcx0
      have hcy := (HB.out.cell (p := ⟨(a.add (k * 4)).block, (a.add (k * 4)).off + 1, none⟩) hba).trans hcy0
      have HCX := Lib.hid hcx0
      have HCY := Lib.hid hcy0
      clear hcx0 hcy0 hcz0 hcu0
      have j0 : (0 : Int) ≤ (k : Int) := by omega
      have j1 : (k : Int) < (n2 : Int) := by omega
      have HS : Hid (comsT (l.take (k + 1)) = comsT (l.take k) ++ [x, y]) := Lib.hid (comsT_take l k (by have := HL2.out; omega) HP.out)
      clear HP
      go_wp2
      refine wp_region_held_drew (S := fun w' => w'.cell? (a.add (k * 4)) = some (.int .i64 x) ∧ w'.cell? ⟨(a.add (k * 4)).block, (a.add (k * 4)).off + 1, none⟩ = some (.int .i64 y)) (by kernel_rfl) ⟨(HB.out.cell (p := (a.add (k * 4))) hba).trans HCX.out, (HB.out.cell (p := ⟨(a.add (k * 4)).block, (a.add (k * 4)).off + 1, none⟩) hba).trans HCY.out⟩ (fun hHeld => ?_)
      obtain ⟨u0, hu0⟩ : ∃ u0, Hid (wr.drew = u0) := ⟨_, Lib.hid rfl⟩
      rw [hu0.out] at hHeld ⊢
      have zs0 : wr.heap.size = u0.heap.size := by rw [← hu0.out]; rfl
      replace zs0 := Nat.le_of_eq zs0
      have HBl0 : Hid (Below w.heap.size w u0) := Lib.hid (by rw [← hu0.out]; exact HB.out.drew)
      have HW0 : Hid (u0.ownsRow w.heap.size 3 1 tv (n1 + n + 1 + 2 * k) (cI (msg ++ ks ++ [tag] ++ comsT (l.take k)))) := Lib.hid (by rw [← hu0.out]; exact HW.out)
      clear hu0
      refine wpAnyH_take (i := 0) (oi := { dst := some 25, op := Op.move (Operand.tmp 9), type := 22, pos := "l16_rings.go:57", after := #[], guard := none }) (v := ?_) rfl (by kernel_rfl) (by kernel_rfl) (by kernel_rfl) (fun _ _ _ h => h) (Or.inl ⟨by rfl, ?_⟩) hHeld ?_
      rotate_left
      · intro w hSw; obtain ⟨s0, s1⟩ := hSw; (try dsimp only at hSw); go_simp; (try with_reducible rfl)
      try simp only [Act.put, List.setIfInBounds_toArray, List.set_cons_zero, List.set_cons_succ]
      refine wpAnyH_take (i := 1) (oi := { dst := some 26, op := Op.move (Operand.tmp 3), type := 34, pos := "l16_rings.go:57", after := #[], guard := none }) (v := ?_) rfl (by kernel_rfl) (by kernel_rfl) (by kernel_rfl) (fun _ _ _ h => h) (Or.inl ⟨by rfl, ?_⟩) hHeld ?_
      rotate_left
      · intro w hSw; obtain ⟨s0, s1⟩ := hSw; (try dsimp only at hSw); go_simp; (try with_reducible rfl)
      try simp only [Act.put, List.setIfInBounds_toArray, List.set_cons_zero, List.set_cons_succ]
      refine wpAnyH_take (i := 2) (oi := { dst := some 27, op := Op.move (Operand.tmp 10), type := 3, pos := "l16_rings.go:57", after := #[], guard := none }) (v := ?_) rfl (by kernel_rfl) (by kernel_rfl) (by kernel_rfl) (fun _ _ _ h => h) (Or.inl ⟨by rfl, ?_⟩) hHeld ?_
      rotate_left
      · intro w hSw; obtain ⟨s0, s1⟩ := hSw; (try dsimp only at hSw); go_simp; (try with_reducible rfl)
      try simp only [Act.put, List.setIfInBounds_toArray, List.set_cons_zero, List.set_cons_succ]
      refine wpAnyH_take (i := 3) (oi := { dst := some 28, op := Op.indexAddr 34 (Operand.tmp 26) (Operand.tmp 27), type := 0, pos := "l16_rings.go:57", after := #[{ on := 1, ground := Ground.data }, { on := 2, ground := Ground.data }], guard := none }) (v := ?_) rfl (by kernel_rfl) (by kernel_rfl) (by kernel_rfl) (fun _ _ _ h => h) (Or.inl ⟨by rfl, ?_⟩) hHeld ?_
      rotate_left
      · intro w hSw; obtain ⟨s0, s1⟩ := hSw; (try dsimp only at hSw); go_simp; (try with_reducible rfl)
      try simp only [Act.put, List.setIfInBounds_toArray, List.set_cons_zero, List.set_cons_succ]
      refine wpAnyH_take (i := 4) (oi := { dst := some 29, op := Op.fieldAddr 76 (Operand.tmp 28) 0, type := 0, pos := "l16_rings.go:57", after := #[{ on := 3, ground := Ground.data }], guard := none }) (v := ?_) rfl (by kernel_rfl) (by kernel_rfl) (by kernel_rfl) (fun _ _ _ h => h) (Or.inl ⟨by rfl, ?_⟩) hHeld ?_
      rotate_left
      · intro w hSw; obtain ⟨s0, s1⟩ := hSw; (try dsimp only at hSw); go_simp; (try with_reducible rfl)
      try simp only [Act.put, List.setIfInBounds_toArray, List.set_cons_zero, List.set_cons_succ]
      refine wpAnyH_take (i := 5) (oi := { dst := some 30, op := Op.load 3 (Operand.tmp 29), type := 3, pos := "l16_rings.go:57", after := #[{ on := 4, ground := Ground.data }], guard := none }) (v := ?_) rfl (by kernel_rfl) (by kernel_rfl) (by kernel_rfl) (fun _ _ _ h => h) (Or.inl ⟨by rfl, ?_⟩) hHeld ?_
      rotate_left
      · intro w hSw; obtain ⟨s0, s1⟩ := hSw; (try dsimp only at hSw); go_simp; (try with_reducible rfl)
      try simp only [Act.put, List.setIfInBounds_toArray, List.set_cons_zero, List.set_cons_succ]
      refine wpAnyH_take (i := 6) (oi := { dst := some 31, op := Op.move (Operand.tmp 3), type := 34, pos := "l16_rings.go:57", after := #[], guard := none }) (v := ?_) rfl (by kernel_rfl) (by kernel_rfl) (by kernel_rfl) (fun _ _ _ h => h) (Or.inl ⟨by rfl, ?_⟩) hHeld ?_
      rotate_left
      · intro w hSw; obtain ⟨s0, s1⟩ := hSw; (try dsimp only at hSw); go_simp; (try with_reducible rfl)
      try simp only [Act.put, List.setIfInBounds_toArray, List.set_cons_zero, List.set_cons_succ]
      refine wpAnyH_take (i := 7) (oi := { dst := some 32, op := Op.move (Operand.tmp 10), type := 3, pos := "l16_rings.go:57", after := #[], guard := none }) (v := ?_) rfl (by kernel_rfl) (by kernel_rfl) (by kernel_rfl) (fun _ _ _ h => h) (Or.inl ⟨by rfl, ?_⟩) hHeld ?_
      rotate_left
      · intro w hSw; obtain ⟨s0, s1⟩ := hSw; (try dsimp only at hSw); go_simp; (try with_reducible rfl)
      try simp only [Act.put, List.setIfInBounds_toArray, List.set_cons_zero, List.set_cons_succ]
      refine wpAnyH_take (i := 8) (oi := { dst := some 33, op := Op.indexAddr 34 (Operand.tmp 31) (Operand.tmp 32), type := 0, pos := "l16_rings.go:57", after := #[{ on := 6, ground := Ground.data }, { on := 7, ground := Ground.data }], guard := none }) (v := ?_) rfl (by kernel_rfl) (by kernel_rfl) (by kernel_rfl) (fun _ _ _ h => h) (Or.inl ⟨by rfl, ?_⟩) hHeld ?_
      rotate_left
      · intro w hSw; obtain ⟨s0, s1⟩ := hSw; (try dsimp only at hSw); go_simp; (try with_reducible rfl)
      try simp only [Act.put, List.setIfInBounds_toArray, List.set_cons_zero, List.set_cons_succ]
      refine wpAnyH_take (i := 9) (oi := { dst := some 34, op := Op.fieldAddr 76 (Operand.tmp 33) 1, type := 0, pos := "l16_rings.go:57", after := #[{ on := 8, ground := Ground.data }], guard := none }) (v := ?_) rfl (by kernel_rfl) (by kernel_rfl) (by kernel_rfl) (fun _ _ _ h => h) (Or.inl ⟨by rfl, ?_⟩) hHeld ?_
      rotate_left
      · intro w hSw; obtain ⟨s0, s1⟩ := hSw; (try dsimp only at hSw); go_simp; (try with_reducible rfl)
      try simp only [Act.put, List.setIfInBounds_toArray, List.set_cons_zero, List.set_cons_succ]
      refine wpAnyH_take (i := 10) (oi := { dst := some 35, op := Op.load 3 (Operand.tmp 34), type := 3, pos := "l16_rings.go:57", after := #[{ on := 9, ground := Ground.data }], guard := none }) (v := ?_) rfl (by kernel_rfl) (by kernel_rfl) (by kernel_rfl) (fun _ _ _ h => h) (Or.inl ⟨by rfl, ?_⟩) hHeld ?_
      rotate_left
      · intro w hSw; obtain ⟨s0, s1⟩ := hSw; (try dsimp only at hSw); go_simp; (try with_reducible rfl)
      try simp only [Act.put, List.setIfInBounds_toArray, List.set_cons_zero, List.set_cons_succ]
      refine wpAnyH_ready (rs := [11]) (by kernel_rfl) (by simp) ?_
      refine AllReadyH.cons (o := { dst := some 36, op := Op.buildSlice 22 2 #[(0, Operand.tmp 30), (1, Operand.tmp 35)], type := 22, pos := "l16_rings.go:57", after := #[{ on := 5, ground := Ground.data }, { on := 10, ground := Ground.data }], guard := none }) rfl (fun K hK => ?_) ?_
      · go_simp
        obtain ⟨u1, hw1⟩ : ∃ W, Hid (u0.alloc (.cells #[.int .i64 x, .int .i64 y] 3) = W) := ⟨_, Lib.hid rfl⟩
        rw [hw1.out]
        have zs1 : u0.heap.size < u1.heap.size := by rw [← hw1.out, World.size_alloc]; omega
        have HBl1 : Hid (Below w.heap.size w u1) := Lib.hid (by rw [← hw1.out]; exact HBl0.out.alloc HBl0.out.size _)
        have HX_lit1 : Hid (Bx u1 u0.heap.size #[.int .i64 x, .int .i64 y] 3) := Lib.hid (by rw [← hw1.out]; exact Bx.new _ _ _)
        have hab1 : Below u0.heap.size u0 u1 := by rw [← hw1.out]; exact (Below.refl _ _).alloc (Nat.le_refl _) _
        have HW1 : Hid (u1.ownsRow w.heap.size 3 1 tv (n1 + n + 1 + 2 * k) (cI (msg ++ ks ++ [tag] ++ comsT (l.take k)))) := Lib.hid (ownsRow_below HW0.out hab1)
        clear hHeld hw1 hab1 HBl0 HW0
        refine hK.out _ _ ⟨((HBl1.out.cell (p := (a.add (k * 4))) hba).trans HCX.out), ((HBl1.out.cell (p := ⟨(a.add (k * 4)).block, (a.add (k * 4)).off + 1, none⟩) hba).trans HCY.out)⟩ (fun hHeld => ?_)
        clear hK K
        try simp only [Act.put, List.setIfInBounds_toArray, List.set_cons_zero, List.set_cons_succ]
        refine wpAnyH_ready (rs := [12]) (by kernel_rfl) (by simp) ?_
        refine AllReadyH.cons (o := { dst := some 37, op := Op.call { callee := Callee.builtin Builtin.append, args := #[Operand.tmp 25, Operand.tmp 36], argTypes := #[22, 22] }, type := 22, pos := "l16_rings.go:57", after := #[{ on := 0, ground := Ground.data }, { on := 11, ground := Ground.data }], guard := none }) rfl (fun K hK => ?_) ?_
        · refine step_append_rd rfl (.tmp 25) (.tmp 36) _ rfl w.heap.size 3 _ 1 8 Try.underlying22 info_int rfl (by decide) tv (n1 + n + 1 + 2 * k) (cI (msg ++ ks ++ [tag] ++ comsT (l.take k))) rfl HW1.out _ _ 2 2 (cI [x, y]) rfl (HX_lit1.out.rdI rfl) (cI_one _) (by unfold maxLen; omega) (by omega) HBl1.out.size ?_
          intro v5 u2 hown hgr hat
          have zs2 : u1.heap.size ≤ u2.heap.size := hgr.size
          have HBl2 : Hid (Below w.heap.size w u2) := Lib.hid (below_grown HBl1.out hgr (fun g e => by have := own_ge HW1.out e; omega) HBl1.out.size)
          have HW2 : Hid (u2.ownsRow w.heap.size 3 1 v5 (n1 + n + 1 + 2 * (k + 1)) (cI (msg ++ ks ++ [tag] ++ comsT (l.take (k + 1))))) := Lib.hid (by rw [HS.out, ← List.append_assoc, cI_app (msg ++ ks ++ [tag] ++ comsT (l.take k)), show n1 + n + 1 + 2 * (k + 1) = n1 + n + 1 + 2 * k + 2 by omega]; exact hown)
          clear hHeld hown hgr hat HBl1 HX_lit1 HW1
          refine hK.out _ _ ⟨((HBl2.out.cell (p := (a.add (k * 4))) hba).trans HCX.out), ((HBl2.out.cell (p := ⟨(a.add (k * 4)).block, (a.add (k * 4)).off + 1, none⟩) hba).trans HCY.out)⟩ (fun hHeld => ?_)
          clear hK K
          try simp only [Act.put, List.setIfInBounds_toArray, List.set_cons_zero, List.set_cons_succ]
          refine wpAnyH_take (i := 13) (oi := { dst := some 9, op := Op.assign (Operand.tmp 37), type := 22, pos := "l16_rings.go:57", after := #[{ on := 12, ground := Ground.data }, { on := 12, ground := Ground.chain }, { on := 0, ground := Ground.phase }, { on := 1, ground := Ground.phase }, { on := 2, ground := Ground.phase }, { on := 3, ground := Ground.phase }, { on := 4, ground := Ground.phase }, { on := 5, ground := Ground.phase }, { on := 6, ground := Ground.phase }, { on := 7, ground := Ground.phase }, { on := 8, ground := Ground.phase }, { on := 9, ground := Ground.phase }, { on := 10, ground := Ground.phase }, { on := 11, ground := Ground.phase }, { on := 12, ground := Ground.phase }], guard := none }) (v := ?_) rfl (by kernel_rfl) (by kernel_rfl) (by kernel_rfl) (fun _ _ _ h => h) (Or.inl ⟨by rfl, ?_⟩) hHeld ?_
          rotate_left
          · intro w hSw; obtain ⟨s0, s1⟩ := hSw; (try dsimp only at hSw); go_simp; (try with_reducible rfl)
          try simp only [Act.put, List.setIfInBounds_toArray, List.set_cons_zero, List.set_cons_succ]
          refine wpAnyH_done (by kernel_rfl) ?_ _
          go_wp2
          go_roundw
          case rel => exact ⟨k + 1, v5, by omega, rfl, by go_num, HW2, HBl2⟩
          case measure => simp [intOf] <;> omega
        exact AllReadyH.nil
      exact AllReadyH.nil
    · have hkn2 : k = n2 := by omega
      have HO2 : Hid (wr.ownsRow w.heap.size 3 1 tv (n1 + n + 1 + 2 * n2) (cI (msg ++ ks ++ [tag] ++ comsT l))) := Lib.hid (by
        have := HW.out; rw [hkn2, List.take_of_length_le (by have := HL2.out; omega)] at this; exact this)
      clear HW hkn2
      obtain ⟨At, ct, htv, hot⟩ := Ow.of_own HO2.out
      subst htv
      have hr := s_l16Mix _ _ ct _ _ wr hot.rd (by omega) HMX.out
      rw [show mixL (msg ++ ks ++ [tag] ++ comsT l) % 113 = lchal ks msg tag l from rfl] at hr
      have HR := Lib.hid hr
      clear hot HO2 hr HMX
      go_wp2_with fail
      refine HR.out.mono ?_
      rintro e w' ⟨rfl, rfl⟩
      go_wp2
      go_ret
      exact ⟨rfl, HB.out⟩

end Go.Proofs.Ytdhakbpimbadgaa
