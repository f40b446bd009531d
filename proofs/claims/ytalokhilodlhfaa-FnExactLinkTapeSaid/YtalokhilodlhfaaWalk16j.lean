/- Chapter 16: LinkGood of the model. Made by tools/gen15/j.py. -/
import Derived.Test.YtalokhilodlhfaaWalk16i
import Derived.Test.YtalokhilodlhfaaWalk16g
import Derived.Test.YtalokhilodlhfaaWalk15f
namespace Go.Proofs.Ytalokhilodlhfaa
open Go.RowKit
set_option maxRecDepth 100000

set_option maxHeartbeats 8000000 in
theorem s_l16Link (tag : Int) (A1 : Option Addr) (n1 c1 : Nat) (msg : List Int) (A : Option Addr) (n c : Nat) (ks : List Int) (A2 : Option Addr) (n2 c2 : Nat) (l : List Tw) (w : World) (h : Rd w w.heap.size 1 A n (cI ks)) (h1 : Rd w w.heap.size 1 A1 n1 (cI msg)) (h2 : Rd w w.heap.size 4 A2 n2 (cTwin l)) (hn : n ≤ 1048576) (hn1 : n1 ≤ 1048576) (hn2 : n2 ≤ 1048576) (hmix : mixB (msg ++ ks ++ [tag] ++ comsT l) = true) :
    Calls Try.prog 84 #[.slice A1 n1 c1, .slice A n c, .int .i64 tag, .slice A2 n2 c2] w fun e w' => e = .returned (.int .i64 (lchal ks msg tag l)) ∧ Below w.heap.size w w' := by
  have H := Lib.hid h
  have H1 := Lib.hid h1
  have H2 := Lib.hid h2
  have HL2 := Lib.hid h2.Twinlen
  have HMX := Lib.hid hmix
  clear h h1 h2 hmix
  obtain ⟨W0, hW0⟩ : ∃ W, Hid (w.alloc (.cells #[] 3) = W) := ⟨_, Lib.hid rfl⟩
  have HB0 : Hid (Below w.heap.size w W0) := Lib.hid (by rw [← hW0.out]; exact (Below.refl _ _).alloc (Nat.le_refl _) _)
  have HO0 : Hid (W0.ownsRow w.heap.size 3 1 (.slice (some ⟨w.heap.size, 0, none⟩) 0 0) 0 (cI [])) := Lib.hid (by rw [← hW0.out]; exact own_empty w 3 1)
  have z0 := HB0.out.size
  go_enter Try.func84, Try.ntmps84
  go_wp2_with (first
    | (at_builtin
       rw [hW0.out]
       refine wpList_append_rd2 rfl (.tmp 11) (.tmp 12) 22 22 3 rfl w.heap.size 3 _ 1 8 Try.underlying22 Try.underlying22 info_int rfl (by decide) _ 0 (cI []) rfl HO0.out w.heap.size _ n1 _ (cI msg) rfl (H1.out.below HB0.out) (cI_one _) (by unfold maxLen; omega) (by omega) z0 ?_
       intro v5 w5 hown hgr hat
       have HO5 : Hid (w5.ownsRow w.heap.size 3 1 v5 n1 (cI msg)) := Lib.hid (by rw [← cI_app, List.nil_append, Nat.zero_add] at hown; exact hown)
       have HB5 : Hid (Below w.heap.size w w5) := Lib.hid (below_grown HB0.out hgr (fun g e => own_ge HO0.out e) z0)
       have z5 := HB5.out.size
       clear hown hgr hat HO0 HB0 hW0)
    | (at_builtin
       refine wpList_append_rd2 rfl (.tmp 13) (.tmp 14) 22 22 3 rfl w.heap.size 3 _ 1 8 Try.underlying22 Try.underlying22 info_int rfl (by decide) v5 n1 (cI msg) rfl HO5.out w.heap.size _ n _ (cI ks) rfl (H.out.below HB5.out) (cI_one _) (by unfold maxLen; omega) (by omega) z5 ?_
       intro v6 w6 hown hgr hat
       obtain ⟨W7, hW7⟩ : ∃ W, Hid (w6.alloc (.cells #[.int .i64 tag] 3) = W) := ⟨_, Lib.hid rfl⟩
       have hb6 : Below w.heap.size w w6 := below_grown HB5.out hgr (fun g e => own_ge HO5.out e) z5
       have hb7 : Below w6.heap.size w6 W7 := by rw [← hW7.out]; exact (Below.refl _ _).alloc (Nat.le_refl _) _
       have HO6 : Hid (W7.ownsRow w.heap.size 3 1 v6 (n1 + n) (cI (msg ++ ks))) := Lib.hid (by rw [← cI_app] at hown; exact ownsRow_below hown hb7)
       have HB6 : Hid (Below w.heap.size w W7) := Lib.hid (hb6.trans (hb7.mono hb6.size))
       have HR6 : Hid (Rd W7 W7.heap.size 1 (some ⟨w6.heap.size, 0, none⟩) 1 (cI [tag])) := Lib.hid (by rw [← hW7.out]; exact (Bx.new w6 #[.int .i64 tag] 3).rdI (zs := [tag]) rfl)
       have z6 := HB6.out.size
       clear hown hgr hat HO5 HB5 z5 hb6 hb7)
    | (at_builtin
       rw [hW7.out]
       refine wpList_append_rd2 rfl (.tmp 15) (.tmp 17) 22 22 3 rfl w.heap.size 3 _ 1 8 Try.underlying22 Try.underlying22 info_int rfl (by decide) v6 (n1 + n) (cI (msg ++ ks)) rfl HO6.out W7.heap.size _ 1 _ (cI [tag]) rfl HR6.out (cI_one _) (by unfold maxLen; omega) (by omega) z6 ?_
       intro v8 w8 hown hgr hat
       have HO8 : Hid (w8.ownsRow w.heap.size 3 1 v8 (n1 + n + 1 + 2 * 0) (cI (msg ++ ks ++ [tag] ++ comsT (l.take 0)))) := Lib.hid (by rw [← cI_app] at hown; simpa [comsT] using hown)
       have HB8 : Hid (Below w.heap.size w w8) := Lib.hid (below_grown HB6.out hgr (fun g e => own_ge HO6.out e) z6)
       clear hown hgr hat HO6 HB6 z6 HR6 hW7))
  clear z0
  go_loopw [9, 10] (fun t j wr => ∃ (k : Nat) (tv : Value), k ≤ n2 ∧ tv = t ∧ j = .int .i64 k ∧ Hid (wr.ownsRow w.heap.size 3 1 tv (n1 + n + 1 + 2 * k) (cI (msg ++ ks ++ [tag] ++ comsT (l.take k)))) ∧ Hid (Below w.heap.size w wr)) (fun _ j _ => n2 - (intOf j).toNat)
  case atStart => exact ⟨0, _, Nat.zero_le _, rfl, rfl, HO8, HB8⟩
  case round =>
    clear HO8 HB8
    obtain ⟨k, tv, hkn, rfl, rfl, HW, HB⟩ := hrel
    by_cases hlt : k < n2
    · obtain ⟨a, x, y, z, u, rfl, hab, hcx0, hcy0, hcz0, hcu0, HP⟩ := H2.out.TwinAt hlt
      have hba : (a.add (k * 4)).block < w.heap.size := by rw [add_block]; exact hab
      have hcx := (HB.out.cell (p := a.add (k * 4)) hba).trans hcx0
      have hcy := (HB.out.cell (p := ⟨(a.add (k * 4)).block, (a.add (k * 4)).off + 1, none⟩) hba).trans hcy0
      have HCX := Lib.hid hcx0
      have HCY := Lib.hid hcy0
      clear hcx0 hcy0 hcz0 hcu0
      have j0 : (0 : Int) ≤ (k : Int) := by omega
      have j1 : (k : Int) < (n2 : Int) := by omega
      have HS : Hid (comsT (l.take (k + 1)) = comsT (l.take k) ++ [x, y]) := Lib.hid (comsT_take l k (by have := HL2.out; omega) HP.out)
      clear HP
      go_wp2
      refine wp_region_held_drew (S := fun w' => w'.cell? (a.add (k * 4)) = some (.int .i64 x) ∧ w'.cell? ⟨(a.add (k * 4)).block, (a.add (k * 4)).off + 1, none⟩ = some (.int .i64 y)) (by kernel_rfl) ⟨(HB.out.cell (p := (a.add (k * 4))) hba).trans HCX.out, (HB.out.cell (p := ⟨(a.add (k * 4)).block, (a.add (k * 4)).off + 1, none⟩) hba).trans HCY.out⟩ (fun hHeld => ?_)
      obtain ⟨u0, hu0⟩ : ∃ u0, Hid (wr.drew = u0) := ⟨_, Lib.hid rfl⟩
      rw [hu0.out] at hHeld ⊢
      have zs0 : wr.heap.size = u0.heap.size := by rw [← hu0.out]; rfl
      replace zs0 := Nat.le_of_eq zs0
      have HBl0 : Hid (Below w.heap.size w u0) := Lib.hid (by rw [← hu0.out]; exact HB.out.drew)
      have HW0 : Hid (u0.ownsRow w.heap.size 3 1 tv (n1 + n + 1 + 2 * k) (cI (msg ++ ks ++ [tag] ++ comsT (l.take k)))) := Lib.hid (by rw [← hu0.out]; exact HW.out)
      clear hu0
      refine wpAnyH_take (i := 0) (oi := { dst := some 25, op := Op.move (Operand.tmp 9), type := 22, pos := "l16_rings.go:57", after := #[], guard := none }) (v := ?_) rfl (by kernel_rfl) (by kernel_rfl) (by kernel_rfl) (fun _ _ _ h => h) (Or.inl ⟨by rfl, ?_⟩) hHeld ?_
      rotate_left
      · intro w hSw; obtain ⟨s0, s1⟩ := hSw; (try dsimp only at hSw); go_simp; (try with_reducible rfl)
      try simp only [Act.put, List.setIfInBounds_toArray, List.set_cons_zero, List.set_cons_succ]
      refine wpAnyH_take (i := 1) (oi := { dst := some 26, op := Op.move (Operand.tmp 3), type := 47, pos := "l16_rings.go:57", after := #[], guard := none }) (v := ?_) rfl (by kernel_rfl) (by kernel_rfl) (by kernel_rfl) (fun _ _ _ h => h) (Or.inl ⟨by rfl, ?_⟩) hHeld ?_
      rotate_left
      · intro w hSw; obtain ⟨s0, s1⟩ := hSw; (try dsimp only at hSw); go_simp; (try with_reducible rfl)
      try simp only [Act.put, List.setIfInBounds_toArray, List.set_cons_zero, List.set_cons_succ]
      refine wpAnyH_take (i := 2) (oi := { dst := some 27, op := Op.move (Operand.tmp 10), type := 3, pos := "l16_rings.go:57", after := #[], guard := none }) (v := ?_) rfl (by kernel_rfl) (by kernel_rfl) (by kernel_rfl) (fun _ _ _ h => h) (Or.inl ⟨by rfl, ?_⟩) hHeld ?_
      rotate_left
      · intro w hSw; obtain ⟨s0, s1⟩ := hSw; (try dsimp only at hSw); go_simp; (try with_reducible rfl)
      try simp only [Act.put, List.setIfInBounds_toArray, List.set_cons_zero, List.set_cons_succ]
      refine wpAnyH_take (i := 3) (oi := { dst := some 28, op := Op.indexAddr 47 (Operand.tmp 26) (Operand.tmp 27), type := 0, pos := "l16_rings.go:57", after := #[{ on := 1, ground := Ground.data }, { on := 2, ground := Ground.data }], guard := none }) (v := ?_) rfl (by kernel_rfl) (by kernel_rfl) (by kernel_rfl) (fun _ _ _ h => h) (Or.inl ⟨by rfl, ?_⟩) hHeld ?_
      rotate_left
      · intro w hSw; obtain ⟨s0, s1⟩ := hSw; (try dsimp only at hSw); go_simp; (try with_reducible rfl)
      try simp only [Act.put, List.setIfInBounds_toArray, List.set_cons_zero, List.set_cons_succ]
      refine wpAnyH_take (i := 4) (oi := { dst := some 29, op := Op.fieldAddr 101 (Operand.tmp 28) 0, type := 0, pos := "l16_rings.go:57", after := #[{ on := 3, ground := Ground.data }], guard := none }) (v := ?_) rfl (by kernel_rfl) (by kernel_rfl) (by kernel_rfl) (fun _ _ _ h => h) (Or.inl ⟨by rfl, ?_⟩) hHeld ?_
      rotate_left
      · intro w hSw; obtain ⟨s0, s1⟩ := hSw; (try dsimp only at hSw); go_simp; (try with_reducible rfl)
      try simp only [Act.put, List.setIfInBounds_toArray, List.set_cons_zero, List.set_cons_succ]
      refine wpAnyH_take (i := 5) (oi := { dst := some 30, op := Op.load 3 (Operand.tmp 29), type := 3, pos := "l16_rings.go:57", after := #[{ on := 4, ground := Ground.data }], guard := none }) (v := ?_) rfl (by kernel_rfl) (by kernel_rfl) (by kernel_rfl) (fun _ _ _ h => h) (Or.inl ⟨by rfl, ?_⟩) hHeld ?_
      rotate_left
      · intro w hSw; obtain ⟨s0, s1⟩ := hSw; (try dsimp only at hSw); go_simp; (try with_reducible rfl)
      try simp only [Act.put, List.setIfInBounds_toArray, List.set_cons_zero, List.set_cons_succ]
      refine wpAnyH_take (i := 6) (oi := { dst := some 31, op := Op.move (Operand.tmp 3), type := 47, pos := "l16_rings.go:57", after := #[], guard := none }) (v := ?_) rfl (by kernel_rfl) (by kernel_rfl) (by kernel_rfl) (fun _ _ _ h => h) (Or.inl ⟨by rfl, ?_⟩) hHeld ?_
      rotate_left
      · intro w hSw; obtain ⟨s0, s1⟩ := hSw; (try dsimp only at hSw); go_simp; (try with_reducible rfl)
      try simp only [Act.put, List.setIfInBounds_toArray, List.set_cons_zero, List.set_cons_succ]
      refine wpAnyH_take (i := 7) (oi := { dst := some 32, op := Op.move (Operand.tmp 10), type := 3, pos := "l16_rings.go:57", after := #[], guard := none }) (v := ?_) rfl (by kernel_rfl) (by kernel_rfl) (by kernel_rfl) (fun _ _ _ h => h) (Or.inl ⟨by rfl, ?_⟩) hHeld ?_
      rotate_left
      · intro w hSw; obtain ⟨s0, s1⟩ := hSw; (try dsimp only at hSw); go_simp; (try with_reducible rfl)
      try simp only [Act.put, List.setIfInBounds_toArray, List.set_cons_zero, List.set_cons_succ]
      refine wpAnyH_take (i := 8) (oi := { dst := some 33, op := Op.indexAddr 47 (Operand.tmp 31) (Operand.tmp 32), type := 0, pos := "l16_rings.go:57", after := #[{ on := 6, ground := Ground.data }, { on := 7, ground := Ground.data }], guard := none }) (v := ?_) rfl (by kernel_rfl) (by kernel_rfl) (by kernel_rfl) (fun _ _ _ h => h) (Or.inl ⟨by rfl, ?_⟩) hHeld ?_
      rotate_left
      · intro w hSw; obtain ⟨s0, s1⟩ := hSw; (try dsimp only at hSw); go_simp; (try with_reducible rfl)
      try simp only [Act.put, List.setIfInBounds_toArray, List.set_cons_zero, List.set_cons_succ]
      refine wpAnyH_take (i := 9) (oi := { dst := some 34, op := Op.fieldAddr 101 (Operand.tmp 33) 1, type := 0, pos := "l16_rings.go:57", after := #[{ on := 8, ground := Ground.data }], guard := none }) (v := ?_) rfl (by kernel_rfl) (by kernel_rfl) (by kernel_rfl) (fun _ _ _ h => h) (Or.inl ⟨by rfl, ?_⟩) hHeld ?_
      rotate_left
      · intro w hSw; obtain ⟨s0, s1⟩ := hSw; (try dsimp only at hSw); go_simp; (try with_reducible rfl)
      try simp only [Act.put, List.setIfInBounds_toArray, List.set_cons_zero, List.set_cons_succ]
      refine wpAnyH_take (i := 10) (oi := { dst := some 35, op := Op.load 3 (Operand.tmp 34), type := 3, pos := "l16_rings.go:57", after := #[{ on := 9, ground := Ground.data }], guard := none }) (v := ?_) rfl (by kernel_rfl) (by kernel_rfl) (by kernel_rfl) (fun _ _ _ h => h) (Or.inl ⟨by rfl, ?_⟩) hHeld ?_
      rotate_left
      · intro w hSw; obtain ⟨s0, s1⟩ := hSw; (try dsimp only at hSw); go_simp; (try with_reducible rfl)
      try simp only [Act.put, List.setIfInBounds_toArray, List.set_cons_zero, List.set_cons_succ]
      refine wpAnyH_ready (rs := [11]) (by kernel_rfl) (by simp) ?_
      refine AllReadyH.cons (o := { dst := some 36, op := Op.buildSlice 22 2 #[(0, Operand.tmp 30), (1, Operand.tmp 35)], type := 22, pos := "l16_rings.go:57", after := #[{ on := 5, ground := Ground.data }, { on := 10, ground := Ground.data }], guard := none }) rfl (fun K hK => ?_) ?_
      · go_simp
        obtain ⟨u1, hw1⟩ : ∃ W, Hid (u0.alloc (.cells #[.int .i64 x, .int .i64 y] 3) = W) := ⟨_, Lib.hid rfl⟩
        rw [hw1.out]
        have zs1 : u0.heap.size < u1.heap.size := by rw [← hw1.out, World.size_alloc]; omega
        have HBl1 : Hid (Below w.heap.size w u1) := Lib.hid (by rw [← hw1.out]; exact HBl0.out.alloc HBl0.out.size _)
        have HX_lit1 : Hid (Bx u1 u0.heap.size #[.int .i64 x, .int .i64 y] 3) := Lib.hid (by rw [← hw1.out]; exact Bx.new _ _ _)
        have hab1 : Below u0.heap.size u0 u1 := by rw [← hw1.out]; exact (Below.refl _ _).alloc (Nat.le_refl _) _
        have HW1 : Hid (u1.ownsRow w.heap.size 3 1 tv (n1 + n + 1 + 2 * k) (cI (msg ++ ks ++ [tag] ++ comsT (l.take k)))) := Lib.hid (ownsRow_below HW0.out hab1)
        clear hHeld hw1 hab1 HBl0 HW0
        refine hK.out _ _ ⟨((HBl1.out.cell (p := (a.add (k * 4))) hba).trans HCX.out), ((HBl1.out.cell (p := ⟨(a.add (k * 4)).block, (a.add (k * 4)).off + 1, none⟩) hba).trans HCY.out)⟩ (fun hHeld => ?_)
        clear hK K
        try simp only [Act.put, List.setIfInBounds_toArray, List.set_cons_zero, List.set_cons_succ]
        refine wpAnyH_ready (rs := [12]) (by kernel_rfl) (by simp) ?_
        refine AllReadyH.cons (o := { dst := some 37, op := Op.call { callee := Callee.builtin Builtin.append, args := #[Operand.tmp 25, Operand.tmp 36], argTypes := #[22, 22] }, type := 22, pos := "l16_rings.go:57", after := #[{ on := 0, ground := Ground.data }, { on := 11, ground := Ground.data }], guard := none }) rfl (fun K hK => ?_) ?_
        · refine step_append_rd rfl (.tmp 25) (.tmp 36) _ rfl w.heap.size 3 _ 1 8 Try.underlying22 info_int rfl (by decide) tv (n1 + n + 1 + 2 * k) (cI (msg ++ ks ++ [tag] ++ comsT (l.take k))) rfl HW1.out _ _ 2 2 (cI [x, y]) rfl (HX_lit1.out.rdI rfl) (cI_one _) (by unfold maxLen; omega) (by omega) HBl1.out.size ?_
          intro v5 u2 hown hgr hat
          have zs2 : u1.heap.size ≤ u2.heap.size := hgr.size
          have HBl2 : Hid (Below w.heap.size w u2) := Lib.hid (below_grown HBl1.out hgr (fun g e => by have := own_ge HW1.out e; omega) HBl1.out.size)
          have HW2 : Hid (u2.ownsRow w.heap.size 3 1 v5 (n1 + n + 1 + 2 * (k + 1)) (cI (msg ++ ks ++ [tag] ++ comsT (l.take (k + 1))))) := Lib.hid (by rw [HS.out, ← List.append_assoc, cI_app (msg ++ ks ++ [tag] ++ comsT (l.take k)), show n1 + n + 1 + 2 * (k + 1) = n1 + n + 1 + 2 * k + 2 by omega]; exact hown)
          clear hHeld hown hgr hat HBl1 HX_lit1 HW1
          refine hK.out _ _ ⟨((HBl2.out.cell (p := (a.add (k * 4))) hba).trans HCX.out), ((HBl2.out.cell (p := ⟨(a.add (k * 4)).block, (a.add (k * 4)).off + 1, none⟩) hba).trans HCY.out)⟩ (fun hHeld => ?_)
          clear hK K
          try simp only [Act.put, List.setIfInBounds_toArray, List.set_cons_zero, List.set_cons_succ]
          refine wpAnyH_take (i := 13) (oi := { dst := some 9, op := Op.assign (Operand.tmp 37), type := 22, pos := "l16_rings.go:57", after := #[{ on := 12, ground := Ground.data }, { on := 12, ground := Ground.chain }, { on := 0, ground := Ground.phase }, { on := 1, ground := Ground.phase }, { on := 2, ground := Ground.phase }, { on := 3, ground := Ground.phase }, { on := 4, ground := Ground.phase }, { on := 5, ground := Ground.phase }, { on := 6, ground := Ground.phase }, { on := 7, ground := Ground.phase }, { on := 8, ground := Ground.phase }, { on := 9, ground := Ground.phase }, { on := 10, ground := Ground.phase }, { on := 11, ground := Ground.phase }, { on := 12, ground := Ground.phase }], guard := none }) (v := ?_) rfl (by kernel_rfl) (by kernel_rfl) (by kernel_rfl) (fun _ _ _ h => h) (Or.inl ⟨by rfl, ?_⟩) hHeld ?_
          rotate_left
          · intro w hSw; obtain ⟨s0, s1⟩ := hSw; (try dsimp only at hSw); go_simp; (try with_reducible rfl)
          try simp only [Act.put, List.setIfInBounds_toArray, List.set_cons_zero, List.set_cons_succ]
          refine wpAnyH_done (by kernel_rfl) ?_ _
          go_wp2
          go_roundw
          case rel => exact ⟨k + 1, v5, by omega, rfl, by go_num, HW2, HBl2⟩
          case measure => simp [intOf] <;> omega
        exact AllReadyH.nil
      exact AllReadyH.nil
    · have hkn2 : k = n2 := by omega
      have HO2 : Hid (wr.ownsRow w.heap.size 3 1 tv (n1 + n + 1 + 2 * n2) (cI (msg ++ ks ++ [tag] ++ comsT l))) := Lib.hid (by
        have := HW.out; rw [hkn2, List.take_of_length_le (by have := HL2.out; omega)] at this; exact this)
      clear HW hkn2
      obtain ⟨At, ct, htv, hot⟩ := Ow.of_own HO2.out
      subst htv
      have hr := s_l16Mix _ _ ct _ _ wr hot.rd (by omega) HMX.out
      rw [show mixL (msg ++ ks ++ [tag] ++ comsT l) % 113 = lchal ks msg tag l from rfl] at hr
      have HR := Lib.hid hr
      clear hot HO2 hr HMX
      go_wp2_with fail
      refine HR.out.mono ?_
      rintro e w' ⟨rfl, rfl⟩
      go_wp2
      go_ret
      exact ⟨rfl, HB.out⟩

set_option maxHeartbeats 8000000 in
theorem X_s_LinkGood (v v1 v2 : Value) (ks msg : List Int) (tag : Int) (l : List Tw) (w : World) (h : RdIntS w w.heap.size v ks) (h1 : RdIntS w w.heap.size v1 msg) (h2 : RdTwinS w w.heap.size v2 l) (hs : szIntS ks ≤ 1048576) (hs1 : szIntS msg ≤ 1048576) (hs2 : szTwinS l ≤ 1048576) :
    Calls Try.prog 41 #[v, v1, .int .i64 tag, v2] w fun e w' => e = .returned (.bool (lgoodB ks msg tag l)) ∧ Below w.heap.size w w' := by
  obtain ⟨A, n, c, rfl, _, h⟩ := h
  obtain ⟨A1, n1, c1, rfl, _, h1⟩ := h1
  obtain ⟨A2, n2, c2, rfl, _, h2⟩ := h2
  have HL := Lib.hid h.len
  have HL1 := Lib.hid h1.len
  have HL2 := Lib.hid h2.Twinlen
  have hn : n ≤ 1048576 := by have := HL.out; unfold szIntS at hs; omega
  have hn1 : n1 ≤ 1048576 := by have := HL1.out; unfold szIntS at hs1; omega
  have hn2 : n2 ≤ 1048576 := by have := HL2.out; unfold szTwinS at hs2; omega
  have H := Lib.hid h
  have H1 := Lib.hid h1
  have H2 := Lib.hid h2
  clear h h1 h2 hs hs1 hs2
  go_enter Try.func41, Try.ntmps41
  go_wp2_with fail
  refine (s_l15Keys _ _ _ _ w H.out hn).mono ?_
  rintro e w' ⟨rfl, rfl⟩
  cases hk : keysB ks
  · have HF : Hid (false = lgoodB ks msg tag l) := Lib.hid (by unfold lgoodB; rw [hk]; rfl)
    go_wp2
    go_ret
    exact ⟨ret_bool HF.out, Below.refl _ _⟩
  go_wp2_with fail
  refine (s_l16Message _ _ _ _ w H1.out hn1).mono ?_
  rintro e w' ⟨rfl, rfl⟩
  cases hm : msgB msg
  · have HF : Hid (false = lgoodB ks msg tag l) := Lib.hid (by unfold lgoodB; rw [hm]; simp)
    go_wp2
    go_ret
    exact ⟨ret_bool HF.out, Below.refl _ _⟩
  go_wp2_with fail
  refine (s_ElementOk tag w).mono ?_
  rintro e w' ⟨rfl, rfl⟩
  cases ht : elB tag
  · have HF : Hid (false = lgoodB ks msg tag l) := Lib.hid (by unfold lgoodB; rw [ht]; simp)
    go_wp2
    go_ret
    exact ⟨ret_bool HF.out, Below.refl _ _⟩
  have HKM := Lib.hid (And.intro hk (And.intro hm ht))
  clear hk hm ht
  by_cases hnn : n2 = n
  rotate_left
  · have e1 : ((n2 : Int) != (n : Int)) = true := by rw [bne_iff_ne]; omega
    have e2 : ¬ (n2 : Int) = (n : Int) := by omega
    have HF : Hid (false = lgoodB ks msg tag l) := Lib.hid (by unfold lgoodB; rw [HL.out, HL2.out]; simp [hnn])
    go_wp2
    go_ret
    exact ⟨ret_bool HF.out, Below.refl _ _⟩
  subst hnn
  go_wp2
  go_loopw [9, 10] (fun s i wr => ∃ (k : Nat) (S : Int), k ≤ n2 ∧ s = .int .i64 S ∧ i = .int .i64 k ∧ 0 ≤ S ∧ S ≤ 112 ∧ Hid (S = lchalK l k) ∧ Hid (lgoodsK ks tag l k = true) ∧ Hid (Below w.heap.size w wr)) (fun _ i _ => n2 - (intOf i).toNat)
  case atStart => exact ⟨0, 0, Nat.zero_le _, rfl, rfl, by omega, by omega, Lib.hid rfl, Lib.hid rfl, Lib.hid (Below.refl _ _)⟩
  case round =>
    obtain ⟨k, S, hkn, rfl, rfl, S0, S1, HS, HK, HB⟩ := hrel
    by_cases hlt : k < n2
    · obtain ⟨b, q, rfl, hbb, hcq0, HQ⟩ := H.out.intAt hlt
      obtain ⟨a, x, y, z, u, rfl, hab, hcx0, hcy0, hcz0, hcu0, HP⟩ := H2.out.TwinAt hlt
      have hba : (a.add (k * 4)).block < w.heap.size := by rw [add_block]; exact hab
      have hbq : (b.add k).block < w.heap.size := by rw [add_block]; exact hbb
      have hcq := (HB.out.cell (p := b.add k) hbq).trans hcq0
      have hcx := (HB.out.cell (p := a.add (k * 4)) hba).trans hcx0
      have hcy := (HB.out.cell (p := ⟨(a.add (k * 4)).block, (a.add (k * 4)).off + 1, none⟩) hba).trans hcy0
      have hcz := (HB.out.cell (p := ⟨(a.add (k * 4)).block, (a.add (k * 4)).off + 2, none⟩) hba).trans hcz0
      have hcu := (HB.out.cell (p := ⟨(a.add (k * 4)).block, (a.add (k * 4)).off + 3, none⟩) hba).trans hcu0
      have HCQ := Lib.hid hcq0
      have HCX := Lib.hid hcx0
      have HCY := Lib.hid hcy0
      have HCZ := Lib.hid hcz0
      have HCU := Lib.hid hcu0
      clear hcq0 hcx0 hcy0 hcz0 hcu0
      have j0 : (0 : Int) ≤ (k : Int) := by omega
      have j1 : (k : Int) < (n2 : Int) := by omega
      have HE : Hid (twGood (ks.getD k 0) tag (l.getD k (0, 0, 0, 0)) = twinB 4 9 q tag x y z u) := Lib.hid (by rw [← HQ.out, HP.out]; rfl)
      have HN : Hid (twinB 4 9 q tag x y z u = true → 0 ≤ z ∧ z ≤ 112) := Lib.hid fun h => (twGood_nums (by rw [HE.out, h] : twGood (ks.getD k 0) tag (l.getD k (0, 0, 0, 0)) = true)).2.2.1 |> fun h2 => by rw [HP.out] at h2; exact h2
      have HSS : Hid ((S + z) % 113 = lchalK l (k + 1)) := Lib.hid (by unfold lchalK; rw [HP.out, ← HS.out])
      clear HQ HP HS
      go_wp2
      refine wp_region_held_drew (S := fun w' => w'.cell? (b.add k) = some (.int .i64 q) ∧ w'.cell? (a.add (k * 4)) = some (.int .i64 x) ∧ w'.cell? ⟨(a.add (k * 4)).block, (a.add (k * 4)).off + 1, none⟩ = some (.int .i64 y) ∧ w'.cell? ⟨(a.add (k * 4)).block, (a.add (k * 4)).off + 2, none⟩ = some (.int .i64 z) ∧ w'.cell? ⟨(a.add (k * 4)).block, (a.add (k * 4)).off + 3, none⟩ = some (.int .i64 u)) (by kernel_rfl) ⟨(HB.out.cell (p := (b.add k)) hbq).trans HCQ.out, (HB.out.cell (p := (a.add (k * 4))) hba).trans HCX.out, (HB.out.cell (p := ⟨(a.add (k * 4)).block, (a.add (k * 4)).off + 1, none⟩) hba).trans HCY.out, (HB.out.cell (p := ⟨(a.add (k * 4)).block, (a.add (k * 4)).off + 2, none⟩) hba).trans HCZ.out, (HB.out.cell (p := ⟨(a.add (k * 4)).block, (a.add (k * 4)).off + 3, none⟩) hba).trans HCU.out⟩ (fun hHeld => ?_)
      obtain ⟨u0, hu0⟩ : ∃ u0, Hid (wr.drew = u0) := ⟨_, Lib.hid rfl⟩
      rw [hu0.out] at hHeld ⊢
      have zs0 : wr.heap.size = u0.heap.size := by rw [← hu0.out]; rfl
      replace zs0 := Nat.le_of_eq zs0
      have HBl0 : Hid (Below w.heap.size w u0) := Lib.hid (by rw [← hu0.out]; exact HB.out.drew)
      clear hu0
      refine wpAnyH_take (i := 1) (oi := { dst := some 38, op := Op.move (Operand.tmp 0), type := 22, pos := "l16_rings.go:95", after := #[], guard := none }) (v := ?_) rfl (by kernel_rfl) (by kernel_rfl) (by kernel_rfl) (fun _ _ _ h => h) (Or.inl ⟨by rfl, ?_⟩) hHeld ?_
      rotate_left
      · intro w hSw; obtain ⟨s0, s1, s2, s3, s4⟩ := hSw; (try dsimp only at hSw); go_simp; (try with_reducible rfl)
      try simp only [Act.put, List.setIfInBounds_toArray, List.set_cons_zero, List.set_cons_succ]
      refine wpAnyH_take (i := 2) (oi := { dst := some 39, op := Op.move (Operand.tmp 10), type := 3, pos := "l16_rings.go:95", after := #[], guard := none }) (v := ?_) rfl (by kernel_rfl) (by kernel_rfl) (by kernel_rfl) (fun _ _ _ h => h) (Or.inl ⟨by rfl, ?_⟩) hHeld ?_
      rotate_left
      · intro w hSw; obtain ⟨s0, s1, s2, s3, s4⟩ := hSw; (try dsimp only at hSw); go_simp; (try with_reducible rfl)
      try simp only [Act.put, List.setIfInBounds_toArray, List.set_cons_zero, List.set_cons_succ]
      refine wpAnyH_take (i := 3) (oi := { dst := some 40, op := Op.indexAddr 22 (Operand.tmp 38) (Operand.tmp 39), type := 0, pos := "l16_rings.go:95", after := #[{ on := 1, ground := Ground.data }, { on := 2, ground := Ground.data }], guard := none }) (v := ?_) rfl (by kernel_rfl) (by kernel_rfl) (by kernel_rfl) (fun _ _ _ h => h) (Or.inl ⟨by rfl, ?_⟩) hHeld ?_
      rotate_left
      · intro w hSw; obtain ⟨s0, s1, s2, s3, s4⟩ := hSw; (try dsimp only at hSw); go_simp; (try with_reducible rfl)
      try simp only [Act.put, List.setIfInBounds_toArray, List.set_cons_zero, List.set_cons_succ]
      refine wpAnyH_take (i := 4) (oi := { dst := some 41, op := Op.load 3 (Operand.tmp 40), type := 3, pos := "l16_rings.go:95", after := #[{ on := 3, ground := Ground.data }], guard := none }) (v := ?_) rfl (by kernel_rfl) (by kernel_rfl) (by kernel_rfl) (fun _ _ _ h => h) (Or.inl ⟨by rfl, ?_⟩) hHeld ?_
      rotate_left
      · intro w hSw; obtain ⟨s0, s1, s2, s3, s4⟩ := hSw; (try dsimp only at hSw); go_simp; (try with_reducible rfl)
      try simp only [Act.put, List.setIfInBounds_toArray, List.set_cons_zero, List.set_cons_succ]
      refine wpAnyH_take (i := 5) (oi := { dst := some 42, op := Op.move (Operand.tmp 2), type := 3, pos := "l16_rings.go:95", after := #[], guard := none }) (v := ?_) rfl (by kernel_rfl) (by kernel_rfl) (by kernel_rfl) (fun _ _ _ h => h) (Or.inl ⟨by rfl, ?_⟩) hHeld ?_
      rotate_left
      · intro w hSw; obtain ⟨s0, s1, s2, s3, s4⟩ := hSw; (try dsimp only at hSw); go_simp; (try with_reducible rfl)
      try simp only [Act.put, List.setIfInBounds_toArray, List.set_cons_zero, List.set_cons_succ]
      refine wpAnyH_take (i := 6) (oi := { dst := some 43, op := Op.build 105 #[(0, Operand.tmp 41), (1, Operand.tmp 42)], type := 105, pos := "l16_rings.go:95", after := #[{ on := 4, ground := Ground.data }, { on := 5, ground := Ground.data }], guard := none }) (v := ?_) rfl (by kernel_rfl) (by kernel_rfl) (by kernel_rfl) (fun _ _ _ h => h) (Or.inl ⟨by rfl, ?_⟩) hHeld ?_
      rotate_left
      · intro w hSw; obtain ⟨s0, s1, s2, s3, s4⟩ := hSw; (try dsimp only at hSw); go_simp; (try with_reducible rfl)
      try simp only [Act.put, List.setIfInBounds_toArray, List.set_cons_zero, List.set_cons_succ]
      refine wpAnyH_take (i := 7) (oi := { dst := some 44, op := Op.move (Operand.tmp 3), type := 47, pos := "l16_rings.go:95", after := #[], guard := none }) (v := ?_) rfl (by kernel_rfl) (by kernel_rfl) (by kernel_rfl) (fun _ _ _ h => h) (Or.inl ⟨by rfl, ?_⟩) hHeld ?_
      rotate_left
      · intro w hSw; obtain ⟨s0, s1, s2, s3, s4⟩ := hSw; (try dsimp only at hSw); go_simp; (try with_reducible rfl)
      try simp only [Act.put, List.setIfInBounds_toArray, List.set_cons_zero, List.set_cons_succ]
      refine wpAnyH_take (i := 8) (oi := { dst := some 45, op := Op.move (Operand.tmp 10), type := 3, pos := "l16_rings.go:95", after := #[], guard := none }) (v := ?_) rfl (by kernel_rfl) (by kernel_rfl) (by kernel_rfl) (fun _ _ _ h => h) (Or.inl ⟨by rfl, ?_⟩) hHeld ?_
      rotate_left
      · intro w hSw; obtain ⟨s0, s1, s2, s3, s4⟩ := hSw; (try dsimp only at hSw); go_simp; (try with_reducible rfl)
      try simp only [Act.put, List.setIfInBounds_toArray, List.set_cons_zero, List.set_cons_succ]
      refine wpAnyH_take (i := 9) (oi := { dst := some 46, op := Op.indexAddr 47 (Operand.tmp 44) (Operand.tmp 45), type := 0, pos := "l16_rings.go:95", after := #[{ on := 7, ground := Ground.data }, { on := 8, ground := Ground.data }], guard := none }) (v := ?_) rfl (by kernel_rfl) (by kernel_rfl) (by kernel_rfl) (fun _ _ _ h => h) (Or.inl ⟨by rfl, ?_⟩) hHeld ?_
      rotate_left
      · intro w hSw; obtain ⟨s0, s1, s2, s3, s4⟩ := hSw; (try dsimp only at hSw); go_simp; (try with_reducible rfl)
      try simp only [Act.put, List.setIfInBounds_toArray, List.set_cons_zero, List.set_cons_succ]
      refine wpAnyH_take (i := 10) (oi := { dst := some 47, op := Op.load 101 (Operand.tmp 46), type := 101, pos := "l16_rings.go:95", after := #[{ on := 9, ground := Ground.data }], guard := none }) (v := ?_) rfl (by kernel_rfl) (by kernel_rfl) (by kernel_rfl) (fun _ _ _ h => h) (Or.inl ⟨by rfl, ?_⟩) hHeld ?_
      rotate_left
      · intro w hSw; obtain ⟨s0, s1, s2, s3, s4⟩ := hSw; (try dsimp only at hSw); go_simp; (try with_reducible rfl)
      try simp only [Act.put, List.setIfInBounds_toArray, List.set_cons_zero, List.set_cons_succ]
      refine wpAnyH_ready (rs := [0]) (by kernel_rfl) (by simp) ?_
      refine AllReadyH.cons (o := { dst := some 37, op := Op.call { callee := Callee.value (Operand.func 82), args := #[], argTypes := #[] }, type := 105, pos := "l16_rings.go:95", after := #[], guard := none }) rfl (fun K hK => ?_) ?_
      · go_simp
        refine (s_linkBase u0).mono ?_
        rintro e u1 ⟨rfl, hb_⟩
        have zs1 : u0.heap.size ≤ u1.heap.size := hb_.size
        have HBl1 : Hid (Below w.heap.size w u1) := Lib.hid (HBl0.out.trans (hb_.mono HBl0.out.size))
        clear hHeld hb_ HBl0
        (try dsimp only)
        (try go_wp2_with fail)
        refine hK.out _ _ ⟨((HBl1.out.cell (p := (b.add k)) hbq).trans HCQ.out), ((HBl1.out.cell (p := (a.add (k * 4))) hba).trans HCX.out), ((HBl1.out.cell (p := ⟨(a.add (k * 4)).block, (a.add (k * 4)).off + 1, none⟩) hba).trans HCY.out), ((HBl1.out.cell (p := ⟨(a.add (k * 4)).block, (a.add (k * 4)).off + 2, none⟩) hba).trans HCZ.out), ((HBl1.out.cell (p := ⟨(a.add (k * 4)).block, (a.add (k * 4)).off + 3, none⟩) hba).trans HCU.out)⟩ (fun hHeld => ?_)
        clear hK K
        try simp only [Act.put, List.setIfInBounds_toArray, List.set_cons_zero, List.set_cons_succ]
        refine wpAnyH_ready (rs := [11]) (by kernel_rfl) (by simp) ?_
        refine AllReadyH.cons (o := { dst := some 48, op := Op.call { callee := Callee.value (Operand.func 93), args := #[Operand.tmp 37, Operand.tmp 43, Operand.tmp 47], argTypes := #[105, 105, 101] }, type := 4, pos := "l16_rings.go:95", after := #[{ on := 0, ground := Ground.data }, { on := 6, ground := Ground.data }, { on := 10, ground := Ground.data }, { on := 0, ground := Ground.chain }], guard := none }) rfl (fun K hK => ?_) ?_
        · go_simp
          refine (X_s_TwinGood 4 9 q tag x y z u u1).mono ?_
          rintro e u2 ⟨rfl, hb_⟩
          have zs2 : u1.heap.size ≤ u2.heap.size := hb_.size
          have HBl2 : Hid (Below w.heap.size w u2) := Lib.hid (HBl1.out.trans (hb_.mono HBl1.out.size))
          clear hHeld hb_ HBl1
          (try dsimp only)
          (try go_wp2_with fail)
          refine hK.out _ _ ⟨((HBl2.out.cell (p := (b.add k)) hbq).trans HCQ.out), ((HBl2.out.cell (p := (a.add (k * 4))) hba).trans HCX.out), ((HBl2.out.cell (p := ⟨(a.add (k * 4)).block, (a.add (k * 4)).off + 1, none⟩) hba).trans HCY.out), ((HBl2.out.cell (p := ⟨(a.add (k * 4)).block, (a.add (k * 4)).off + 2, none⟩) hba).trans HCZ.out), ((HBl2.out.cell (p := ⟨(a.add (k * 4)).block, (a.add (k * 4)).off + 3, none⟩) hba).trans HCU.out)⟩ (fun hHeld => ?_)
          clear hK K
          try simp only [Act.put, List.setIfInBounds_toArray, List.set_cons_zero, List.set_cons_succ]
          refine wpAnyH_take (i := 12) (oi := { dst := some 49, op := Op.unOp UnOp.not 4 (Operand.tmp 48), type := 4, pos := "l16_rings.go:95", after := #[{ on := 11, ground := Ground.data }], guard := none }) (v := ?_) rfl (by kernel_rfl) (by kernel_rfl) (by kernel_rfl) (fun _ _ _ h => h) (Or.inl ⟨by rfl, ?_⟩) hHeld ?_
          rotate_left
          · intro w hSw; obtain ⟨s0, s1, s2, s3, s4⟩ := hSw; (try dsimp only at hSw); go_simp; (try with_reducible rfl)
          try simp only [Act.put, List.setIfInBounds_toArray, List.set_cons_zero, List.set_cons_succ]
          refine wpAnyH_done (by kernel_rfl) ?_ _
          cases hg : twinB 4 9 q tag x y z u
          · have HF : Hid (false = lgoodB ks msg tag l) := Lib.hid (by unfold lgoodB; rw [HL.out, lgoodsK_no hlt (by rw [HE.out, hg])]; simp)
            go_wp2
            go_ret
            exact ⟨ret_bool HF.out, HBl2.out⟩
          · have hzz := HN.out hg
            have zz0 : 0 ≤ z := hzz.1
            have zz1 : z ≤ 112 := hzz.2
            have HK2 : Hid (lgoodsK ks tag l (k + 1) = true) := Lib.hid (by unfold lgoodsK; rw [HK.out, HE.out, hg]; rfl)
            have hcz2 := (HBl2.out.cell (p := ⟨(a.add (k * 4)).block, (a.add (k * 4)).off + 2, none⟩) hba).trans HCZ.out
            clear hzz HK hg
            go_wp2
            go_roundw
            case rel => exact ⟨k + 1, (S + z) % 113, by omega, by go_num, by go_num, by omega, by omega, HSS, HK2, HBl2⟩
            case measure => simp [intOf] <;> omega
        exact AllReadyH.nil
      exact AllReadyH.nil
    · have hkn1 : k = n2 := by omega
      have HK2 : Hid (lgoodsK ks tag l ks.length = true) := Lib.hid (by rw [HL.out, ← hkn1]; exact HK.out)
      have hlk := s_l16Link tag A1 n1 c1 msg A n2 c ks A2 n2 c2 l wr ((H.out.below HB.out).more HB.out.size) ((H1.out.below HB.out).more HB.out.size) ((H2.out.below HB.out).more HB.out.size) hn hn1 hn2 (lmixB HKM.out.1 HKM.out.2.1 HKM.out.2.2 (lgoods_coms (by rw [HL2.out, HL.out]) HK2.out))
      obtain ⟨ch, hch⟩ : ∃ ch, Hid (lchal ks msg tag l = ch) := ⟨_, Lib.hid rfl⟩
      rw [hch.out] at hlk
      have HF : Hid ((S == ch) = lgoodB ks msg tag l) := Lib.hid (by
        unfold lgoodB; rw [HKM.out.1, HKM.out.2.1, HKM.out.2.2, HK2.out, HL2.out, HL.out, hch.out, HS.out, hkn1, Bool.eq_iff_iff]; simp)
      have HLK := Lib.hid hlk
      clear hlk HK HK2 HS hch
      go_wp2_with fail
      refine HLK.out.mono ?_
      rintro e w2 ⟨rfl, hb⟩
      have HB2 : Hid (Below w.heap.size w w2) := Lib.hid (HB.out.trans (hb.mono HB.out.size))
      clear hb
      go_wp2
      go_ret
      exact ⟨ret_bool HF.out, HB2.out⟩
end Go.Proofs.Ytalokhilodlhfaa
