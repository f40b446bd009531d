/- Chapter 15: tapes told back. Made by tools/gen15/e.py. -/
import Derived.Test.YtalokhilodlhfaaWalk15c
import Derived.Test.YtalokhilodlhfaaFaceI
import Derived.Test.YtalokhilodlhfaaAppend
namespace Go.Proofs.Ytalokhilodlhfaa
open Go.RowKit
set_option maxRecDepth 100000

theorem run_make0' {P : Program} {t e : TypeId} {z : Value} {bytes size : Nat} (ht : P.underlying t = some (.slice e)) (hi : (P.info? e).map (fun i => (i.zero, i.size, i.bytes)) = some (some z, size, bytes))
    (n : Nat) (hb : bytes * n ≤ 281474976710656) (hn : n ≤ 9223372036854775807) (w : World) :
    (Instr.makeSlice t (.int .i64 0) (.int .i64 (n : Int))).run P w = .ok (.slice (some ⟨w.heap.size, 0, none⟩) 0 n) (w.alloc (.cells (madeCells z.cells (n * size)) e)) := by
  obtain ⟨i, hi, hz0, hz1, hz2⟩ := info_parts hi
  have hb' : (i.bytes : Int) * (n : Int) ≤ 281474976710656 := by
    have h : ((i.bytes * n : Nat) : Int) ≤ 281474976710656 := by rw [hz2]; omega
    rwa [Int.natCast_mul] at h
  have hr := run_make (P := P) w t e i z ht hi hz0 .i64 .i64 0 n (by omega) (by omega) hb' (by omega)
  simp only [Int.toNat_natCast, hz1] at hr
  exact hr
theorem own_make0' (w : World) (cs : Array Value) (e size n base : Nat) (hs : cs.size = n * size) (hn : n ≤ maxLen) (hb : base ≤ w.heap.size) : (w.alloc (.cells cs e)).ownsRow base e size (.slice (some ⟨w.heap.size, 0, none⟩) 0 n) 0 [] :=
  ⟨by simp, .inr ⟨w.heap.size, n, cs, rfl, hb, heap_alloc_new _ _, Nat.zero_le _, hn, hs, by simp⟩⟩
theorem own_ge {w : World} {base e size n B : Nat} {v : Value} {xs : List Value} (h : w.ownsRow base e size v n xs) (hv : v.ownBlock = some B) : base ≤ B := by
  rcases h.2 with ⟨rfl, _⟩ | ⟨g, _, _, rfl, hg, _⟩
  · simp [Value.ownBlock] at hv
  · simp [Value.ownBlock] at hv; omega
theorem own_wide {w : World} {base base' e size n : Nat} {v : Value} {xs : List Value} (h : w.ownsRow base e size v n xs) (hb : base' ≤ base) : w.ownsRow base' e size v n xs := by
  refine ⟨h.1, ?_⟩
  rcases h.2 with h0 | ⟨g, cap, cur, rfl, hg, r⟩
  · exact .inl h0
  · exact .inr ⟨g, cap, cur, rfl, by omega, r⟩
theorem Bx.grown {w w' : World} {b e : Nat} {cs : Array Value} {row : Option Nat} (h : Bx w b cs e) (hg : w.grownBy w' row) (hn : row ≠ some b) : Bx w' b cs e := (hg.block b h.lt (fun e => hn e.symm)).trans h
theorem madeCells_size' (z : Array Value) (n : Nat) : (madeCells z n).size = n := by simp [madeCells]
theorem cI_app (a b : List Int) : cI (a ++ b) = cI a ++ cI b := by simp [cI]

set_option maxHeartbeats 8000000 in
theorem i_tapeOf_Proof (q : Nat) (s : Int) (A : Option Addr) (n c : Nat) (l : List Pf) (w : World) (h : Rd w w.heap.size 3 A n (cProof l)) (hn : n ≤ 6) (s0 : 0 ≤ s) (s1 : s ≤ 112)
    (hb : ∀ k, k < n → (0 ≤ (l.getD k (0, 0, 0)).2.1 ∧ (l.getD k (0, 0, 0)).2.1 ≤ 112) ∧ 0 ≤ (l.getD k (0, 0, 0)).2.2 ∧ (l.getD k (0, 0, 0)).2.2 ≤ 112) :
    Calls Try.prog 74 #[.agg #[.int .i64 q, .int .i64 s], .slice A n c] w fun e w' => ∃ v, e = .returned v ∧ OwIntS w' w.heap.size w'.heap.size v (tapeL l q s n) ∧ Below w.heap.size w w' := by
  have H := Lib.hid h
  have HN := Lib.hid hb
  clear h hb
  have hmk : ∀ W : World, (Instr.makeSlice 22 (.int .i64 0) (.int .i64 (2 * (n : Int)))).run Try.prog W = .ok (.slice (some ⟨W.heap.size, 0, none⟩) 0 (2 * n)) (W.alloc (.cells (madeCells (Value.int .i64 0).cells (2 * n * 1)) 3)) := fun W => by
    have := run_make0' (P := Try.prog) Try.underlying22 info_int (2 * n) (by omega) (by omega) W
    rw [show ((2 * n : Nat) : Int) = 2 * (n : Int) by omega] at this; exact this
  obtain ⟨cs, hcs⟩ : ∃ cs, Hid (madeCells (Value.int .i64 0).cells (2 * n * 1) = cs) := ⟨_, Lib.hid rfl⟩
  rw [hcs.out] at hmk
  have hcap : cs.size = 2 * n * 1 := by rw [← hcs.out]; exact madeCells_size' _ _
  obtain ⟨W0, hW0⟩ : ∃ W, Hid ((w.alloc (.cells #[.int .i64 q, .int .i64 s] 75)).alloc (.cells cs 3) = W) := ⟨_, Lib.hid rfl⟩
  have HX0 : Hid (Bx W0 w.heap.size #[.int .i64 q, .int .i64 s] 75) := Lib.hid (by rw [← hW0.out]; exact (Bx.new _ _ _).alloc _)
  have HB0 : Hid (Below w.heap.size w W0) := Lib.hid (by rw [← hW0.out]; exact ((Below.refl _ _).alloc (Nat.le_refl _) _).alloc (by simp only [World.size_alloc]; omega) _)
  have HZ0 : Hid (w.heap.size + 1 ≤ W0.heap.size) := Lib.hid (by rw [← hW0.out]; simp only [World.size_alloc]; omega)
  have HO0 : Hid (W0.ownsRow (w.heap.size + 1) 3 1 (.slice (some ⟨w.heap.size + 1, 0, none⟩) 0 (2 * n)) (2 * 0) (cI (tapeL l q s 0))) := Lib.hid (by
    rw [← hW0.out]
    have := own_make0' (w.alloc (.cells #[.int .i64 q, .int .i64 s] 75)) cs 3 1 (2 * n) (w.heap.size + 1) hcap (by unfold maxLen; omega) (by simp)
    simp only [World.size_alloc] at this; exact this)
  clear hcap hcs
  go_enter Try.func74, Try.ntmps74
  go_wp2_with fail
  rw [hW0.out]
  clear hW0 hmk
  go_loopw [5, 15] (fun t i wr => ∃ (k : Nat) (tv : Value), k ≤ n ∧ tv = t ∧ i = .int .i64 k ∧ Hid (wr.ownsRow (w.heap.size + 1) 3 1 tv (2 * k) (cI (tapeL l q s k))) ∧ Hid (Bx wr w.heap.size #[.int .i64 q, .int .i64 s] 75) ∧ Hid (Below w.heap.size w wr) ∧ Hid (w.heap.size + 1 ≤ wr.heap.size)) (fun _ i _ => n - (intOf i).toNat)
  case atStart => exact ⟨0, _, Nat.zero_le _, rfl, rfl, HO0, HX0, HB0, HZ0⟩
  case round =>
    clear HO0 HX0 HB0 HZ0
    obtain ⟨k, tv, hk, rfl, rfl, HO, HX, HB, HZ⟩ := hrel
    by_cases hlt : k < n
    · obtain ⟨a, x, y, z, rfl, hab, hcx, hcy, hcz, HP⟩ := (H.out.below HB.out).ProofAt hlt
      have hyb := HN.out k hlt
      rw [HP.out] at hyb
      have y0 : 0 ≤ y := hyb.1.1
      have y1 : y ≤ 112 := hyb.1.2
      have z0 : 0 ≤ z := hyb.2.1
      have z1 : z ≤ 112 := hyb.2.2
      clear hyb
      have i0 : (0 : Int) ≤ (k : Int) := by omega
      have i1 : (k : Int) < (n : Int) := by omega
      have HJ0 : Hid (tapeJ l q s k = if k = q then [(z - y * s % 113) % 113, 0] else [y, z]) := Lib.hid (by unfold tapeJ; rw [HP.out])
      clear HP
      go_wp2_with fail
      rw [inv_pf]
      go_wp2_with fail
      refine (i_Proof_answer x y z _).mono ?_
      rintro e w2 ⟨rfl, hb2⟩
      have hbs : Below wr.heap.size wr w2 := ((Below.refl _ wr).alloc (Nat.le_refl _) _).trans (hb2.mono (by simp))
      have HO2 := Lib.hid (ownsRow_below HO.out hbs)
      have HX2 := Lib.hid (HX.out.below hbs HX.out.lt)
      have HB2 : Hid (Below w.heap.size w w2) := Lib.hid (HB.out.trans (hbs.mono HB.out.size))
      have HZ2 : Hid (w.heap.size + 1 ≤ w2.heap.size) := Lib.hid (by have := HZ.out; have := hbs.size; omega)
      clear hb2 hbs HO HX HB HZ hcx hcy hcz
      obtain ⟨w3, hw3⟩ : ∃ W, Hid (w2.alloc (.cells #[.int .i64 y, .int .i64 z] 79) = W) := ⟨_, Lib.hid rfl⟩
      have HO3 : Hid (w3.ownsRow (w.heap.size + 1) 3 1 tv (2 * k) (cI (tapeL l q s k))) := Lib.hid (by rw [← hw3.out]; exact ownsRow_below HO2.out ((Below.refl _ _).alloc (Nat.le_refl _) _))
      have HX3 : Hid (Bx w3 w.heap.size #[.int .i64 q, .int .i64 s] 75) := Lib.hid (by rw [← hw3.out]; exact HX2.out.alloc _)
      have HA3 : Hid (Bx w3 w2.heap.size #[.int .i64 y, .int .i64 z] 79) := Lib.hid (by rw [← hw3.out]; exact Bx.new _ _ _)
      have HB3 : Hid (Below w.heap.size w w3) := Lib.hid (by rw [← hw3.out]; exact HB2.out.alloc HB2.out.size _)
      have HZ3 : Hid (w.heap.size + 1 ≤ w3.heap.size) := Lib.hid (by rw [← hw3.out, World.size_alloc]; have := HZ2.out; omega)
      have e0 : (w2.alloc (.cells #[.int .i64 y, .int .i64 z] 79)).cell? ⟨w.heap.size, 0, none⟩ = some (.int .i64 q) := by rw [hw3.out]; exact HX3.out.cell 0
      have e1 : (w2.alloc (.cells #[.int .i64 y, .int .i64 z] 79)).cell? ⟨w.heap.size, 1, none⟩ = some (.int .i64 s) := by rw [hw3.out]; exact HX3.out.cell 1
      clear HO2 HX2 HB2 HZ2
      by_cases hkq : k = q
      · have HJ : Hid (tapeJ l q s k = [(z - y * s) % 113, 0]) := Lib.hid (by rw [HJ0.out, if_pos hkq, show (z - y * s % 113) % 113 = (z - y * s) % 113 by omega])
        have e2 : ((k : Int) == (q : Int)) = true := by rw [beq_iff_eq]; omega
        obtain ⟨vn, hvn⟩ : ∃ vn, Hid ((z - y * s) % 113 = vn) := ⟨_, Lib.hid rfl⟩
        rw [hvn.out] at HJ
        clear HJ0 hkq
        go_wp2_with fail
        rw [hw3.out]
        clear e0 e1 hw3
        refine (i_an_nonce y z s _ y0 y1 z0 z1 s0 s1).mono ?_
        rintro e w4 ⟨rfl, hb⟩
        rw [hvn.out]
        have HO4 := Lib.hid (ownsRow_below HO3.out hb)
        have HX4 := Lib.hid (HX3.out.below hb HX3.out.lt)
        have HB4 : Hid (Below w.heap.size w w4) := Lib.hid (HB3.out.trans (hb.mono HB3.out.size))
        have HZ4 : Hid (w.heap.size + 1 ≤ w4.heap.size) := Lib.hid (by have := HZ3.out; have := hb.size; omega)
        clear hb HO3 HX3 HA3 HB3 HZ3
        have HOL : Hid ((w4.alloc (.cells #[.int .i64 vn, .int .i64 0] 3)).ownsRow (w.heap.size + 1) 3 1 tv (2 * k) (cI (tapeL l q s k))) := Lib.hid (ownsRow_below HO4.out ((Below.refl _ _).alloc (Nat.le_refl _) _))
        have HXL : Hid (Bx (w4.alloc (.cells #[.int .i64 vn, .int .i64 0] 3)) w.heap.size #[.int .i64 q, .int .i64 s] 75) := Lib.hid (HX4.out.alloc _)
        have HBL : Hid (Below w.heap.size w (w4.alloc (.cells #[.int .i64 vn, .int .i64 0] 3))) := Lib.hid (HB4.out.alloc HB4.out.size _)
        have HZL : Hid (w.heap.size + 1 ≤ (w4.alloc (.cells #[.int .i64 vn, .int .i64 0] 3)).heap.size) := Lib.hid (by rw [World.size_alloc]; have := HZ4.out; omega)
        have HRD : Hid (Rd (w4.alloc (.cells #[.int .i64 vn, .int .i64 0] 3)) (w4.alloc (.cells #[.int .i64 vn, .int .i64 0] 3)).heap.size 1 (some ⟨w4.heap.size, 0, none⟩) 2 (cI [vn, 0])) := Lib.hid ((Bx.new w4 #[.int .i64 vn, .int .i64 0] 3).rdI rfl)
        go_wp2_with (at_builtin
                     refine wpList_append_rd rfl (.tmp 27) (.tmp 32) _ rfl (w.heap.size + 1) 3 _ 1 8 Try.underlying22 info_int rfl (by decide) tv (2 * k) (cI (tapeL l q s k)) rfl HOL.out _ _ 2 2 (cI [vn, 0]) rfl HRD.out (cI_one _) (by unfold maxLen; omega) (by omega) (by have := HZL.out; omega) ?_
                     intro v5 w5 hown hgr hat
                     have HO5 : Hid (w5.ownsRow (w.heap.size + 1) 3 1 v5 (2 * (k + 1)) (cI (tapeL l q s (k + 1)))) := Lib.hid (by rw [tapeL_succ, cI_app, HJ.out]; exact hown)
                     have HX5 : Hid (Bx w5 w.heap.size #[.int .i64 q, .int .i64 s] 75) := Lib.hid (HXL.out.grown hgr (fun e => by have := own_ge HOL.out e; omega))
                     have HB5 : Hid (Below w.heap.size w w5) := Lib.hid (below_grown HBL.out hgr (fun g e => by have := own_ge HOL.out e; omega) (by have := HZL.out; omega))
                     have HZ5 : Hid (w.heap.size + 1 ≤ w5.heap.size) := Lib.hid (by have := hgr.size; have := HZL.out; omega)
                     clear hown hgr hat HOL HXL HBL HZL HRD)
        go_roundw
        case rel => exact ⟨k + 1, v5, by omega, rfl, by go_num, HO5, HX5, HB5, HZ5⟩
        case measure => simp [intOf] <;> omega
      · have HJ : Hid (tapeJ l q s k = [y, z]) := Lib.hid (by rw [HJ0.out, if_neg hkq])
        have e2 : ((k : Int) == (q : Int)) = false := by rw [beq_eq_false_iff_ne]; omega
        clear HJ0 hkq e0 e1
        have g0 : w3.cell? ⟨w.heap.size, 0, none⟩ = some (.int .i64 q) := HX3.out.cell 0
        rw [← hw3.out] at g0
        have HO4 := HO3
        have HX4 := HX3
        have HB4 := HB3
        have HZ4 := HZ3
        clear HO3 HX3 HB3 HZ3
        have HOL : Hid ((w3.alloc (.cells #[.int .i64 y, .int .i64 z] 3)).ownsRow (w.heap.size + 1) 3 1 tv (2 * k) (cI (tapeL l q s k))) := Lib.hid (ownsRow_below HO4.out ((Below.refl _ _).alloc (Nat.le_refl _) _))
        have HXL : Hid (Bx (w3.alloc (.cells #[.int .i64 y, .int .i64 z] 3)) w.heap.size #[.int .i64 q, .int .i64 s] 75) := Lib.hid (HX4.out.alloc _)
        have HBL : Hid (Below w.heap.size w (w3.alloc (.cells #[.int .i64 y, .int .i64 z] 3))) := Lib.hid (HB4.out.alloc HB4.out.size _)
        have HZL : Hid (w.heap.size + 1 ≤ (w3.alloc (.cells #[.int .i64 y, .int .i64 z] 3)).heap.size) := Lib.hid (by rw [World.size_alloc]; have := HZ4.out; omega)
        have HRD : Hid (Rd (w3.alloc (.cells #[.int .i64 y, .int .i64 z] 3)) (w3.alloc (.cells #[.int .i64 y, .int .i64 z] 3)).heap.size 1 (some ⟨w3.heap.size, 0, none⟩) 2 (cI [y, z])) := Lib.hid ((Bx.new w3 #[.int .i64 y, .int .i64 z] 3).rdI rfl)
        have hz3 : w3.heap.size = w2.heap.size + 1 := by rw [← hw3.out, World.size_alloc]
        rw [hz3] at HRD
        clear hz3
        rw [← hw3.out] at HOL HXL HBL HZL HRD
        go_wp2_with (at_builtin
                     refine wpList_append_rd rfl (.tmp 34) (.tmp 39) _ rfl (w.heap.size + 1) 3 _ 1 8 Try.underlying22 info_int rfl (by decide) tv (2 * k) (cI (tapeL l q s k)) rfl HOL.out _ _ 2 2 (cI [y, z]) rfl HRD.out (cI_one _) (by unfold maxLen; omega) (by omega) (by have := HZL.out; omega) ?_
                     intro v5 w5 hown hgr hat
                     have HO5 : Hid (w5.ownsRow (w.heap.size + 1) 3 1 v5 (2 * (k + 1)) (cI (tapeL l q s (k + 1)))) := Lib.hid (by rw [tapeL_succ, cI_app, HJ.out]; exact hown)
                     have HX5 : Hid (Bx w5 w.heap.size #[.int .i64 q, .int .i64 s] 75) := Lib.hid (HXL.out.grown hgr (fun e => by have := own_ge HOL.out e; omega))
                     have HB5 : Hid (Below w.heap.size w w5) := Lib.hid (below_grown HBL.out hgr (fun g e => by have := own_ge HOL.out e; omega) (by have := HZL.out; omega))
                     have HZ5 : Hid (w.heap.size + 1 ≤ w5.heap.size) := Lib.hid (by have := hgr.size; have := HZL.out; omega)
                     clear hown hgr hat HOL HXL HBL HZL HRD)
        go_roundw
        case rel => exact ⟨k + 1, v5, by omega, rfl, by go_num, HO5, HX5, HB5, HZ5⟩
        case measure => simp [intOf] <;> omega
    · have HO2 : Hid (wr.ownsRow (w.heap.size + 1) 3 1 tv (2 * n) (cI (tapeL l q s n))) := Lib.hid (by have := HO.out; rw [show k = n by omega] at this; exact this)
      clear HO
      go_wp2
      go_ret
      obtain ⟨A5, c5, hv, ho⟩ := Ow.of_own HO2.out
      exact ⟨_, rfl, ⟨by rw [tapeL_length]; omega, A5, 2 * n, c5, hv, ho.widen (by omega) (Nat.le_refl _)⟩, HB.out⟩
end Go.Proofs.Ytalokhilodlhfaa
