/- P85: what is drawn for it, the law's walk. Made by tools/plain/d14.py. -/
import Derived.Test.YtaiilopfdjbceaaDraw19
namespace Go.Proofs.Ytaiilopfdjbceaa
open Go.RowKit
set_option maxRecDepth 100000

theorem good_parts {k x c r : Int} (h : goodB k x c r = true) : (0 ≤ r ∧ r ≤ 112) ∧ powI 4 r 227 = x * powI k c 227 % 227 := by
  simp only [goodB, Bool.and_eq_true, decide_eq_true_eq] at h
  exact ⟨(numB_iff r).1 h.2.2.2.1, h.2.2.2.2⟩
theorem good_next {k x c r : Int} (h : goodB k x c r = true) : goodB k x c ((r + 1) % 113) = false := by
  cases e : goodB k x c ((r + 1) % 113)
  · rfl
  · obtain ⟨⟨r0, r1⟩, h1⟩ := good_parts h
    obtain ⟨_, h2⟩ := good_parts e
    obtain ⟨R, rfl⟩ := Int.eq_ofNat_of_zero_le r0
    have h3 : powI 4 (((R : Int) + 1) % 113) 227 = powI 4 (R : Int) 227 := h2.trans h1.symm
    rw [show ((R : Int) + 1) % 113 = (((R + 1) % 113 : Nat) : Int) by omega, powI_4, powI_4] at h3
    have h4 := E4_eq (show E4 ((R + 1) % 113) = E4 R by exact_mod_cast h3)
    omega
set_option maxHeartbeats 4000000 in
theorem d_DrawProofGood (A : Option Addr) (n c : Nat) (bs : List Int) (w : World) (h : Rd w w.heap.size 1 A n (cU bs)) (hb : Byt bs) (hn : n ≤ 1048576) (hc : n ≤ c) :
    Calls Try.prog 38 #[.slice A n c] w fun e w' => ∃ ke x c1 r, e = .returned (.tuple #[.int .i64 ke, .agg #[.int .i64 x, .int .i64 c1, .int .i64 r]]) ∧ Below w.heap.size w w' := by
  obtain ⟨W0, hW0⟩ : ∃ W, Hid (w.alloc (.cells #[.int .i64 0, .int .i64 0, .int .i64 0] 52) = W) := ⟨_, Lib.hid rfl⟩
  have HB : Hid (Below w.heap.size w W0) := Lib.hid (by rw [← hW0.out]; exact (Below.refl _ _).alloc (Nat.le_refl _) _)
  have HX : Hid (Bx W0 w.heap.size #[.int .i64 0, .int .i64 0, .int .i64 0] 52) := Lib.hid (by rw [← hW0.out]; exact Bx.new _ _ _)
  have H := Lib.hid ((h.below HB.out).more HB.out.size)
  have hlt := HX.out.lt
  clear h
  go_enter Try.func38, Try.ntmps38
  go_wp2_with fail
  rw [hW0.out]
  clear hW0
  refine (d_l6Open _ _ _ _ _ H.out hb hn hc).mono ?_
  rintro e w1 ⟨rfl, ⟨A', n', c', bs', h1⟩, hb1⟩
  have H1 := Lib.hid h1
  have HX1 := Lib.hid (HX.out.below hb1 hlt)
  have HB1 : Hid (Below w.heap.size w w1) := Lib.hid (HB.out.trans (hb1.mono HB.out.size))
  have hz1 := hb1.size
  clear h1 hb1
  go_wp2_with fail
  refine (d_l92Proof _ _ _ _ _ _ _ _ H1.out (by omega)).mono ?_
  rintro e w2 ⟨ke, x, c1, r, q, rfl, _, _, k2⟩
  have HX2 := Lib.hid (HX1.out.kept k2 (.inl (by omega)))
  have HB2 : Hid (Below w.heap.size w w2) := Lib.hid (HB1.out.trans ((k2.to_below (by omega)).mono (by omega)))
  clear k2 HX HX1 HB HB1
  have c0 : w2.cell? ⟨w.heap.size, 0, none⟩ = some (.int .i64 0) := HX2.out.cell 0
  have c1' : w2.cell? ⟨w.heap.size, 1, none⟩ = some (.int .i64 0) := HX2.out.cell 1
  have c2' : w2.cell? ⟨w.heap.size, 2, none⟩ = some (.int .i64 0) := HX2.out.cell 2
  have f0 := HX2.out.free 0
  have f1 := HX2.out.free 1
  have f2 := HX2.out.free 2
  go_wp2
  exact bodyPost_ret (v := .tuple #[.int .i64 ke, .agg #[.int .i64 x, .int .i64 c1, .int .i64 r]]) (resPfR rfl rfl rfl (((HX2.out.set 0 _).set 1 _).set 2 _)) rfl ⟨_, _, _, _, rfl, ((HB2.out.setCell (p := ⟨w.heap.size, 0, none⟩) (Nat.le_refl _) _).setCell (p := ⟨w.heap.size, 1, none⟩) (Nat.le_refl _) _).setCell (p := ⟨w.heap.size, 2, none⟩) (Nat.le_refl _) _⟩

set_option maxHeartbeats 4000000 in
theorem P85_walk (A : Option Addr) (n c : Nat) (bs : List Int) (w : World) (h : Rd w w.heap.size 1 A n (cU bs)) (hby : Byt bs) (hc : n ≤ c) (hm : n ≤ 9223372036854775807) :
    Calls Try.prog 11 #[.slice A n c] w fun e w' => e = .returned (.bool true) ∧ Below w.heap.size w w' := by
  by_cases hn : n ≤ 1048576
  · have h3 : ¬ ((1048576 : Int) < (n : Int)) := by omega
    have H := Lib.hid h
    clear h
    go_enter Try.func11, Try.ntmps11
    go_wp2_with fail
    refine (d_DrawProofGood _ _ _ _ _ H.out hby hn hc).mono ?_
    rintro e w1 ⟨ke, x, c1, r, rfl, hb⟩
    have z1 : w.heap.size ≤ w1.heap.size := hb.size
    have HB := Lib.hid hb
    clear hb
    have HPG := fun W => Lib.hid (X_i_ProofGood ke x c1 r W)
    have HPS := fun W => Lib.hid (X_s_ProofGood ke x c1 r W)
    cases hG : goodB ke x c1 r
    · simp only [hG] at HPG HPS
      go_wp2_with fail
      obtain ⟨w2, hW2⟩ : ∃ W, Hid (w1.alloc (.cells #[.int .i64 x, .int .i64 c1, .int .i64 r] 52) = W) := ⟨_, Lib.hid rfl⟩
      try rw [hW2.out]
      have z2 : w1.heap.size < w2.heap.size := by rw [← hW2.out, World.size_alloc]; omega
      have ha2 : Below w1.heap.size w1 w2 := by rw [← hW2.out]; exact (Below.refl _ _).alloc (Nat.le_refl _) _
      have HX_p : Hid (Bx w2 w1.heap.size #[.int .i64 x, .int .i64 c1, .int .i64 r] 52) := Lib.hid (by rw [← hW2.out]; exact Bx.new _ _ _)
      replace HB := Lib.hid (HB.out.trans (ha2.mono (by omega)))
      clear ha2 hW2
      refine ((HPG _).out).mono ?_
      rintro e w3 ⟨rfl, hb⟩
      have z3 : w2.heap.size ≤ w3.heap.size := hb.size
      replace HX_p := Lib.hid (HX_p.out.below hb HX_p.out.lt)
      replace HB := Lib.hid (HB.out.trans (hb.mono (by omega)))
      clear hb
      have fc4 : w3.cell? ⟨w1.heap.size, 0, none⟩ = some (.int .i64 x) := HX_p.out.cell 0
      have fc5 : w3.cell? ⟨w1.heap.size, 1, none⟩ = some (.int .i64 c1) := HX_p.out.cell 1
      have fc6 : w3.cell? ⟨w1.heap.size, 2, none⟩ = some (.int .i64 r) := HX_p.out.cell 2
      go_wp2_with fail
      clear fc4 fc5 fc6
      refine ((HPS _).out).mono ?_
      rintro e w7 ⟨rfl, hb⟩
      have z7 : w3.heap.size ≤ w7.heap.size := hb.size
      replace HX_p := Lib.hid (HX_p.out.below hb HX_p.out.lt)
      replace HB := Lib.hid (HB.out.trans (hb.mono (by omega)))
      clear hb
      have fc8 : w7.cell? ⟨w1.heap.size, 0, none⟩ = some (.int .i64 x) := HX_p.out.cell 0
      have fc9 : w7.cell? ⟨w1.heap.size, 1, none⟩ = some (.int .i64 c1) := HX_p.out.cell 1
      have fc10 : w7.cell? ⟨w1.heap.size, 2, none⟩ = some (.int .i64 r) := HX_p.out.cell 2
      go_wp2
      go_ret
      exact ⟨rfl, HB.out⟩
    · simp only [hG] at HPG HPS
      obtain ⟨⟨r0, r1⟩, _⟩ := good_parts hG
      have HN := fun W => Lib.hid (X_i_ProofGood ke x c1 ((r + 1) % 113) W)
      simp only [good_next hG] at HN
      obtain ⟨r2, hr2⟩ : ∃ z, Hid ((r + 1) % 113 = z) := ⟨_, Lib.hid rfl⟩
      have iw : IntKind.i64.wrap (r + 1) = r + 1 := IntWalk.i64_in _ (by omega)
      have im : (r + 1).tmod 113 = r2 := by rw [Int.tmod_eq_emod_of_nonneg (by omega)]; exact hr2.out
      simp only [hr2.out] at HN
      go_wp2_with fail
      obtain ⟨w11, hW11⟩ : ∃ W, Hid (w1.alloc (.cells #[.int .i64 x, .int .i64 c1, .int .i64 r] 52) = W) := ⟨_, Lib.hid rfl⟩
      try rw [hW11.out]
      have z11 : w1.heap.size < w11.heap.size := by rw [← hW11.out, World.size_alloc]; omega
      have ha11 : Below w1.heap.size w1 w11 := by rw [← hW11.out]; exact (Below.refl _ _).alloc (Nat.le_refl _) _
      have HX_p : Hid (Bx w11 w1.heap.size #[.int .i64 x, .int .i64 c1, .int .i64 r] 52) := Lib.hid (by rw [← hW11.out]; exact Bx.new _ _ _)
      replace HB := Lib.hid (HB.out.trans (ha11.mono (by omega)))
      clear ha11 hW11
      refine ((HPG _).out).mono ?_
      rintro e w12 ⟨rfl, hb⟩
      have z12 : w11.heap.size ≤ w12.heap.size := hb.size
      replace HX_p := Lib.hid (HX_p.out.below hb HX_p.out.lt)
      replace HB := Lib.hid (HB.out.trans (hb.mono (by omega)))
      clear hb
      have fc13 : w12.cell? ⟨w1.heap.size, 0, none⟩ = some (.int .i64 x) := HX_p.out.cell 0
      have fc14 : w12.cell? ⟨w1.heap.size, 1, none⟩ = some (.int .i64 c1) := HX_p.out.cell 1
      have fc15 : w12.cell? ⟨w1.heap.size, 2, none⟩ = some (.int .i64 r) := HX_p.out.cell 2
      go_wp2_with fail
      clear fc13 fc14 fc15
      refine ((HPS _).out).mono ?_
      rintro e w16 ⟨rfl, hb⟩
      have z16 : w12.heap.size ≤ w16.heap.size := hb.size
      replace HX_p := Lib.hid (HX_p.out.below hb HX_p.out.lt)
      replace HB := Lib.hid (HB.out.trans (hb.mono (by omega)))
      clear hb
      have fc17 : w16.cell? ⟨w1.heap.size, 0, none⟩ = some (.int .i64 x) := HX_p.out.cell 0
      have fc18 : w16.cell? ⟨w1.heap.size, 1, none⟩ = some (.int .i64 c1) := HX_p.out.cell 1
      have fc19 : w16.cell? ⟨w1.heap.size, 2, none⟩ = some (.int .i64 r) := HX_p.out.cell 2
      go_wp2_with fail
      clear fc17 fc18 fc19
      refine ((HN _).out).mono ?_
      rintro e w20 ⟨rfl, hb⟩
      have z20 : w16.heap.size ≤ w20.heap.size := hb.size
      replace HX_p := Lib.hid (HX_p.out.below hb HX_p.out.lt)
      replace HB := Lib.hid (HB.out.trans (hb.mono (by omega)))
      clear hb
      have fc21 : w20.cell? ⟨w1.heap.size, 0, none⟩ = some (.int .i64 x) := HX_p.out.cell 0
      have fc22 : w20.cell? ⟨w1.heap.size, 1, none⟩ = some (.int .i64 c1) := HX_p.out.cell 1
      have fc23 : w20.cell? ⟨w1.heap.size, 2, none⟩ = some (.int .i64 r) := HX_p.out.cell 2
      go_wp2
      go_ret
      exact ⟨rfl, HB.out⟩
  · have h3 : (1048576 : Int) < (n : Int) := by omega
    go_enter Try.func11, Try.ntmps11
    go_wp2
    go_ret
    exact ⟨rfl, Below.refl _ _⟩
end Go.Proofs.Ytaiilopfdjbceaa
