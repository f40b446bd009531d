/- What P53, P63, P67 draw from bytes. Made by tools/plain/d10.py. -/
import Derived.Test.YtpejigfndkdhcaaDraw14
import Derived.Test.YtpejigfndkdhcaaBx
import Derived.Test.YtpejigfndkdhcaaDeal
import Derived.Deep.MidRow
namespace Go.Proofs.Ytpejigfndkdhcaa
open Go.RowKit
set_option maxRecDepth 100000

/-- what has changed in the reader's block alone, and then in a block of one's own -/
theorem kept_up {w w1 w2 : World} {g B : Nat} (h : Kept g (g + 1) w w1) (k : Kept B (B + 1) w1 w2) (hB : w.heap.size ≤ B) : Kept g (g + 1) w w2 :=
  ⟨k.os.trans h.os, k.tape.trans h.tape, k.output.trans h.output, Nat.le_trans h.size k.size, fun i hi hn => (k.block i (Nat.lt_of_lt_of_le hi h.size) (by omega)).trans (h.block i hi hn)⟩
theorem Ow.cutEnd {w : World} {lo hi e n c k : Nat} {A : Option Addr} {zs : List Int} (h : Ow w lo hi e 1 A n c (cI zs)) (hk : k ≤ n) (hk0 : 0 < k) : Ow w lo hi e 1 A k c (cI (zs.take k)) := by
  obtain ⟨g, cs, rfl, h1, h2, h3, h4⟩ := h.lt (by omega)
  refine ⟨by rw [cI_length, List.length_take, h.len]; omega, Nat.le_trans hk h.2.1, .inr ⟨g, cs, rfl, h1, h2, h3, ?_⟩⟩
  rw [Nat.mul_one] at h4 ⊢
  unfold cI at h4 ⊢
  rw [List.map_take, ← h4, List.take_take, Nat.min_eq_left hk]
theorem OwIntS.cutS {w : World} {lo hi n c k : Nat} {A : Option Addr} {d : List Int} (h : OwIntS w lo hi (.slice A n c) d) (hk : k ≤ n) (hk0 : 0 < k) : OwIntS w lo hi (.slice A k c) (d.take k) := by
  obtain ⟨hs, A1, n1, c1, e, o⟩ := h
  injection e with e1 e2 e3
  subst e1 e2 e3
  exact ⟨by rw [List.length_take]; omega, _, _, _, rfl, o.cutEnd hk hk0⟩

set_option maxHeartbeats 2000000 in
theorem d_DrawMarkedMake (A : Option Addr) (n c : Nat) (bs : List Int) (w : World) (h : Rd w w.heap.size 1 A n (cU bs)) (hb : Byt bs) (hn : n ≤ 1048576) (hc : n ≤ c) :
    Calls Try.prog 23 #[.slice A n c] w fun e w' => ∃ a b N v d, e = .returned (.tuple #[.int .i64 a, .int .i64 b, .int .i64 N, v]) ∧ OwIntS w' w.heap.size w'.heap.size v d ∧ Below w.heap.size w w' := by
  have H := Lib.hid h
  clear h
  go_enter Try.func23, Try.ntmps23
  go_wp2_with fail
  refine (d_l6Open _ _ _ _ _ H.out hb hn hc).mono ?_
  rintro e wa ⟨rfl, ⟨A', n', c', bs', h1⟩, hb1⟩
  obtain ⟨g, hg⟩ : ∃ g, w.heap.size = g := ⟨_, rfl⟩
  have B1 := Lib.hid hb1
  have HR := Lib.hid h1
  rw [hg] at HR
  have HK := Lib.hid (Kept.refl g (g + 1) wa)
  have hgw : g < wa.heap.size := HR.out.lt
  rw [hg]
  clear h1 hb1
  go_wp2_with fail
  refine (d_l91Num _ _ _ _ _ _ _ _ HR.out (by omega)).mono ?_
  rintro e w1 ⟨a, qa, rfl, _, hqa, h2, k2⟩
  have z1 : wa.heap.size ≤ w1.heap.size := k2.size
  replace HR := Lib.hid h2
  replace HK := Lib.hid (HK.out.trans k2)
  clear h2 k2
  go_wp2_with fail
  refine (d_l91Num _ _ _ _ _ _ _ _ HR.out (by omega)).mono ?_
  rintro e w2 ⟨b, qb, rfl, _, hqb, h2, k2⟩
  have z2 : w1.heap.size ≤ w2.heap.size := k2.size
  replace HR := Lib.hid h2
  replace HK := Lib.hid (HK.out.trans k2)
  clear h2 k2
  go_wp2_with fail
  refine (d_pick _ _ _ _ _ _ _ _ _ HR.out (by omega) (by omega) (by omega)).mono ?_
  rintro e w3 ⟨x, rfl, xl, xh, h2, k2⟩
  have z3 : w2.heap.size ≤ w3.heap.size := k2.size
  replace HR := Lib.hid h2
  replace HK := Lib.hid (HK.out.trans k2)
  clear h2 k2
  have ix : IntKind.i64.wrap (2 + x) = 2 + x := IntWalk.i64_in _ (by omega)
  go_wp2_with fail
  refine (d_pick _ _ _ _ _ _ _ _ _ HR.out (by omega) (by omega) (by omega)).mono ?_
  rintro e w4 ⟨y, rfl, yl, yh, h2, k2⟩
  have z4 : w3.heap.size ≤ w4.heap.size := k2.size
  replace HR := Lib.hid h2
  replace HK := Lib.hid (HK.out.trans k2)
  clear h2 k2
  have iy : IntKind.i64.wrap (2 * y) = 2 * y := IntWalk.i64_in _ (by omega)
  have iy2 : IntKind.i64.wrap (2 + 2 * y) = 2 + 2 * y := IntWalk.i64_in _ (by omega)
  go_wp2_with fail
  refine (d_l91NumsL _ _ _ _ _ _ _ _ _ HR.out (by omega) (by omega) (by omega)).mono ?_
  rintro e w5 ⟨v, d, qv, rfl, h_v, hd, hqv, h2, k2⟩
  have z5 : w4.heap.size ≤ w5.heap.size := k2.size
  replace HR := Lib.hid h2
  replace HK := Lib.hid (HK.out.trans k2)
  have HO_v := Lib.hid h_v
  clear h2 k2 h_v
  go_wp2
  refine bodyPost_ret (results_four rfl _ _ _) rfl ?_
  have zw := B1.out.size
  refine ⟨_, _, _, _, _, rfl, HO_v.out.widen (by omega) (Nat.le_refl _), ?_⟩
  exact B1.out.trans ((HK.out.to_below (by omega)).mono (by omega))

theorem infoD : (Try.prog.info? 52).map (·.size) = some 2 := by kernel_rfl
theorem resD {fn : Func} {t : Tmp} {tmps : Array Value} {w : World} {g : Nat} {a b : Value} (h : fn.results = #[.cell t 52]) (ht : tmps.getD t undef = .pointer (some ⟨g, 0, none⟩)) (hb : Bx w g #[a, b] 52) :
    (results fn tmps).run Try.prog w = .ok (.agg #[a, b]) w := by
  have hr : w.rangeAt g 0 [a, b] := fun j v hv => by
    rw [Nat.zero_add, cell_of_row w g j _ _ (0, 0) hb]; simpa using hv
  have := run_loadVar_mid (P := Try.prog) w g 0 52 [a, b] _ hr Try.underlying52 rfl infoD
  have ht2 : tmps[t]?.getD undef = .pointer (some ⟨g, 0, none⟩) := by rw [← ht]; simp
  simp [results, h, ht2, this, asAddr]
set_option maxHeartbeats 4000000 in
theorem d_l92Deal (g hi p : Nat) (A : Option Addr) (n c : Nat) (bs : List Int) (w : World) (h : Rdr w g hi p A n c bs) (hp : p < 800000) :
    Calls Try.prog 114 #[.pointer (some ⟨g, 0, none⟩)] w fun e w' => ∃ Am nm cm pl d q, e = .returned (.agg #[.slice Am nm cm, .int .i64 pl]) ∧ OwIntS w' w.heap.size w'.heap.size (.slice Am nm cm) d ∧ (1 ≤ nm ∧ nm ≤ 10) ∧ (0 ≤ pl ∧ pl ≤ 10) ∧ q ≤ p + 1100 ∧ Rdr w' g hi q A n c bs ∧ Kept g (g + 1) w w' := by
  have hgw : g < w.heap.size := h.lt
  have hig : hi ≤ g := h.low
  have HR := Lib.hid h
  have HK := Lib.hid (Kept.refl g (g + 1) w)
  clear h
  go_enter Try.func114, Try.ntmps114
  go_wp2_with fail
  obtain ⟨w1, hW1⟩ : ∃ W, Hid (w.alloc (.cells #[.slice none 0 0, .int .i64 0] 52) = W) := ⟨_, Lib.hid rfl⟩
  try rw [hW1.out]
  have z1 : w.heap.size < w1.heap.size := by rw [← hW1.out, World.size_alloc]; omega
  have ha1 : Below w.heap.size w w1 := by rw [← hW1.out]; exact (Below.refl _ _).alloc (Nat.le_refl _) _
  have HX_r : Hid (Bx w1 w.heap.size #[.slice none 0 0, .int .i64 0] 52) := Lib.hid (by rw [← hW1.out]; exact Bx.new _ _ _)
  have hr_ := HR.out.alloc (.cells #[.slice none 0 0, .int .i64 0] 52)
  have hk_ := HK.out.trans (kept_alloc g (g + 1) w (.cells #[.slice none 0 0, .int .i64 0] 52))
  rw [hW1.out] at hr_ hk_
  replace HR := Lib.hid hr_
  replace HK := Lib.hid hk_
  clear ha1 hW1 hr_ hk_
  refine (d_pick _ _ _ _ _ _ _ _ _ HR.out (by omega) (by omega) (by omega)).mono ?_
  rintro e w2 ⟨x, rfl, xl, xh, h2, k2⟩
  have z2 : w1.heap.size ≤ w2.heap.size := k2.size
  replace HX_r := Lib.hid (HX_r.out.kept k2 (.inr (by omega)))
  replace HR := Lib.hid h2
  replace HK := Lib.hid (HK.out.trans k2)
  clear h2 k2
  have ix : IntKind.i64.wrap (2 + x) = 2 + x := IntWalk.i64_in _ (by omega)
  have fc3 : w2.cell? ⟨w.heap.size, 0, none⟩ = some (.slice none 0 0) := HX_r.out.cell 0
  have fc4 : w2.cell? ⟨w.heap.size, 1, none⟩ = some (.int .i64 0) := HX_r.out.cell 1
  go_wp2_with fail
  clear fc3 fc4
  refine (d_l91GoodL _ _ _ _ _ _ _ _ _ HR.out (by omega) (by omega) (by omega)).mono ?_
  rintro e w5 ⟨v, d, qv, rfl, h_v, ⟨hd, _⟩, hqv, h2, k2⟩
  have z5 : w2.heap.size ≤ w5.heap.size := k2.size
  replace HX_r := Lib.hid (HX_r.out.kept k2 (.inr (by omega)))
  replace HR := Lib.hid h2
  replace HK := Lib.hid (HK.out.trans k2)
  have HO_v := Lib.hid h_v
  clear h2 k2 h_v
  have fc6 : w5.cell? ⟨w.heap.size, 0, none⟩ = some (.slice none 0 0) := HX_r.out.cell 0
  have fc7 : w5.cell? ⟨w.heap.size, 1, none⟩ = some (.int .i64 0) := HX_r.out.cell 1
  go_wp2_with fail
  clear fc6 fc7
  refine (d_pick _ _ _ _ _ _ _ _ _ HR.out (by omega) (by omega) (by omega)).mono ?_
  rintro e w8 ⟨y, rfl, yl, yh, h2, k2⟩
  have z8 : w5.heap.size ≤ w8.heap.size := k2.size
  replace HO_v := Lib.hid (HO_v.out.kept k2 (by omega) (.inl (by omega)))
  replace HX_r := Lib.hid (HX_r.out.kept k2 (.inr (by omega)))
  replace HR := Lib.hid h2
  replace HK := Lib.hid (HK.out.trans k2)
  clear h2 k2
  obtain ⟨Av, nv, cv, hvv⟩ : ∃ Av nv cv, v = .slice Av nv cv := by obtain ⟨_, Av, nv, cv, e, _⟩ := HO_v.out; exact ⟨Av, nv, cv, e⟩
  subst hvv
  have hnv : (nv : Int) = 2 + x := by obtain ⟨_, A1, n1, c1, e, o⟩ := HO_v.out; injection e with e1 e2 e3; subst e2; rw [← hd, o.len]
  have fc9 : (w8.alloc (.cells #[.slice Av nv cv, .int .i64 y] 52)).cell? ⟨w.heap.size, 0, none⟩ = some (.slice none 0 0) := (HX_r.out.alloc _).cell 0
  have fc10 : (w8.alloc (.cells #[.slice Av nv cv, .int .i64 y] 52)).cell? ⟨w.heap.size, 1, none⟩ = some (.int .i64 0) := (HX_r.out.alloc _).cell 1
  go_wp2_with fail
  clear fc9 fc10
  obtain ⟨w11, hW11⟩ : ∃ W, Hid (w8.alloc (.cells #[.slice Av nv cv, .int .i64 y] 52) = W) := ⟨_, Lib.hid rfl⟩
  try rw [hW11.out]
  have z11 : w8.heap.size < w11.heap.size := by rw [← hW11.out, World.size_alloc]; omega
  have ha11 : Below w8.heap.size w8 w11 := by rw [← hW11.out]; exact (Below.refl _ _).alloc (Nat.le_refl _) _
  replace HO_v := Lib.hid (HO_v.out.below ha11 (by omega))
  replace HX_r := Lib.hid (HX_r.out.below ha11 HX_r.out.lt)
  have HX_d : Hid (Bx w11 w8.heap.size #[.slice Av nv cv, .int .i64 y] 52) := Lib.hid (by rw [← hW11.out]; exact Bx.new _ _ _)
  have hr_ := HR.out.alloc (.cells #[.slice Av nv cv, .int .i64 y] 52)
  have hk_ := HK.out.trans (kept_alloc g (g + 1) w8 (.cells #[.slice Av nv cv, .int .i64 y] 52))
  rw [hW11.out] at hr_ hk_
  replace HR := Lib.hid hr_
  replace HK := Lib.hid hk_
  clear ha11 hW11 hr_ hk_
  refine (d_pick _ _ _ _ _ _ _ _ _ HR.out (by omega) (by omega) (by omega)).mono ?_
  rintro e w12 ⟨s, rfl, sl, sh, h2, k2⟩
  have z12 : w11.heap.size ≤ w12.heap.size := k2.size
  replace HO_v := Lib.hid (HO_v.out.kept k2 (by omega) (.inl (by omega)))
  replace HX_r := Lib.hid (HX_r.out.kept k2 (.inr (by omega)))
  replace HX_d := Lib.hid (HX_d.out.kept k2 (.inr (by omega)))
  replace HR := Lib.hid h2
  replace HK := Lib.hid (HK.out.trans k2)
  clear h2 k2
  by_cases s0 : s = 0
  · subst s0
    obtain ⟨w13, hW13⟩ : ∃ W, Hid (w12.setCell ⟨w8.heap.size, 1, none⟩ (.int .i64 (2 + x)) = W) := ⟨_, Lib.hid rfl⟩
    have z13 : w13.heap.size = w12.heap.size := by rw [← hW13.out, World.size_setCell]
    have hk13 : Kept (w8.heap.size) (w8.heap.size + 1) w12 w13 := by rw [← hW13.out]; exact (Kept.refl _ _ _).setCell (p := ⟨w8.heap.size, 1, none⟩) (Nat.le_refl _) (Nat.lt_succ_self _) _
    have hx13 : Bx w13 (w8.heap.size) #[.slice Av nv cv, .int .i64 (2 + x)] 52 := by have := HX_d.out.set 1 (.int .i64 (2 + x)); rw [hW13.out] at this; exact this
    have hr13 := HR.out.move (w' := w13) (hk13.block g HR.out.lt (by omega)) (hk13.to_below (by omega) |>.mono (by have := HR.out.low; omega))
    have hq13 : Kept g (g + 1) w w13 := kept_up HK.out hk13 (by omega)
    replace HO_v := Lib.hid (HO_v.out.kept hk13 (by omega) (by omega))
    replace HX_r := Lib.hid (HX_r.out.kept hk13 (.inl (by omega)))
    have fc14 : w12.cell? ⟨w8.heap.size, 0, none⟩ = some (.slice Av nv cv) := HX_d.out.cell 0
    have fz15 : w12.frozen? ⟨w8.heap.size, 0, none⟩ = false := HX_d.out.free 0
    have fc16 : w12.cell? ⟨w8.heap.size, 1, none⟩ = some (.int .i64 y) := HX_d.out.cell 1
    have fz17 : w12.frozen? ⟨w8.heap.size, 1, none⟩ = false := HX_d.out.free 1
    replace HX_d := Lib.hid hx13
    have HR2 := Lib.hid hr13
    have HK2 := Lib.hid hq13
    replace HR := HR2
    replace HK := HK2
    have e1 : w13.cell? ⟨w8.heap.size, 0, none⟩ = some (.slice Av nv cv) := HX_d.out.cell 0
    have e2 : w13.cell? ⟨w8.heap.size, 1, none⟩ = some (.int .i64 (2 + x)) := HX_d.out.cell 1
    have e3 : w13.cell? ⟨w.heap.size, 0, none⟩ = some (.slice none 0 0) := HX_r.out.cell 0
    have e4 : w13.cell? ⟨w.heap.size, 1, none⟩ = some (.int .i64 0) := HX_r.out.cell 1
    have e5 : w13.frozen? ⟨w.heap.size, 0, none⟩ = false := HX_r.out.free 0
    have e6 : w13.frozen? ⟨w.heap.size, 1, none⟩ = false := HX_r.out.free 1
    rw [← hW13.out] at e1 e2 e3 e4 e5 e6
    go_wp2
    rw [hW13.out]
    have hkR : Kept (w.heap.size) (w.heap.size + 1) w13 ((w13.setCell ⟨w.heap.size, 0, none⟩ (.slice Av nv cv)).setCell ⟨w.heap.size, 1, none⟩ (.int .i64 (2 + x))) := ((Kept.refl _ _ _).setCell (p := ⟨w.heap.size, 0, none⟩) (Nat.le_refl _) (Nat.lt_succ_self _) _).setCell (p := ⟨w.heap.size, 1, none⟩) (Nat.le_refl _) (Nat.lt_succ_self _) _
    have hxR := (HX_r.out.set 0 (.slice Av nv cv)).set 1 (.int .i64 (2 + x))
    have hrR := HR.out.move (w' := ((w13.setCell ⟨w.heap.size, 0, none⟩ (.slice Av nv cv)).setCell ⟨w.heap.size, 1, none⟩ (.int .i64 (2 + x)))) (hkR.block g HR.out.lt (by omega)) ((hkR.to_below (by omega)).mono (by omega))
    have hqR := kept_up HK.out hkR (Nat.le_refl _)
    have zR : ((w13.setCell ⟨w.heap.size, 0, none⟩ (.slice Av nv cv)).setCell ⟨w.heap.size, 1, none⟩ (.int .i64 (2 + x))).heap.size = w13.heap.size := by rw [World.size_setCell, World.size_setCell]
    exact bodyPost_ret (v := .agg #[.slice Av nv cv, .int .i64 (2 + x)]) (resD rfl rfl hxR) rfl ⟨_, _, _, _, d, _, rfl, ((HO_v.out).kept hkR (by omega) (by omega)).widen (by omega) (by omega), ⟨by omega, by omega⟩, ⟨by omega, by omega⟩, by omega, hrR, hqR⟩
  by_cases s1 : s = 1
  · subst s1
    have fc18 : w12.cell? ⟨w.heap.size, 0, none⟩ = some (.slice none 0 0) := HX_r.out.cell 0
    have fc19 : w12.cell? ⟨w.heap.size, 1, none⟩ = some (.int .i64 0) := HX_r.out.cell 1
    have fc20 : w12.cell? ⟨w8.heap.size, 0, none⟩ = some (.slice Av nv cv) := HX_d.out.cell 0
    have fc21 : w12.cell? ⟨w8.heap.size, 1, none⟩ = some (.int .i64 y) := HX_d.out.cell 1
    go_wp2_with fail
    clear fc18 fc19 fc20 fc21
    refine (d_l91NumsL _ _ _ _ _ _ _ _ _ HR.out (by omega) (by omega) (by omega)).mono ?_
    rintro e w22 ⟨v2, d2, qv2, rfl, h_v2, hd2, hqv2, h2, k2⟩
    have z22 : w12.heap.size ≤ w22.heap.size := k2.size
    replace HO_v := Lib.hid (HO_v.out.kept k2 (by omega) (.inl (by omega)))
    replace HX_r := Lib.hid (HX_r.out.kept k2 (.inr (by omega)))
    replace HX_d := Lib.hid (HX_d.out.kept k2 (.inr (by omega)))
    replace HR := Lib.hid h2
    replace HK := Lib.hid (HK.out.trans k2)
    have HO_v2 := Lib.hid h_v2
    clear h2 k2 h_v2
    obtain ⟨Aw, nw, cw, hvv⟩ : ∃ Av nv cv, v2 = .slice Av nv cv := by obtain ⟨_, Av, nv, cv, e, _⟩ := HO_v2.out; exact ⟨Av, nv, cv, e⟩
    subst hvv
    have hnw : (nw : Int) = 2 + x := by obtain ⟨_, A1, n1, c1, e, o⟩ := HO_v2.out; injection e with e1 e2 e3; subst e2; rw [← hd2, o.len]
    obtain ⟨w23, hW23⟩ : ∃ W, Hid (w22.setCell ⟨w8.heap.size, 0, none⟩ (.slice Aw nw cw) = W) := ⟨_, Lib.hid rfl⟩
    have z23 : w23.heap.size = w22.heap.size := by rw [← hW23.out, World.size_setCell]
    have hk23 : Kept (w8.heap.size) (w8.heap.size + 1) w22 w23 := by rw [← hW23.out]; exact (Kept.refl _ _ _).setCell (p := ⟨w8.heap.size, 0, none⟩) (Nat.le_refl _) (Nat.lt_succ_self _) _
    have hx23 : Bx w23 (w8.heap.size) #[.slice Aw nw cw, .int .i64 y] 52 := by have := HX_d.out.set 0 (.slice Aw nw cw); rw [hW23.out] at this; exact this
    have hr23 := HR.out.move (w' := w23) (hk23.block g HR.out.lt (by omega)) (hk23.to_below (by omega) |>.mono (by have := HR.out.low; omega))
    have hq23 : Kept g (g + 1) w w23 := kept_up HK.out hk23 (by omega)
    replace HO_v := Lib.hid (HO_v.out.kept hk23 (by omega) (by omega))
    replace HO_v2 := Lib.hid (HO_v2.out.kept hk23 (by omega) (by omega))
    replace HX_r := Lib.hid (HX_r.out.kept hk23 (.inl (by omega)))
    have fc24 : w22.cell? ⟨w8.heap.size, 0, none⟩ = some (.slice Av nv cv) := HX_d.out.cell 0
    have fz25 : w22.frozen? ⟨w8.heap.size, 0, none⟩ = false := HX_d.out.free 0
    have fc26 : w22.cell? ⟨w8.heap.size, 1, none⟩ = some (.int .i64 y) := HX_d.out.cell 1
    have fz27 : w22.frozen? ⟨w8.heap.size, 1, none⟩ = false := HX_d.out.free 1
    replace HX_d := Lib.hid hx23
    have HR2 := Lib.hid hr23
    have HK2 := Lib.hid hq23
    replace HR := HR2
    replace HK := HK2
    have e1 : w23.cell? ⟨w8.heap.size, 0, none⟩ = some (.slice Aw nw cw) := HX_d.out.cell 0
    have e2 : w23.cell? ⟨w8.heap.size, 1, none⟩ = some (.int .i64 y) := HX_d.out.cell 1
    have e3 : w23.cell? ⟨w.heap.size, 0, none⟩ = some (.slice none 0 0) := HX_r.out.cell 0
    have e4 : w23.cell? ⟨w.heap.size, 1, none⟩ = some (.int .i64 0) := HX_r.out.cell 1
    have e5 : w23.frozen? ⟨w.heap.size, 0, none⟩ = false := HX_r.out.free 0
    have e6 : w23.frozen? ⟨w.heap.size, 1, none⟩ = false := HX_r.out.free 1
    rw [← hW23.out] at e1 e2 e3 e4 e5 e6
    go_wp2
    rw [hW23.out]
    have hkR : Kept (w.heap.size) (w.heap.size + 1) w23 ((w23.setCell ⟨w.heap.size, 0, none⟩ (.slice Aw nw cw)).setCell ⟨w.heap.size, 1, none⟩ (.int .i64 y)) := ((Kept.refl _ _ _).setCell (p := ⟨w.heap.size, 0, none⟩) (Nat.le_refl _) (Nat.lt_succ_self _) _).setCell (p := ⟨w.heap.size, 1, none⟩) (Nat.le_refl _) (Nat.lt_succ_self _) _
    have hxR := (HX_r.out.set 0 (.slice Aw nw cw)).set 1 (.int .i64 y)
    have hrR := HR.out.move (w' := ((w23.setCell ⟨w.heap.size, 0, none⟩ (.slice Aw nw cw)).setCell ⟨w.heap.size, 1, none⟩ (.int .i64 y))) (hkR.block g HR.out.lt (by omega)) ((hkR.to_below (by omega)).mono (by omega))
    have hqR := kept_up HK.out hkR (Nat.le_refl _)
    have zR : ((w23.setCell ⟨w.heap.size, 0, none⟩ (.slice Aw nw cw)).setCell ⟨w.heap.size, 1, none⟩ (.int .i64 y)).heap.size = w23.heap.size := by rw [World.size_setCell, World.size_setCell]
    exact bodyPost_ret (v := .agg #[.slice Aw nw cw, .int .i64 y]) (resD rfl rfl hxR) rfl ⟨_, _, _, _, d2, _, rfl, ((HO_v2.out).kept hkR (by omega) (by omega)).widen (by omega) (by omega), ⟨by omega, by omega⟩, ⟨by omega, by omega⟩, by omega, hrR, hqR⟩
  by_cases s2 : s = 2
  · subst s2
    have hcv : nv ≤ cv := by obtain ⟨_, A1, n1, c1, e, o⟩ := HO_v.out; injection e with e1 e2 e3; subst e2 e3; exact o.2.1
    have i1 : (1 : Int) ≤ (cv : Int) := by omega
    have HO_u := Lib.hid (HO_v.out.cutS (show 1 ≤ nv by omega) (by omega))
    obtain ⟨w28, hW28⟩ : ∃ W, Hid (w12.setCell ⟨w8.heap.size, 0, none⟩ (.slice Av 1 cv) = W) := ⟨_, Lib.hid rfl⟩
    have z28 : w28.heap.size = w12.heap.size := by rw [← hW28.out, World.size_setCell]
    have hk28 : Kept (w8.heap.size) (w8.heap.size + 1) w12 w28 := by rw [← hW28.out]; exact (Kept.refl _ _ _).setCell (p := ⟨w8.heap.size, 0, none⟩) (Nat.le_refl _) (Nat.lt_succ_self _) _
    have hx28 : Bx w28 (w8.heap.size) #[.slice Av 1 cv, .int .i64 y] 52 := by have := HX_d.out.set 0 (.slice Av 1 cv); rw [hW28.out] at this; exact this
    have hr28 := HR.out.move (w' := w28) (hk28.block g HR.out.lt (by omega)) (hk28.to_below (by omega) |>.mono (by have := HR.out.low; omega))
    have hq28 : Kept g (g + 1) w w28 := kept_up HK.out hk28 (by omega)
    replace HO_v := Lib.hid (HO_v.out.kept hk28 (by omega) (by omega))
    replace HO_u := Lib.hid (HO_u.out.kept hk28 (by omega) (by omega))
    replace HX_r := Lib.hid (HX_r.out.kept hk28 (.inl (by omega)))
    have fc29 : w12.cell? ⟨w8.heap.size, 0, none⟩ = some (.slice Av nv cv) := HX_d.out.cell 0
    have fz30 : w12.frozen? ⟨w8.heap.size, 0, none⟩ = false := HX_d.out.free 0
    have fc31 : w12.cell? ⟨w8.heap.size, 1, none⟩ = some (.int .i64 y) := HX_d.out.cell 1
    have fz32 : w12.frozen? ⟨w8.heap.size, 1, none⟩ = false := HX_d.out.free 1
    replace HX_d := Lib.hid hx28
    have HR2 := Lib.hid hr28
    have HK2 := Lib.hid hq28
    replace HR := HR2
    replace HK := HK2
    have e1 : w28.cell? ⟨w8.heap.size, 0, none⟩ = some (.slice Av 1 cv) := HX_d.out.cell 0
    have e2 : w28.cell? ⟨w8.heap.size, 1, none⟩ = some (.int .i64 y) := HX_d.out.cell 1
    have e3 : w28.cell? ⟨w.heap.size, 0, none⟩ = some (.slice none 0 0) := HX_r.out.cell 0
    have e4 : w28.cell? ⟨w.heap.size, 1, none⟩ = some (.int .i64 0) := HX_r.out.cell 1
    have e5 : w28.frozen? ⟨w.heap.size, 0, none⟩ = false := HX_r.out.free 0
    have e6 : w28.frozen? ⟨w.heap.size, 1, none⟩ = false := HX_r.out.free 1
    rw [← hW28.out] at e1 e2 e3 e4 e5 e6
    go_wp2
    rw [hW28.out]
    have hkR : Kept (w.heap.size) (w.heap.size + 1) w28 ((w28.setCell ⟨w.heap.size, 0, none⟩ (.slice Av 1 cv)).setCell ⟨w.heap.size, 1, none⟩ (.int .i64 y)) := ((Kept.refl _ _ _).setCell (p := ⟨w.heap.size, 0, none⟩) (Nat.le_refl _) (Nat.lt_succ_self _) _).setCell (p := ⟨w.heap.size, 1, none⟩) (Nat.le_refl _) (Nat.lt_succ_self _) _
    have hxR := (HX_r.out.set 0 (.slice Av 1 cv)).set 1 (.int .i64 y)
    have hrR := HR.out.move (w' := ((w28.setCell ⟨w.heap.size, 0, none⟩ (.slice Av 1 cv)).setCell ⟨w.heap.size, 1, none⟩ (.int .i64 y))) (hkR.block g HR.out.lt (by omega)) ((hkR.to_below (by omega)).mono (by omega))
    have hqR := kept_up HK.out hkR (Nat.le_refl _)
    have zR : ((w28.setCell ⟨w.heap.size, 0, none⟩ (.slice Av 1 cv)).setCell ⟨w.heap.size, 1, none⟩ (.int .i64 y)).heap.size = w28.heap.size := by rw [World.size_setCell, World.size_setCell]
    exact bodyPost_ret (v := .agg #[.slice Av 1 cv, .int .i64 y]) (resD rfl rfl hxR) rfl ⟨_, _, _, _, (d.take 1), _, rfl, ((HO_u.out).kept hkR (by omega) (by omega)).widen (by omega) (by omega), ⟨by omega, by omega⟩, ⟨by omega, by omega⟩, by omega, hrR, hqR⟩
  have b0 : (s == 0) = false := by rw [beq_eq_false_iff_ne]; exact s0
  have b1 : (s == 1) = false := by rw [beq_eq_false_iff_ne]; exact s1
  have b2 : (s == 2) = false := by rw [beq_eq_false_iff_ne]; exact s2
  have fc33 : w12.cell? ⟨w.heap.size, 0, none⟩ = some (.slice none 0 0) := HX_r.out.cell 0
  have fz34 : w12.frozen? ⟨w.heap.size, 0, none⟩ = false := HX_r.out.free 0
  have fc35 : w12.cell? ⟨w.heap.size, 1, none⟩ = some (.int .i64 0) := HX_r.out.cell 1
  have fz36 : w12.frozen? ⟨w.heap.size, 1, none⟩ = false := HX_r.out.free 1
  have fc37 : w12.cell? ⟨w8.heap.size, 0, none⟩ = some (.slice Av nv cv) := HX_d.out.cell 0
  have fz38 : w12.frozen? ⟨w8.heap.size, 0, none⟩ = false := HX_d.out.free 0
  have fc39 : w12.cell? ⟨w8.heap.size, 1, none⟩ = some (.int .i64 y) := HX_d.out.cell 1
  have fz40 : w12.frozen? ⟨w8.heap.size, 1, none⟩ = false := HX_d.out.free 1
  go_wp2
  have hkR : Kept (w.heap.size) (w.heap.size + 1) w12 ((w12.setCell ⟨w.heap.size, 0, none⟩ (.slice Av nv cv)).setCell ⟨w.heap.size, 1, none⟩ (.int .i64 y)) := ((Kept.refl _ _ _).setCell (p := ⟨w.heap.size, 0, none⟩) (Nat.le_refl _) (Nat.lt_succ_self _) _).setCell (p := ⟨w.heap.size, 1, none⟩) (Nat.le_refl _) (Nat.lt_succ_self _) _
  have hxR := (HX_r.out.set 0 (.slice Av nv cv)).set 1 (.int .i64 y)
  have hrR := HR.out.move (w' := ((w12.setCell ⟨w.heap.size, 0, none⟩ (.slice Av nv cv)).setCell ⟨w.heap.size, 1, none⟩ (.int .i64 y))) (hkR.block g HR.out.lt (by omega)) ((hkR.to_below (by omega)).mono (by omega))
  have hqR := kept_up HK.out hkR (Nat.le_refl _)
  have zR : ((w12.setCell ⟨w.heap.size, 0, none⟩ (.slice Av nv cv)).setCell ⟨w.heap.size, 1, none⟩ (.int .i64 y)).heap.size = w12.heap.size := by rw [World.size_setCell, World.size_setCell]
  exact bodyPost_ret (v := .agg #[.slice Av nv cv, .int .i64 y]) (resD rfl rfl hxR) rfl ⟨_, _, _, _, d, _, rfl, ((HO_v.out).kept hkR (by omega) (by omega)).widen (by omega) (by omega), ⟨by omega, by omega⟩, ⟨by omega, by omega⟩, by omega, hrR, hqR⟩

theorem resD4 {fn : Func} {t u v x : Tmp} {tmps : Array Value} {w : World} {g : Nat} {a b p q r : Value} (h : fn.results = #[.cell t 52, .tmp u, .tmp v, .tmp x]) (ht : tmps.getD t undef = .pointer (some ⟨g, 0, none⟩)) (hu : tmps.getD u undef = p) (hv : tmps.getD v undef = q) (hx : tmps.getD x undef = r) (hb : Bx w g #[a, b] 52) :
    (results fn tmps).run Try.prog w = .ok (.tuple #[.agg #[a, b], p, q, r]) w := by
  have hr : w.rangeAt g 0 [a, b] := fun j v hv => by
    rw [Nat.zero_add, cell_of_row w g j _ _ (0, 0) hb]; simpa using hv
  have := run_loadVar_mid (P := Try.prog) w g 0 52 [a, b] _ hr Try.underlying52 rfl infoD
  have ht2 : tmps[t]?.getD undef = .pointer (some ⟨g, 0, none⟩) := by rw [← ht]; simp
  subst hu
  subst hv
  subst hx
  simp [results, h, ht2, this, asAddr]
set_option maxHeartbeats 4000000 in
theorem d_l92Masks (g hi p : Nat) (A : Option Addr) (n c : Nat) (bs : List Int) (w : World) (h : Rdr w g hi p A n c bs) (hp : p < 700000) :
    Calls Try.prog 93 #[.pointer (some ⟨g, 0, none⟩)] w fun e w' => ∃ Am nm cm pl d k va a vb b q, e = .returned (.tuple #[.agg #[.slice Am nm cm, .int .i64 pl], .int .i64 k, va, vb]) ∧ OwIntS w' w.heap.size w'.heap.size (.slice Am nm cm) d ∧ OwIntS w' w.heap.size w'.heap.size va a ∧ OwIntS w' w.heap.size w'.heap.size vb b ∧ (a.length = d.length ∧ numsB a = true) ∧ q ≤ p + 3000 ∧ Rdr w' g hi q A n c bs ∧ Kept g (g + 1) w w' := by
  have hgw : g < w.heap.size := h.lt
  have hig : hi ≤ g := h.low
  have HR := Lib.hid h
  have HK := Lib.hid (Kept.refl g (g + 1) w)
  clear h
  go_enter Try.func93, Try.ntmps93
  go_wp2_with fail
  obtain ⟨w1, hW1⟩ : ∃ W, Hid (w.alloc (.cells #[.slice none 0 0, .int .i64 0] 52) = W) := ⟨_, Lib.hid rfl⟩
  try rw [hW1.out]
  have z1 : w.heap.size < w1.heap.size := by rw [← hW1.out, World.size_alloc]; omega
  have ha1 : Below w.heap.size w w1 := by rw [← hW1.out]; exact (Below.refl _ _).alloc (Nat.le_refl _) _
  have HX_r : Hid (Bx w1 w.heap.size #[.slice none 0 0, .int .i64 0] 52) := Lib.hid (by rw [← hW1.out]; exact Bx.new _ _ _)
  have hr_ := HR.out.alloc (.cells #[.slice none 0 0, .int .i64 0] 52)
  have hk_ := HK.out.trans (kept_alloc g (g + 1) w (.cells #[.slice none 0 0, .int .i64 0] 52))
  rw [hW1.out] at hr_ hk_
  replace HR := Lib.hid hr_
  replace HK := Lib.hid hk_
  clear ha1 hW1 hr_ hk_
  refine (d_l92Deal _ _ _ _ _ _ _ _ HR.out (by omega)).mono ?_
  rintro e w2 ⟨Am, nm, cm, pl, d, qd, rfl, h_d, ⟨nm1, nm10⟩, ⟨pl0, pl1⟩, hqd, h2, k2⟩
  have z2 : w1.heap.size ≤ w2.heap.size := k2.size
  replace HX_r := Lib.hid (HX_r.out.kept k2 (.inr (by omega)))
  replace HR := Lib.hid h2
  replace HK := Lib.hid (HK.out.trans k2)
  have HO_d := Lib.hid h_d
  clear h2 k2 h_d
  have hdl : d.length = nm := by obtain ⟨_, A1, n1, c1, e, o⟩ := HO_d.out; injection e with e1 e2 e3; subst e2; exact o.len
  have fc3 : (w2.alloc (.cells #[.slice Am nm cm, .int .i64 pl] 52)).cell? ⟨w.heap.size, 0, none⟩ = some (.slice none 0 0) := (HX_r.out.alloc _).cell 0
  have fc4 : (w2.alloc (.cells #[.slice Am nm cm, .int .i64 pl] 52)).cell? ⟨w.heap.size, 1, none⟩ = some (.int .i64 0) := (HX_r.out.alloc _).cell 1
  go_wp2_with fail
  clear fc3 fc4
  obtain ⟨w5, hW5⟩ : ∃ W, Hid (w2.alloc (.cells #[.slice Am nm cm, .int .i64 pl] 52) = W) := ⟨_, Lib.hid rfl⟩
  try rw [hW5.out]
  have z5 : w2.heap.size < w5.heap.size := by rw [← hW5.out, World.size_alloc]; omega
  have ha5 : Below w2.heap.size w2 w5 := by rw [← hW5.out]; exact (Below.refl _ _).alloc (Nat.le_refl _) _
  replace HO_d := Lib.hid (HO_d.out.below ha5 (by omega))
  replace HX_r := Lib.hid (HX_r.out.below ha5 HX_r.out.lt)
  have HX_v : Hid (Bx w5 w2.heap.size #[.slice Am nm cm, .int .i64 pl] 52) := Lib.hid (by rw [← hW5.out]; exact Bx.new _ _ _)
  have hr_ := HR.out.alloc (.cells #[.slice Am nm cm, .int .i64 pl] 52)
  have hk_ := HK.out.trans (kept_alloc g (g + 1) w2 (.cells #[.slice Am nm cm, .int .i64 pl] 52))
  rw [hW5.out] at hr_ hk_
  replace HR := Lib.hid hr_
  replace HK := Lib.hid hk_
  clear ha5 hW5 hr_ hk_
  refine (d_l91GoodL _ _ _ _ _ _ _ _ _ HR.out (by omega) (by omega) (by omega)).mono ?_
  rintro e w6 ⟨va, a, qa, rfl, h_a, ⟨hal, han⟩, hqa, h2, k2⟩
  have z6 : w5.heap.size ≤ w6.heap.size := k2.size
  replace HO_d := Lib.hid (HO_d.out.kept k2 (by omega) (.inl (by omega)))
  replace HX_r := Lib.hid (HX_r.out.kept k2 (.inr (by omega)))
  replace HX_v := Lib.hid (HX_v.out.kept k2 (.inr (by omega)))
  replace HR := Lib.hid h2
  replace HK := Lib.hid (HK.out.trans k2)
  have HO_a := Lib.hid h_a
  clear h2 k2 h_a
  have fc7 : w6.cell? ⟨w.heap.size, 0, none⟩ = some (.slice none 0 0) := HX_r.out.cell 0
  have fc8 : w6.cell? ⟨w.heap.size, 1, none⟩ = some (.int .i64 0) := HX_r.out.cell 1
  have fc9 : w6.cell? ⟨w2.heap.size, 0, none⟩ = some (.slice Am nm cm) := HX_v.out.cell 0
  have fc10 : w6.cell? ⟨w2.heap.size, 1, none⟩ = some (.int .i64 pl) := HX_v.out.cell 1
  go_wp2_with fail
  clear fc7 fc8 fc9 fc10
  refine (d_l91GoodL _ _ _ _ _ _ _ _ _ HR.out (by omega) (by omega) (by omega)).mono ?_
  rintro e w11 ⟨vb, b, qb, rfl, h_b, ⟨hbl, _⟩, hqb, h2, k2⟩
  have z11 : w6.heap.size ≤ w11.heap.size := k2.size
  replace HO_d := Lib.hid (HO_d.out.kept k2 (by omega) (.inl (by omega)))
  replace HO_a := Lib.hid (HO_a.out.kept k2 (by omega) (.inl (by omega)))
  replace HX_r := Lib.hid (HX_r.out.kept k2 (.inr (by omega)))
  replace HX_v := Lib.hid (HX_v.out.kept k2 (.inr (by omega)))
  replace HR := Lib.hid h2
  replace HK := Lib.hid (HK.out.trans k2)
  have HO_b := Lib.hid h_b
  clear h2 k2 h_b
  have fc12 : w11.cell? ⟨w.heap.size, 0, none⟩ = some (.slice none 0 0) := HX_r.out.cell 0
  have fc13 : w11.cell? ⟨w.heap.size, 1, none⟩ = some (.int .i64 0) := HX_r.out.cell 1
  have fc14 : w11.cell? ⟨w2.heap.size, 0, none⟩ = some (.slice Am nm cm) := HX_v.out.cell 0
  have fc15 : w11.cell? ⟨w2.heap.size, 1, none⟩ = some (.int .i64 pl) := HX_v.out.cell 1
  go_wp2_with fail
  clear fc12 fc13 fc14 fc15
  refine (d_pick _ _ _ _ _ _ _ _ _ HR.out (by omega) (by omega) (by omega)).mono ?_
  rintro e w16 ⟨k0, rfl, k00, k01, h2, k2⟩
  have z16 : w11.heap.size ≤ w16.heap.size := k2.size
  replace HO_d := Lib.hid (HO_d.out.kept k2 (by omega) (.inl (by omega)))
  replace HO_a := Lib.hid (HO_a.out.kept k2 (by omega) (.inl (by omega)))
  replace HO_b := Lib.hid (HO_b.out.kept k2 (by omega) (.inl (by omega)))
  replace HX_r := Lib.hid (HX_r.out.kept k2 (.inr (by omega)))
  replace HX_v := Lib.hid (HX_v.out.kept k2 (.inr (by omega)))
  replace HR := Lib.hid h2
  replace HK := Lib.hid (HK.out.trans k2)
  clear h2 k2
  obtain ⟨k, rfl⟩ := Int.eq_ofNat_of_zero_le k00
  have fc17 : w16.cell? ⟨w.heap.size, 0, none⟩ = some (.slice none 0 0) := HX_r.out.cell 0
  have fc18 : w16.cell? ⟨w.heap.size, 1, none⟩ = some (.int .i64 0) := HX_r.out.cell 1
  have fc19 : w16.cell? ⟨w2.heap.size, 0, none⟩ = some (.slice Am nm cm) := HX_v.out.cell 0
  have fc20 : w16.cell? ⟨w2.heap.size, 1, none⟩ = some (.int .i64 pl) := HX_v.out.cell 1
  go_wp2_with fail
  clear fc17 fc18 fc19 fc20
  refine (d_pick _ _ _ _ _ _ _ _ _ HR.out (by omega) (by omega) (by omega)).mono ?_
  rintro e w21 ⟨s, rfl, sl, sh, h2, k2⟩
  have z21 : w16.heap.size ≤ w21.heap.size := k2.size
  replace HO_d := Lib.hid (HO_d.out.kept k2 (by omega) (.inl (by omega)))
  replace HO_a := Lib.hid (HO_a.out.kept k2 (by omega) (.inl (by omega)))
  replace HO_b := Lib.hid (HO_b.out.kept k2 (by omega) (.inl (by omega)))
  replace HX_r := Lib.hid (HX_r.out.kept k2 (.inr (by omega)))
  replace HX_v := Lib.hid (HX_v.out.kept k2 (.inr (by omega)))
  replace HR := Lib.hid h2
  replace HK := Lib.hid (HK.out.trans k2)
  clear h2 k2
  by_cases s0 : 0 < s
  · obtain ⟨_, Ab, nb, cb, e, ob⟩ := HO_b.out
    subst e
    have hnb := ob.len
    obtain ⟨gb, csb, hAb, gb0, gb1, _, _⟩ := ob.lt (by omega)
    subst hAb
    obtain ⟨yb, hcb, _⟩ := ob.intAt (show k < nb by omega)
    have hfb := ob.free (by omega) k
    obtain ⟨_, Aa, na, ca, e, oa⟩ := HO_a.out
    subst e
    have hna := oa.len
    obtain ⟨aa, xa, hAa, haa, hca, _⟩ := oa.rd.intAt (show k < na by omega)
    subst hAa
    have i0 : (0 : Int) ≤ (k : Int) := by omega
    have i1 : (k : Int) < (na : Int) := by omega
    have i2 : (k : Int) < (nb : Int) := by omega
    obtain ⟨W2, hW2⟩ : ∃ W2, Hid (w21.setCell ⟨gb, k, none⟩ (.int .i64 xa) = W2) := ⟨_, Lib.hid rfl⟩
    have zz : W2.heap.size = w21.heap.size := by rw [← hW2.out, World.size_setCell]
    have hkB : Kept gb (gb + 1) w21 W2 := by rw [← hW2.out]; exact (Kept.refl _ _ _).setCell (p := ⟨gb, k, none⟩) (Nat.le_refl _) (Nat.lt_succ_self _) _
    have ob2 := ob.set k (.int .i64 xa)
    rw [cI_set, hW2.out] at ob2
    replace HO_b := Lib.hid (show OwIntS W2 _ _ _ (b.set k xa) from ⟨by rw [List.length_set]; omega, _, nb, cb, rfl, ob2⟩)
    replace HO_a := Lib.hid (HO_a.out.kept hkB (by omega) (by omega))
    replace HO_d := Lib.hid (HO_d.out.kept hkB (by omega) (by omega))
    have hr_ := HR.out.move (w' := W2) (hkB.block g HR.out.lt (by omega)) ((hkB.to_below (by omega)).mono (by omega))
    have hk_ := kept_up HK.out hkB (by omega)
    replace HR := Lib.hid hr_
    replace HK := Lib.hid hk_
    clear ob ob2 oa hr_ hk_
    replace HX_r := Lib.hid (HX_r.out.kept hkB (by omega))
    replace HX_v := Lib.hid (HX_v.out.kept hkB (by omega))
    have e1 : W2.cell? ⟨w2.heap.size, 0, none⟩ = some (.slice Am nm cm) := HX_v.out.cell 0
    have e2 : W2.cell? ⟨w2.heap.size, 1, none⟩ = some (.int .i64 pl) := HX_v.out.cell 1
    have e3 : W2.cell? ⟨w.heap.size, 0, none⟩ = some (.slice none 0 0) := HX_r.out.cell 0
    have e4 : W2.cell? ⟨w.heap.size, 1, none⟩ = some (.int .i64 0) := HX_r.out.cell 1
    have e5 : W2.frozen? ⟨w.heap.size, 0, none⟩ = false := HX_r.out.free 0
    have e6 : W2.frozen? ⟨w.heap.size, 1, none⟩ = false := HX_r.out.free 1
    rw [← hW2.out] at e1 e2 e3 e4 e5 e6
    go_wp2
    rw [hW2.out]
    have hkR : Kept (w.heap.size) (w.heap.size + 1) W2 ((W2.setCell ⟨w.heap.size, 0, none⟩ (.slice Am nm cm)).setCell ⟨w.heap.size, 1, none⟩ (.int .i64 pl)) := ((Kept.refl _ _ _).setCell (p := ⟨w.heap.size, 0, none⟩) (Nat.le_refl _) (Nat.lt_succ_self _) _).setCell (p := ⟨w.heap.size, 1, none⟩) (Nat.le_refl _) (Nat.lt_succ_self _) _
    have hxR := (HX_r.out.set 0 (.slice Am nm cm)).set 1 (.int .i64 pl)
    have hrR := HR.out.move (w' := ((W2.setCell ⟨w.heap.size, 0, none⟩ (.slice Am nm cm)).setCell ⟨w.heap.size, 1, none⟩ (.int .i64 pl))) (hkR.block g HR.out.lt (by omega)) ((hkR.to_below (by omega)).mono (by omega))
    have hqR := kept_up HK.out hkR (Nat.le_refl _)
    have zR : ((W2.setCell ⟨w.heap.size, 0, none⟩ (.slice Am nm cm)).setCell ⟨w.heap.size, 1, none⟩ (.int .i64 pl)).heap.size = W2.heap.size := by rw [World.size_setCell, World.size_setCell]
    exact bodyPost_ret (v := .tuple #[.agg #[.slice Am nm cm, .int .i64 pl], .int .i64 k, .slice (some aa) na ca, .slice (some ⟨gb, 0, none⟩) nb cb]) (resD4 rfl rfl rfl rfl rfl hxR) rfl ⟨_, _, _, _, d, _, _, a, _, (b.set k xa), _, rfl, (HO_d.out.kept hkR (by omega) (by omega)).widen (by omega) (by omega), (HO_a.out.kept hkR (by omega) (by omega)).widen (by omega) (by omega), (HO_b.out.kept hkR (by omega) (by omega)).widen (by omega) (by omega), ⟨by omega, han⟩, by omega, hrR, hqR⟩
  have fc22 : w21.cell? ⟨w.heap.size, 0, none⟩ = some (.slice none 0 0) := HX_r.out.cell 0
  have fz23 : w21.frozen? ⟨w.heap.size, 0, none⟩ = false := HX_r.out.free 0
  have fc24 : w21.cell? ⟨w.heap.size, 1, none⟩ = some (.int .i64 0) := HX_r.out.cell 1
  have fz25 : w21.frozen? ⟨w.heap.size, 1, none⟩ = false := HX_r.out.free 1
  have fc26 : w21.cell? ⟨w2.heap.size, 0, none⟩ = some (.slice Am nm cm) := HX_v.out.cell 0
  have fz27 : w21.frozen? ⟨w2.heap.size, 0, none⟩ = false := HX_v.out.free 0
  have fc28 : w21.cell? ⟨w2.heap.size, 1, none⟩ = some (.int .i64 pl) := HX_v.out.cell 1
  have fz29 : w21.frozen? ⟨w2.heap.size, 1, none⟩ = false := HX_v.out.free 1
  go_wp2
  have hkR : Kept (w.heap.size) (w.heap.size + 1) w21 ((w21.setCell ⟨w.heap.size, 0, none⟩ (.slice Am nm cm)).setCell ⟨w.heap.size, 1, none⟩ (.int .i64 pl)) := ((Kept.refl _ _ _).setCell (p := ⟨w.heap.size, 0, none⟩) (Nat.le_refl _) (Nat.lt_succ_self _) _).setCell (p := ⟨w.heap.size, 1, none⟩) (Nat.le_refl _) (Nat.lt_succ_self _) _
  have hxR := (HX_r.out.set 0 (.slice Am nm cm)).set 1 (.int .i64 pl)
  have hrR := HR.out.move (w' := ((w21.setCell ⟨w.heap.size, 0, none⟩ (.slice Am nm cm)).setCell ⟨w.heap.size, 1, none⟩ (.int .i64 pl))) (hkR.block g HR.out.lt (by omega)) ((hkR.to_below (by omega)).mono (by omega))
  have hqR := kept_up HK.out hkR (Nat.le_refl _)
  have zR : ((w21.setCell ⟨w.heap.size, 0, none⟩ (.slice Am nm cm)).setCell ⟨w.heap.size, 1, none⟩ (.int .i64 pl)).heap.size = w21.heap.size := by rw [World.size_setCell, World.size_setCell]
  exact bodyPost_ret (v := .tuple #[.agg #[.slice Am nm cm, .int .i64 pl], .int .i64 k, va, vb]) (resD4 rfl rfl rfl rfl rfl hxR) rfl ⟨_, _, _, _, d, _, _, a, _, b, _, rfl, (HO_d.out.kept hkR (by omega) (by omega)).widen (by omega) (by omega), (HO_a.out.kept hkR (by omega) (by omega)).widen (by omega) (by omega), (HO_b.out.kept hkR (by omega) (by omega)).widen (by omega) (by omega), ⟨by omega, han⟩, by omega, hrR, hqR⟩

set_option maxHeartbeats 2000000 in
theorem d_DrawChoiceMasks (A : Option Addr) (n c : Nat) (bs : List Int) (w : World) (h : Rd w w.heap.size 1 A n (cU bs)) (hb : Byt bs) (hn : n ≤ 1048576) (hc : n ≤ c) :
    Calls Try.prog 39 #[.slice A n c] w fun e w' => ∃ Am nm cm pl d k va a vb, e = .returned (.tuple #[.agg #[.slice Am nm cm, .int .i64 pl], .int .i64 k, va, vb]) ∧ OwIntS w' w.heap.size w'.heap.size (.slice Am nm cm) d ∧ OwIntS w' w.heap.size w'.heap.size va a ∧ (a.length = d.length ∧ numsB a = true) ∧ Below w.heap.size w w' := by
  obtain ⟨w0, hw0⟩ : ∃ w0, Hid (w.alloc (.cells #[.slice none 0 0, .int .i64 0] 52) = w0) := ⟨_, Lib.hid rfl⟩
  have B0 : Hid (Below w.heap.size w w0) := Lib.hid (by rw [← hw0.out]; exact (Below.refl _ _).alloc (Nat.le_refl _) _)
  have hz0 : w.heap.size < w0.heap.size := by rw [← hw0.out, World.size_alloc]; omega
  have H : Hid (Rd w0 w0.heap.size 1 A n (cU bs)) := Lib.hid ((h.below B0.out).more (by omega))
  have HX : Hid (Bx w0 w.heap.size #[.slice none 0 0, .int .i64 0] 52) := Lib.hid (by rw [← hw0.out]; exact Bx.new _ _ _)
  clear h
  go_enter Try.func39, Try.ntmps39
  go_wp2_with fail
  rw [hw0.out]
  refine (d_l6Open _ _ _ _ _ H.out hb hn hc).mono ?_
  rintro e w1 ⟨rfl, ⟨A', n', c', bs', h1⟩, hb1⟩
  have H1 := Lib.hid h1
  have z1 := hb1.size
  have HX1 := Lib.hid (HX.out.below hb1 (by omega))
  have B1 := Lib.hid (B0.out.trans (hb1.mono (by omega)))
  clear h1 hb1
  have f0 : w1.cell? ⟨w.heap.size, 0, none⟩ = some (.slice none 0 0) := HX1.out.cell 0
  have f1 : w1.cell? ⟨w.heap.size, 1, none⟩ = some (.int .i64 0) := HX1.out.cell 1
  go_wp2_with fail
  clear f0 f1
  refine (d_l92Masks _ _ _ _ _ _ _ _ H1.out (by omega)).mono ?_
  rintro e w2 ⟨Am, nm, cm, pl, d, k, va, a, vb, b, q, rfl, hod, hoa, hob, hab, hq, h2, k2⟩
  have z2 := k2.size
  have HX2 := Lib.hid (HX1.out.kept k2 (.inl (by omega)))
  have B2 : Hid (Below w.heap.size w w2) := Lib.hid (B1.out.trans ((k2.to_below (by omega)).mono (by omega)))
  have HOD := Lib.hid hod
  have HOA := Lib.hid hoa
  clear hod hoa hob h2 k2
  have r0 : w2.cell? ⟨w.heap.size, 0, none⟩ = some (.slice none 0 0) := HX2.out.cell 0
  have r1 : w2.cell? ⟨w.heap.size, 1, none⟩ = some (.int .i64 0) := HX2.out.cell 1
  have q0 : w2.frozen? ⟨w.heap.size, 0, none⟩ = false := HX2.out.free 0
  have q1 : w2.frozen? ⟨w.heap.size, 1, none⟩ = false := HX2.out.free 1
  go_wp2
  have hkR : Kept w.heap.size (w.heap.size + 1) w2 ((w2.setCell ⟨w.heap.size, 0, none⟩ (.slice Am nm cm)).setCell ⟨w.heap.size, 1, none⟩ (.int .i64 pl)) := ((Kept.refl _ _ _).setCell (p := ⟨w.heap.size, 0, none⟩) (Nat.le_refl _) (Nat.lt_succ_self _) _).setCell (p := ⟨w.heap.size, 1, none⟩) (Nat.le_refl _) (Nat.lt_succ_self _) _
  have hxR := (HX2.out.set 0 (.slice Am nm cm)).set 1 (.int .i64 pl)
  have zR : ((w2.setCell ⟨w.heap.size, 0, none⟩ (.slice Am nm cm)).setCell ⟨w.heap.size, 1, none⟩ (.int .i64 pl)).heap.size = w2.heap.size := by rw [World.size_setCell, World.size_setCell]
  exact bodyPost_ret (v := .tuple #[.agg #[.slice Am nm cm, .int .i64 pl], .int .i64 k, va, vb]) (resD4 rfl rfl rfl rfl rfl hxR) rfl ⟨_, _, _, _, d, _, _, a, _, rfl, (HOD.out.kept hkR (by omega) (by omega)).widen (by omega) (by omega), (HOA.out.kept hkR (by omega) (by omega)).widen (by omega) (by omega), hab, B2.out.trans ((hkR.to_below (by omega)).mono (by omega))⟩
end Go.Proofs.Ytpejigfndkdhcaa
