/- Chapter 13: an access, as the plain laws draw it. Made by tools/plain/d13.py. -/
import Derived.Test.YtlajhgnlllelfaaDraw14
import Derived.Test.YtlajhgnlllelfaaFAccess
import Derived.Test.YtlajhgnlllelfaaBx
import Derived.Deep.MidRow
namespace Go.Proofs.Ytlajhgnlllelfaa
open Go.RowKit
set_option maxRecDepth 100000

theorem kept_upA {w w1 w2 : World} {g B : Nat} (h : Kept g (g + 1) w w1) (k : Kept B (B + 1) w1 w2) (hB : w.heap.size ≤ B) : Kept g (g + 1) w w2 :=
  ⟨k.os.trans h.os, k.tape.trans h.tape, k.output.trans h.output, Nat.le_trans h.size k.size, fun i hi hn => (k.block i (Nat.lt_of_lt_of_le hi h.size) (by omega)).trans (h.block i hi hn)⟩
theorem infoA : (Try.prog.info? 47).map (·.size) = some 3 := by kernel_rfl
theorem resA {fn : Func} {t : Tmp} {tmps : Array Value} {w : World} {g : Nat} {a b c : Value} (h : fn.results = #[.cell t 47]) (ht : tmps.getD t undef = .pointer (some ⟨g, 0, none⟩)) (hb : Bx w g #[a, b, c] 47) :
    (results fn tmps).run Try.prog w = .ok (.agg #[a, b, c]) w := by
  have hr : w.rangeAt g 0 [a, b, c] := fun j v hv => by
    rw [Nat.zero_add, cell_of_row w g j _ _ (0, 0) hb]; simpa using hv
  have := run_loadVar_mid (P := Try.prog) w g 0 47 [a, b, c] _ hr Try.underlying47 rfl infoA
  have ht2 : tmps[t]?.getD undef = .pointer (some ⟨g, 0, none⟩) := by rw [← ht]; simp
  simp [results, h, ht2, this, asAddr]
theorem kept_set3 {w : World} {B : Nat} (a b c : Value) : Kept B (B + 1) w (((w.setCell ⟨B, 0, none⟩ a).setCell ⟨B, 1, none⟩ b).setCell ⟨B, 2, none⟩ c) :=
  (((Kept.refl _ _ _).setCell (p := ⟨B, 0, none⟩) (Nat.le_refl _) (Nat.lt_succ_self _) _).setCell (p := ⟨B, 1, none⟩) (Nat.le_refl _) (Nat.lt_succ_self _) _).setCell (p := ⟨B, 2, none⟩) (Nat.le_refl _) (Nat.lt_succ_self _) _
set_option maxHeartbeats 8000000 in
theorem d_l92Access (g hi p : Nat) (A : Option Addr) (n c : Nat) (bs : List Int) (w : World) (h : Rdr w g hi p A n c bs) (hp : p < 900000) :
    Calls Try.prog 86 #[.pointer (some ⟨g, 0, none⟩)] w fun e w' => ∃ b z v q, e = .returned (.agg #[.bool b, .int .i64 z, .int .i64 v]) ∧ q ≤ p + 10 ∧ Rdr w' g hi q A n c bs ∧ Kept g (g + 1) w w' := by
  have hgw : g < w.heap.size := h.lt
  have hig : hi ≤ g := h.low
  have HR := Lib.hid h
  have HK := Lib.hid (Kept.refl g (g + 1) w)
  clear h
  go_enter Try.func86, Try.ntmps86
  go_wp2_with fail
  obtain ⟨w1, hW1⟩ : ∃ W, Hid (w.alloc (.cells #[.bool false, .int .i64 0, .int .i64 0] 47) = W) := ⟨_, Lib.hid rfl⟩
  try rw [hW1.out]
  have z1 : w.heap.size < w1.heap.size := by rw [← hW1.out, World.size_alloc]; omega
  have ha1 : Below w.heap.size w w1 := by rw [← hW1.out]; exact (Below.refl _ _).alloc (Nat.le_refl _) _
  have HX_r : Hid (Bx w1 w.heap.size #[.bool false, .int .i64 0, .int .i64 0] 47) := Lib.hid (by rw [← hW1.out]; exact Bx.new _ _ _)
  have hr_ := HR.out.alloc (.cells #[.bool false, .int .i64 0, .int .i64 0] 47)
  have hk_ := HK.out.trans (kept_alloc g (g + 1) w (.cells #[.bool false, .int .i64 0, .int .i64 0] 47))
  rw [hW1.out] at hr_ hk_
  replace HR := Lib.hid hr_
  replace HK := Lib.hid hk_
  clear ha1 hW1 hr_ hk_
  refine (d_pick _ _ _ _ _ _ _ _ _ HR.out (by omega) (by omega) (by omega)).mono ?_
  rintro e w2 ⟨z, rfl, zl, zh, h2, k2⟩
  have z2 : w1.heap.size ≤ w2.heap.size := k2.size
  replace HX_r := Lib.hid (HX_r.out.kept k2 (.inr (by omega)))
  replace HR := Lib.hid h2
  replace HK := Lib.hid (HK.out.trans k2)
  clear h2 k2
  have fc3 : (w2.alloc (.cells #[.bool false, .int .i64 z, .int .i64 0] 47)).cell? ⟨w.heap.size, 0, none⟩ = some (.bool false) := (HX_r.out.alloc _).cell 0
  have fc4 : (w2.alloc (.cells #[.bool false, .int .i64 z, .int .i64 0] 47)).cell? ⟨w.heap.size, 1, none⟩ = some (.int .i64 0) := (HX_r.out.alloc _).cell 1
  have fc5 : (w2.alloc (.cells #[.bool false, .int .i64 z, .int .i64 0] 47)).cell? ⟨w.heap.size, 2, none⟩ = some (.int .i64 0) := (HX_r.out.alloc _).cell 2
  go_wp2_with fail
  clear fc3 fc4 fc5
  obtain ⟨w6, hW6⟩ : ∃ W, Hid (w2.alloc (.cells #[.bool false, .int .i64 z, .int .i64 0] 47) = W) := ⟨_, Lib.hid rfl⟩
  try rw [hW6.out]
  have z6 : w2.heap.size < w6.heap.size := by rw [← hW6.out, World.size_alloc]; omega
  have ha6 : Below w2.heap.size w2 w6 := by rw [← hW6.out]; exact (Below.refl _ _).alloc (Nat.le_refl _) _
  replace HX_r := Lib.hid (HX_r.out.below ha6 HX_r.out.lt)
  have HX_a : Hid (Bx w6 w2.heap.size #[.bool false, .int .i64 z, .int .i64 0] 47) := Lib.hid (by rw [← hW6.out]; exact Bx.new _ _ _)
  have hr_ := HR.out.alloc (.cells #[.bool false, .int .i64 z, .int .i64 0] 47)
  have hk_ := HK.out.trans (kept_alloc g (g + 1) w2 (.cells #[.bool false, .int .i64 z, .int .i64 0] 47))
  rw [hW6.out] at hr_ hk_
  replace HR := Lib.hid hr_
  replace HK := Lib.hid hk_
  clear ha6 hW6 hr_ hk_
  refine (d_pick _ _ _ _ _ _ _ _ _ HR.out (by omega) (by omega) (by omega)).mono ?_
  rintro e w7 ⟨y, rfl, yl, yh, h2, k2⟩
  have z7 : w6.heap.size ≤ w7.heap.size := k2.size
  replace HX_r := Lib.hid (HX_r.out.kept k2 (.inr (by omega)))
  replace HX_a := Lib.hid (HX_a.out.kept k2 (.inr (by omega)))
  replace HR := Lib.hid h2
  replace HK := Lib.hid (HK.out.trans k2)
  clear h2 k2
  by_cases y0 : y = 0
  · subst y0
    obtain ⟨w8, hW8⟩ : ∃ W, Hid (w7.setCell ⟨w2.heap.size, 0, none⟩ (.bool true) = W) := ⟨_, Lib.hid rfl⟩
    have z8 : w8.heap.size = w7.heap.size := by rw [← hW8.out, World.size_setCell]
    have hk8 : Kept (w2.heap.size) (w2.heap.size + 1) w7 w8 := by rw [← hW8.out]; exact (Kept.refl _ _ _).setCell (p := ⟨w2.heap.size, 0, none⟩) (Nat.le_refl _) (Nat.lt_succ_self _) _
    have hx8 : Bx w8 (w2.heap.size) #[.bool true, .int .i64 z, .int .i64 0] 47 := by have := HX_a.out.set 0 (.bool true); rw [hW8.out] at this; exact this
    have hr8 := HR.out.move (w' := w8) (hk8.block g HR.out.lt (by omega)) (hk8.to_below (by omega) |>.mono (by have := HR.out.low; omega))
    have hq8 : Kept g (g + 1) w w8 := kept_upA HK.out hk8 (by omega)
    replace HX_r := Lib.hid (HX_r.out.kept hk8 (.inl (by omega)))
    have fc9 : w7.cell? ⟨w2.heap.size, 0, none⟩ = some (.bool false) := HX_a.out.cell 0
    have fz10 : w7.frozen? ⟨w2.heap.size, 0, none⟩ = false := HX_a.out.free 0
    have fc11 : w7.cell? ⟨w2.heap.size, 1, none⟩ = some (.int .i64 z) := HX_a.out.cell 1
    have fz12 : w7.frozen? ⟨w2.heap.size, 1, none⟩ = false := HX_a.out.free 1
    have fc13 : w7.cell? ⟨w2.heap.size, 2, none⟩ = some (.int .i64 0) := HX_a.out.cell 2
    have fz14 : w7.frozen? ⟨w2.heap.size, 2, none⟩ = false := HX_a.out.free 2
    replace HX_a := Lib.hid hx8
    have HR2 := Lib.hid hr8
    have HK2 := Lib.hid hq8
    replace HR := HR2
    replace HK := HK2
    go_wp2_with fail
    clear fc9 fz10 fc11 fz12 fc13 fz14
    rw [hW8.out]
    clear hW8 hk8 hx8 hr8 hq8
    refine (d_l91Num _ _ _ _ _ _ _ _ HR.out (by omega)).mono ?_
    rintro e w15 ⟨v, qv, rfl, _, hqv, h2, k2⟩
    have z15 : w8.heap.size ≤ w15.heap.size := k2.size
    replace HX_r := Lib.hid (HX_r.out.kept k2 (.inr (by omega)))
    replace HX_a := Lib.hid (HX_a.out.kept k2 (.inr (by omega)))
    replace HR := Lib.hid h2
    replace HK := Lib.hid (HK.out.trans k2)
    clear h2 k2
    obtain ⟨w16, hW16⟩ : ∃ W, Hid (w15.setCell ⟨w2.heap.size, 2, none⟩ (.int .i64 v) = W) := ⟨_, Lib.hid rfl⟩
    have z16 : w16.heap.size = w15.heap.size := by rw [← hW16.out, World.size_setCell]
    have hk16 : Kept (w2.heap.size) (w2.heap.size + 1) w15 w16 := by rw [← hW16.out]; exact (Kept.refl _ _ _).setCell (p := ⟨w2.heap.size, 2, none⟩) (Nat.le_refl _) (Nat.lt_succ_self _) _
    have hx16 : Bx w16 (w2.heap.size) #[.bool true, .int .i64 z, .int .i64 v] 47 := by have := HX_a.out.set 2 (.int .i64 v); rw [hW16.out] at this; exact this
    have hr16 := HR.out.move (w' := w16) (hk16.block g HR.out.lt (by omega)) (hk16.to_below (by omega) |>.mono (by have := HR.out.low; omega))
    have hq16 : Kept g (g + 1) w w16 := kept_upA HK.out hk16 (by omega)
    replace HX_r := Lib.hid (HX_r.out.kept hk16 (.inl (by omega)))
    have fc17 : w15.cell? ⟨w2.heap.size, 0, none⟩ = some (.bool true) := HX_a.out.cell 0
    have fz18 : w15.frozen? ⟨w2.heap.size, 0, none⟩ = false := HX_a.out.free 0
    have fc19 : w15.cell? ⟨w2.heap.size, 1, none⟩ = some (.int .i64 z) := HX_a.out.cell 1
    have fz20 : w15.frozen? ⟨w2.heap.size, 1, none⟩ = false := HX_a.out.free 1
    have fc21 : w15.cell? ⟨w2.heap.size, 2, none⟩ = some (.int .i64 0) := HX_a.out.cell 2
    have fz22 : w15.frozen? ⟨w2.heap.size, 2, none⟩ = false := HX_a.out.free 2
    replace HX_a := Lib.hid hx16
    have HR2 := Lib.hid hr16
    have HK2 := Lib.hid hq16
    replace HR := HR2
    replace HK := HK2
    go_wp2_with fail
    clear fc17 fz18 fc19 fz20 fc21 fz22
    rw [hW16.out]
    clear hW16 hk16 hx16 hr16 hq16
    refine (d_pick _ _ _ _ _ _ _ _ _ HR.out (by omega) (by omega) (by omega)).mono ?_
    rintro e w23 ⟨x, rfl, xl, xh, h2, k2⟩
    have z23 : w16.heap.size ≤ w23.heap.size := k2.size
    replace HX_r := Lib.hid (HX_r.out.kept k2 (.inr (by omega)))
    replace HX_a := Lib.hid (HX_a.out.kept k2 (.inr (by omega)))
    replace HR := Lib.hid h2
    replace HK := Lib.hid (HK.out.trans k2)
    clear h2 k2
    by_cases x0 : x = 0
    · subst x0
      have fc24 : (w23.alloc (.cells #[.int .i64 (-1), .int .i64 8] 3)).cell? ⟨w.heap.size, 0, none⟩ = some (.bool false) := (HX_r.out.alloc _).cell 0
      have fc25 : (w23.alloc (.cells #[.int .i64 (-1), .int .i64 8] 3)).cell? ⟨w.heap.size, 1, none⟩ = some (.int .i64 0) := (HX_r.out.alloc _).cell 1
      have fc26 : (w23.alloc (.cells #[.int .i64 (-1), .int .i64 8] 3)).cell? ⟨w.heap.size, 2, none⟩ = some (.int .i64 0) := (HX_r.out.alloc _).cell 2
      have fc27 : (w23.alloc (.cells #[.int .i64 (-1), .int .i64 8] 3)).cell? ⟨w2.heap.size, 0, none⟩ = some (.bool true) := (HX_a.out.alloc _).cell 0
      have fc28 : (w23.alloc (.cells #[.int .i64 (-1), .int .i64 8] 3)).cell? ⟨w2.heap.size, 1, none⟩ = some (.int .i64 z) := (HX_a.out.alloc _).cell 1
      have fc29 : (w23.alloc (.cells #[.int .i64 (-1), .int .i64 8] 3)).cell? ⟨w2.heap.size, 2, none⟩ = some (.int .i64 v) := (HX_a.out.alloc _).cell 2
      go_wp2_with fail
      clear fc24 fc25 fc26 fc27 fc28 fc29
      obtain ⟨w30, hW30⟩ : ∃ W, Hid (w23.alloc (.cells #[.int .i64 (-1), .int .i64 8] 3) = W) := ⟨_, Lib.hid rfl⟩
      try rw [hW30.out]
      have z30 : w23.heap.size < w30.heap.size := by rw [← hW30.out, World.size_alloc]; omega
      have ha30 : Below w23.heap.size w23 w30 := by rw [← hW30.out]; exact (Below.refl _ _).alloc (Nat.le_refl _) _
      replace HX_r := Lib.hid (HX_r.out.below ha30 HX_r.out.lt)
      replace HX_a := Lib.hid (HX_a.out.below ha30 HX_a.out.lt)
      have HX_l : Hid (Bx w30 w23.heap.size #[.int .i64 (-1), .int .i64 8] 3) := Lib.hid (by rw [← hW30.out]; exact Bx.new _ _ _)
      have hr_ := HR.out.alloc (.cells #[.int .i64 (-1), .int .i64 8] 3)
      have hk_ := HK.out.trans (kept_alloc g (g + 1) w23 (.cells #[.int .i64 (-1), .int .i64 8] 3))
      rw [hW30.out] at hr_ hk_
      replace HR := Lib.hid hr_
      replace HK := Lib.hid hk_
      clear ha30 hW30 hr_ hk_
      refine (d_pick _ _ _ _ _ _ _ _ _ HR.out (by omega) (by omega) (by omega)).mono ?_
      rintro e w31 ⟨j0, rfl, j00, j01, h2, k2⟩
      have z31 : w30.heap.size ≤ w31.heap.size := k2.size
      replace HX_r := Lib.hid (HX_r.out.kept k2 (.inr (by omega)))
      replace HX_a := Lib.hid (HX_a.out.kept k2 (.inr (by omega)))
      replace HX_l := Lib.hid (HX_l.out.kept k2 (.inr (by omega)))
      replace HR := Lib.hid h2
      replace HK := Lib.hid (HK.out.trans k2)
      clear h2 k2
      obtain ⟨j, rfl⟩ := Int.eq_ofNat_of_zero_le j00
      have hcj : ∃ zz : Int, w31.cell? ⟨w23.heap.size, j, none⟩ = some (.int .i64 zz) := by
        rcases (show j = 0 ∨ j = 1 by omega) with rfl | rfl
        · exact ⟨-1, HX_l.out.cell 0⟩
        · exact ⟨8, HX_l.out.cell 1⟩
      obtain ⟨zz, hcj⟩ := hcj
      have i0 : (0 : Int) ≤ (j : Int) := by omega
      have i1 : (j : Int) < 2 := by omega
      obtain ⟨w32, hW32⟩ : ∃ W, Hid (w31.setCell ⟨w2.heap.size, 1, none⟩ (.int .i64 zz) = W) := ⟨_, Lib.hid rfl⟩
      have z32 : w32.heap.size = w31.heap.size := by rw [← hW32.out, World.size_setCell]
      have hk32 : Kept (w2.heap.size) (w2.heap.size + 1) w31 w32 := by rw [← hW32.out]; exact (Kept.refl _ _ _).setCell (p := ⟨w2.heap.size, 1, none⟩) (Nat.le_refl _) (Nat.lt_succ_self _) _
      have hx32 : Bx w32 (w2.heap.size) #[.bool true, .int .i64 zz, .int .i64 v] 47 := by have := HX_a.out.set 1 (.int .i64 zz); rw [hW32.out] at this; exact this
      have hr32 := HR.out.move (w' := w32) (hk32.block g HR.out.lt (by omega)) (hk32.to_below (by omega) |>.mono (by have := HR.out.low; omega))
      have hq32 : Kept g (g + 1) w w32 := kept_upA HK.out hk32 (by omega)
      replace HX_r := Lib.hid (HX_r.out.kept hk32 (.inl (by omega)))
      have fc33 : w31.cell? ⟨w2.heap.size, 0, none⟩ = some (.bool true) := HX_a.out.cell 0
      have fz34 : w31.frozen? ⟨w2.heap.size, 0, none⟩ = false := HX_a.out.free 0
      have fc35 : w31.cell? ⟨w2.heap.size, 1, none⟩ = some (.int .i64 z) := HX_a.out.cell 1
      have fz36 : w31.frozen? ⟨w2.heap.size, 1, none⟩ = false := HX_a.out.free 1
      have fc37 : w31.cell? ⟨w2.heap.size, 2, none⟩ = some (.int .i64 v) := HX_a.out.cell 2
      have fz38 : w31.frozen? ⟨w2.heap.size, 2, none⟩ = false := HX_a.out.free 2
      replace HX_a := Lib.hid hx32
      have HR2 := Lib.hid hr32
      have HK2 := Lib.hid hq32
      replace HR := HR2
      replace HK := HK2
      have e39 : w32.cell? ⟨w2.heap.size, 0, none⟩ = some (.bool true) := HX_a.out.cell 0
      have e40 : w32.cell? ⟨w2.heap.size, 1, none⟩ = some (.int .i64 zz) := HX_a.out.cell 1
      have e41 : w32.cell? ⟨w2.heap.size, 2, none⟩ = some (.int .i64 v) := HX_a.out.cell 2
      have e42 : w32.cell? ⟨w.heap.size, 0, none⟩ = some (.bool false) := HX_r.out.cell 0
      have e43 : w32.frozen? ⟨w.heap.size, 0, none⟩ = false := HX_r.out.free 0
      have e44 : w32.cell? ⟨w.heap.size, 1, none⟩ = some (.int .i64 0) := HX_r.out.cell 1
      have e45 : w32.frozen? ⟨w.heap.size, 1, none⟩ = false := HX_r.out.free 1
      have e46 : w32.cell? ⟨w.heap.size, 2, none⟩ = some (.int .i64 0) := HX_r.out.cell 2
      have e47 : w32.frozen? ⟨w.heap.size, 2, none⟩ = false := HX_r.out.free 2
      rw [← hW32.out] at e39 e40 e41 e42 e43 e44 e45 e46 e47
      go_wp2
      rw [hW32.out]
      have hkR := kept_set3 (w := w32) (B := w.heap.size) (.bool true) (.int .i64 zz) (.int .i64 v)
      have hxR := ((HX_r.out.set 0 (.bool true)).set 1 (.int .i64 zz)).set 2 (.int .i64 v)
      have hrR := HR.out.move (hkR.block g HR.out.lt (by omega)) ((hkR.to_below (by omega)).mono (by omega))
      have hqR := kept_upA HK.out hkR (Nat.le_refl _)
      exact bodyPost_ret (v := .agg #[.bool true, .int .i64 zz, .int .i64 v]) (resA rfl rfl hxR) rfl ⟨_, _, _, _, rfl, by omega, hrR, hqR⟩
    have b1 : (x == 0) = false := by rw [beq_eq_false_iff_ne]; exact x0
    have fc48 : w23.cell? ⟨w.heap.size, 0, none⟩ = some (.bool false) := HX_r.out.cell 0
    have fz49 : w23.frozen? ⟨w.heap.size, 0, none⟩ = false := HX_r.out.free 0
    have fc50 : w23.cell? ⟨w.heap.size, 1, none⟩ = some (.int .i64 0) := HX_r.out.cell 1
    have fz51 : w23.frozen? ⟨w.heap.size, 1, none⟩ = false := HX_r.out.free 1
    have fc52 : w23.cell? ⟨w.heap.size, 2, none⟩ = some (.int .i64 0) := HX_r.out.cell 2
    have fz53 : w23.frozen? ⟨w.heap.size, 2, none⟩ = false := HX_r.out.free 2
    have fc54 : w23.cell? ⟨w2.heap.size, 0, none⟩ = some (.bool true) := HX_a.out.cell 0
    have fc55 : w23.cell? ⟨w2.heap.size, 1, none⟩ = some (.int .i64 z) := HX_a.out.cell 1
    have fc56 : w23.cell? ⟨w2.heap.size, 2, none⟩ = some (.int .i64 v) := HX_a.out.cell 2
    go_wp2
    have hkR := kept_set3 (w := w23) (B := w.heap.size) (.bool true) (.int .i64 z) (.int .i64 v)
    have hxR := ((HX_r.out.set 0 (.bool true)).set 1 (.int .i64 z)).set 2 (.int .i64 v)
    have hrR := HR.out.move (hkR.block g HR.out.lt (by omega)) ((hkR.to_below (by omega)).mono (by omega))
    have hqR := kept_upA HK.out hkR (Nat.le_refl _)
    exact bodyPost_ret (v := .agg #[.bool true, .int .i64 z, .int .i64 v]) (resA rfl rfl hxR) rfl ⟨_, _, _, _, rfl, by omega, hrR, hqR⟩
  have b0 : (y == 0) = false := by rw [beq_eq_false_iff_ne]; exact y0
  have fc57 : w7.cell? ⟨w.heap.size, 0, none⟩ = some (.bool false) := HX_r.out.cell 0
  have fc58 : w7.cell? ⟨w.heap.size, 1, none⟩ = some (.int .i64 0) := HX_r.out.cell 1
  have fc59 : w7.cell? ⟨w.heap.size, 2, none⟩ = some (.int .i64 0) := HX_r.out.cell 2
  have fc60 : w7.cell? ⟨w2.heap.size, 0, none⟩ = some (.bool false) := HX_a.out.cell 0
  have fc61 : w7.cell? ⟨w2.heap.size, 1, none⟩ = some (.int .i64 z) := HX_a.out.cell 1
  have fc62 : w7.cell? ⟨w2.heap.size, 2, none⟩ = some (.int .i64 0) := HX_a.out.cell 2
  go_wp2_with fail
  clear fc57 fc58 fc59 fc60 fc61 fc62
  refine (d_pick _ _ _ _ _ _ _ _ _ HR.out (by omega) (by omega) (by omega)).mono ?_
  rintro e w63 ⟨x, rfl, xl, xh, h2, k2⟩
  have z63 : w7.heap.size ≤ w63.heap.size := k2.size
  replace HX_r := Lib.hid (HX_r.out.kept k2 (.inr (by omega)))
  replace HX_a := Lib.hid (HX_a.out.kept k2 (.inr (by omega)))
  replace HR := Lib.hid h2
  replace HK := Lib.hid (HK.out.trans k2)
  clear h2 k2
  by_cases x0 : x = 0
  · subst x0
    have fc64 : (w63.alloc (.cells #[.int .i64 (-1), .int .i64 8] 3)).cell? ⟨w.heap.size, 0, none⟩ = some (.bool false) := (HX_r.out.alloc _).cell 0
    have fc65 : (w63.alloc (.cells #[.int .i64 (-1), .int .i64 8] 3)).cell? ⟨w.heap.size, 1, none⟩ = some (.int .i64 0) := (HX_r.out.alloc _).cell 1
    have fc66 : (w63.alloc (.cells #[.int .i64 (-1), .int .i64 8] 3)).cell? ⟨w.heap.size, 2, none⟩ = some (.int .i64 0) := (HX_r.out.alloc _).cell 2
    have fc67 : (w63.alloc (.cells #[.int .i64 (-1), .int .i64 8] 3)).cell? ⟨w2.heap.size, 0, none⟩ = some (.bool false) := (HX_a.out.alloc _).cell 0
    have fc68 : (w63.alloc (.cells #[.int .i64 (-1), .int .i64 8] 3)).cell? ⟨w2.heap.size, 1, none⟩ = some (.int .i64 z) := (HX_a.out.alloc _).cell 1
    have fc69 : (w63.alloc (.cells #[.int .i64 (-1), .int .i64 8] 3)).cell? ⟨w2.heap.size, 2, none⟩ = some (.int .i64 0) := (HX_a.out.alloc _).cell 2
    go_wp2_with fail
    clear fc64 fc65 fc66 fc67 fc68 fc69
    obtain ⟨w70, hW70⟩ : ∃ W, Hid (w63.alloc (.cells #[.int .i64 (-1), .int .i64 8] 3) = W) := ⟨_, Lib.hid rfl⟩
    try rw [hW70.out]
    have z70 : w63.heap.size < w70.heap.size := by rw [← hW70.out, World.size_alloc]; omega
    have ha70 : Below w63.heap.size w63 w70 := by rw [← hW70.out]; exact (Below.refl _ _).alloc (Nat.le_refl _) _
    replace HX_r := Lib.hid (HX_r.out.below ha70 HX_r.out.lt)
    replace HX_a := Lib.hid (HX_a.out.below ha70 HX_a.out.lt)
    have HX_l : Hid (Bx w70 w63.heap.size #[.int .i64 (-1), .int .i64 8] 3) := Lib.hid (by rw [← hW70.out]; exact Bx.new _ _ _)
    have hr_ := HR.out.alloc (.cells #[.int .i64 (-1), .int .i64 8] 3)
    have hk_ := HK.out.trans (kept_alloc g (g + 1) w63 (.cells #[.int .i64 (-1), .int .i64 8] 3))
    rw [hW70.out] at hr_ hk_
    replace HR := Lib.hid hr_
    replace HK := Lib.hid hk_
    clear ha70 hW70 hr_ hk_
    refine (d_pick _ _ _ _ _ _ _ _ _ HR.out (by omega) (by omega) (by omega)).mono ?_
    rintro e w71 ⟨j0, rfl, j00, j01, h2, k2⟩
    have z71 : w70.heap.size ≤ w71.heap.size := k2.size
    replace HX_r := Lib.hid (HX_r.out.kept k2 (.inr (by omega)))
    replace HX_a := Lib.hid (HX_a.out.kept k2 (.inr (by omega)))
    replace HX_l := Lib.hid (HX_l.out.kept k2 (.inr (by omega)))
    replace HR := Lib.hid h2
    replace HK := Lib.hid (HK.out.trans k2)
    clear h2 k2
    obtain ⟨j, rfl⟩ := Int.eq_ofNat_of_zero_le j00
    have hcj : ∃ zz : Int, w71.cell? ⟨w63.heap.size, j, none⟩ = some (.int .i64 zz) := by
      rcases (show j = 0 ∨ j = 1 by omega) with rfl | rfl
      · exact ⟨-1, HX_l.out.cell 0⟩
      · exact ⟨8, HX_l.out.cell 1⟩
    obtain ⟨zz, hcj⟩ := hcj
    have i0 : (0 : Int) ≤ (j : Int) := by omega
    have i1 : (j : Int) < 2 := by omega
    obtain ⟨w72, hW72⟩ : ∃ W, Hid (w71.setCell ⟨w2.heap.size, 1, none⟩ (.int .i64 zz) = W) := ⟨_, Lib.hid rfl⟩
    have z72 : w72.heap.size = w71.heap.size := by rw [← hW72.out, World.size_setCell]
    have hk72 : Kept (w2.heap.size) (w2.heap.size + 1) w71 w72 := by rw [← hW72.out]; exact (Kept.refl _ _ _).setCell (p := ⟨w2.heap.size, 1, none⟩) (Nat.le_refl _) (Nat.lt_succ_self _) _
    have hx72 : Bx w72 (w2.heap.size) #[.bool false, .int .i64 zz, .int .i64 0] 47 := by have := HX_a.out.set 1 (.int .i64 zz); rw [hW72.out] at this; exact this
    have hr72 := HR.out.move (w' := w72) (hk72.block g HR.out.lt (by omega)) (hk72.to_below (by omega) |>.mono (by have := HR.out.low; omega))
    have hq72 : Kept g (g + 1) w w72 := kept_upA HK.out hk72 (by omega)
    replace HX_r := Lib.hid (HX_r.out.kept hk72 (.inl (by omega)))
    have fc73 : w71.cell? ⟨w2.heap.size, 0, none⟩ = some (.bool false) := HX_a.out.cell 0
    have fz74 : w71.frozen? ⟨w2.heap.size, 0, none⟩ = false := HX_a.out.free 0
    have fc75 : w71.cell? ⟨w2.heap.size, 1, none⟩ = some (.int .i64 z) := HX_a.out.cell 1
    have fz76 : w71.frozen? ⟨w2.heap.size, 1, none⟩ = false := HX_a.out.free 1
    have fc77 : w71.cell? ⟨w2.heap.size, 2, none⟩ = some (.int .i64 0) := HX_a.out.cell 2
    have fz78 : w71.frozen? ⟨w2.heap.size, 2, none⟩ = false := HX_a.out.free 2
    replace HX_a := Lib.hid hx72
    have HR2 := Lib.hid hr72
    have HK2 := Lib.hid hq72
    replace HR := HR2
    replace HK := HK2
    have e79 : w72.cell? ⟨w2.heap.size, 0, none⟩ = some (.bool false) := HX_a.out.cell 0
    have e80 : w72.cell? ⟨w2.heap.size, 1, none⟩ = some (.int .i64 zz) := HX_a.out.cell 1
    have e81 : w72.cell? ⟨w2.heap.size, 2, none⟩ = some (.int .i64 0) := HX_a.out.cell 2
    have e82 : w72.cell? ⟨w.heap.size, 0, none⟩ = some (.bool false) := HX_r.out.cell 0
    have e83 : w72.frozen? ⟨w.heap.size, 0, none⟩ = false := HX_r.out.free 0
    have e84 : w72.cell? ⟨w.heap.size, 1, none⟩ = some (.int .i64 0) := HX_r.out.cell 1
    have e85 : w72.frozen? ⟨w.heap.size, 1, none⟩ = false := HX_r.out.free 1
    have e86 : w72.cell? ⟨w.heap.size, 2, none⟩ = some (.int .i64 0) := HX_r.out.cell 2
    have e87 : w72.frozen? ⟨w.heap.size, 2, none⟩ = false := HX_r.out.free 2
    rw [← hW72.out] at e79 e80 e81 e82 e83 e84 e85 e86 e87
    go_wp2
    rw [hW72.out]
    have hkR := kept_set3 (w := w72) (B := w.heap.size) (.bool false) (.int .i64 zz) (.int .i64 0)
    have hxR := ((HX_r.out.set 0 (.bool false)).set 1 (.int .i64 zz)).set 2 (.int .i64 0)
    have hrR := HR.out.move (hkR.block g HR.out.lt (by omega)) ((hkR.to_below (by omega)).mono (by omega))
    have hqR := kept_upA HK.out hkR (Nat.le_refl _)
    exact bodyPost_ret (v := .agg #[.bool false, .int .i64 zz, .int .i64 0]) (resA rfl rfl hxR) rfl ⟨_, _, _, _, rfl, by omega, hrR, hqR⟩
  have b1 : (x == 0) = false := by rw [beq_eq_false_iff_ne]; exact x0
  have fc88 : w63.cell? ⟨w.heap.size, 0, none⟩ = some (.bool false) := HX_r.out.cell 0
  have fz89 : w63.frozen? ⟨w.heap.size, 0, none⟩ = false := HX_r.out.free 0
  have fc90 : w63.cell? ⟨w.heap.size, 1, none⟩ = some (.int .i64 0) := HX_r.out.cell 1
  have fz91 : w63.frozen? ⟨w.heap.size, 1, none⟩ = false := HX_r.out.free 1
  have fc92 : w63.cell? ⟨w.heap.size, 2, none⟩ = some (.int .i64 0) := HX_r.out.cell 2
  have fz93 : w63.frozen? ⟨w.heap.size, 2, none⟩ = false := HX_r.out.free 2
  have fc94 : w63.cell? ⟨w2.heap.size, 0, none⟩ = some (.bool false) := HX_a.out.cell 0
  have fc95 : w63.cell? ⟨w2.heap.size, 1, none⟩ = some (.int .i64 z) := HX_a.out.cell 1
  have fc96 : w63.cell? ⟨w2.heap.size, 2, none⟩ = some (.int .i64 0) := HX_a.out.cell 2
  go_wp2
  have hkR := kept_set3 (w := w63) (B := w.heap.size) (.bool false) (.int .i64 z) (.int .i64 0)
  have hxR := ((HX_r.out.set 0 (.bool false)).set 1 (.int .i64 z)).set 2 (.int .i64 0)
  have hrR := HR.out.move (hkR.block g HR.out.lt (by omega)) ((hkR.to_below (by omega)).mono (by omega))
  have hqR := kept_upA HK.out hkR (Nat.le_refl _)
  exact bodyPost_ret (v := .agg #[.bool false, .int .i64 z, .int .i64 0]) (resA rfl rfl hxR) rfl ⟨_, _, _, _, rfl, by omega, hrR, hqR⟩
end Go.Proofs.Ytlajhgnlllelfaa
