/- Chapter 14: elements, proofs and pairs of proofs, as the plain laws draw them. Made by tools/plain/d14.py. -/
import Derived.Test.YtdhakbpimbadgaaDraw2b
import Derived.Test.YtdhakbpimbadgaaWalk14b
import Derived.Deep.MidRow
import Derived.StillTailTactics
namespace Go.Proofs.Ytdhakbpimbadgaa
open Go.RowKit
set_option maxRecDepth 100000

theorem kept_up19 {w w1 w2 : World} {g B : Nat} (h : Kept g (g + 1) w w1) (k : Kept B (B + 1) w1 w2) (hB : w.heap.size ≤ B) : Kept g (g + 1) w w2 :=
  ⟨k.os.trans h.os, k.tape.trans h.tape, k.output.trans h.output, Nat.le_trans h.size k.size, fun i hi hn => (k.block i (Nat.lt_of_lt_of_le hi h.size) (by omega)).trans (h.block i hi hn)⟩
theorem below_kept {w w' : World} (g : Nat) (h : Below w.heap.size w w') : Kept g (g + 1) w w' := ⟨h.os, h.tape, h.output, h.size, fun k hk _ => h.block k hk⟩
theorem rdr_call {P : Program} {f : FuncId} {args : Array Value} {w : World} {Q : Ending → Prop} {g hi p n c : Nat} {A : Option Addr} {bs : List Int} (hR : Rdr w g hi p A n c bs) (h : Calls P f args w fun e w' => Q e ∧ Below w.heap.size w w') :
    Calls P f args w fun e w' => Q e ∧ Rdr w' g hi p A n c bs ∧ Kept g (g + 1) w w' :=
  h.mono fun _ _ ⟨he, hb⟩ => ⟨he, hR.move (hb.block g hR.lt) (hb.mono (by have := hR.low; have := hR.lt; omega)), below_kept g hb⟩
theorem rdr_same {P : Program} {f : FuncId} {args : Array Value} {w : World} {Q : Ending → Prop} {g hi p n c : Nat} {A : Option Addr} {bs : List Int} (hR : Rdr w g hi p A n c bs) (h : Calls P f args w fun e w' => Q e ∧ w = w') :
    Calls P f args w fun e w' => Q e ∧ Rdr w' g hi p A n c bs ∧ Kept g (g + 1) w w' :=
  h.mono fun _ _ ⟨he, hw⟩ => ⟨he, hw ▸ hR, hw ▸ Kept.refl _ _ _⟩
theorem bx_drew {w : World} {b e : Nat} {cs : Array Value} (h : Bx w b cs e) : Bx w.drew b cs e := h
theorem infoPfR : (Try.prog.info? 54).map (·.size) = some 3 := by kernel_rfl
theorem resPfR {fn : Func} {t u : Tmp} {tmps : Array Value} {w : World} {g : Nat} {a b c x : Value} (h : fn.results = #[.tmp u, .cell t 54]) (ht : tmps.getD t undef = .pointer (some ⟨g, 0, none⟩)) (hu : tmps.getD u undef = x) (hb : Bx w g #[a, b, c] 54) :
    (results fn tmps).run Try.prog w = .ok (.tuple #[x, .agg #[a, b, c]]) w := by
  have hr : w.rangeAt g 0 [a, b, c] := fun j v hv => by
    rw [Nat.zero_add, cell_of_row w g j _ _ (0, 0) hb]; simpa using hv
  have := run_loadVar_mid (P := Try.prog) w g 0 54 [a, b, c] _ hr Try.underlying54 rfl infoPfR
  have ht2 : tmps[t]?.getD undef = .pointer (some ⟨g, 0, none⟩) := by rw [← ht]; simp
  subst hu
  simp [results, h, ht2, this, asAddr]
theorem six {j : Nat} (h : (j : Int) < 6) : j = 0 ∨ j = 1 ∨ j = 2 ∨ j = 3 ∨ j = 4 ∨ j = 5 := by omega
theorem kept_set3b {w : World} {B : Nat} (a b c : Value) : Kept B (B + 1) w (((w.setCell ⟨B, 0, none⟩ a).setCell ⟨B, 1, none⟩ b).setCell ⟨B, 2, none⟩ c) :=
  (((Kept.refl _ _ _).setCell (p := ⟨B, 0, none⟩) (Nat.le_refl _) (Nat.lt_succ_self _) _).setCell (p := ⟨B, 1, none⟩) (Nat.le_refl _) (Nat.lt_succ_self _) _).setCell (p := ⟨B, 2, none⟩) (Nat.le_refl _) (Nat.lt_succ_self _) _
set_option maxHeartbeats 2000000 in
theorem d_l91Element (g hi p : Nat) (A : Option Addr) (n c : Nat) (bs : List Int) (w : World) (h : Rdr w g hi p A n c bs) (hp : p < 999990) :
    Calls Try.prog 117 #[.pointer (some ⟨g, 0, none⟩)] w fun e w' => ∃ z q, e = .returned (.int .i64 z) ∧ (-1 ≤ z ∧ z ≤ 228) ∧ q ≤ p + 5 ∧ Rdr w' g hi q A n c bs ∧ Kept g (g + 1) w w' := by
  have hgw : g < w.heap.size := h.lt
  have hig : hi ≤ g := h.low
  have HR := Lib.hid h
  have HK := Lib.hid (Kept.refl g (g + 1) w)
  clear h
  go_enter Try.func117, Try.ntmps117
  go_wp2_with fail
  refine (d_pick _ _ _ _ _ _ _ _ _ HR.out (by omega) (by omega) (by omega)).mono ?_
  rintro e w1 ⟨z0, rfl, z0l, z0h, h2, k2⟩
  have z1 : w.heap.size ≤ w1.heap.size := k2.size
  replace HR := Lib.hid h2
  replace HK := Lib.hid (HK.out.trans k2)
  clear h2 k2
  by_cases hz : z0 = 0
  · have hb0 : (z0 == 0) = true := by simp [hz]
    clear hz
    go_wp2_with fail
    obtain ⟨w2, hW2⟩ : ∃ W, Hid (w1.alloc (.cells #[.int .i64 0, .int .i64 2, .int .i64 (-1), .int .i64 227, .int .i64 228, .int .i64 226] 3) = W) := ⟨_, Lib.hid rfl⟩
    try rw [hW2.out]
    have z2 : w1.heap.size < w2.heap.size := by rw [← hW2.out, World.size_alloc]; omega
    have ha2 : Below w1.heap.size w1 w2 := by rw [← hW2.out]; exact (Below.refl _ _).alloc (Nat.le_refl _) _
    have HX_l : Hid (Bx w2 w1.heap.size #[.int .i64 0, .int .i64 2, .int .i64 (-1), .int .i64 227, .int .i64 228, .int .i64 226] 3) := Lib.hid (by rw [← hW2.out]; exact Bx.new _ _ _)
    have hr_ := HR.out.alloc (.cells #[.int .i64 0, .int .i64 2, .int .i64 (-1), .int .i64 227, .int .i64 228, .int .i64 226] 3)
    have hk_ := HK.out.trans (kept_alloc g (g + 1) w1 (.cells #[.int .i64 0, .int .i64 2, .int .i64 (-1), .int .i64 227, .int .i64 228, .int .i64 226] 3))
    rw [hW2.out] at hr_ hk_
    replace HR := Lib.hid hr_
    replace HK := Lib.hid hk_
    clear ha2 hW2 hr_ hk_
    refine (d_pick _ _ _ _ _ _ _ _ _ HR.out (by omega) (by omega) (by omega)).mono ?_
    rintro e w3 ⟨z1, rfl, z10, z11, h2, k2⟩
    have z3 : w2.heap.size ≤ w3.heap.size := k2.size
    replace HX_l := Lib.hid (HX_l.out.kept k2 (.inr (by omega)))
    replace HR := Lib.hid h2
    replace HK := Lib.hid (HK.out.trans k2)
    clear h2 k2
    obtain ⟨j, rfl⟩ := Int.eq_ofNat_of_zero_le z10
    rcases six z11 with rfl | rfl | rfl | rfl | rfl | rfl
    · have hcj : w3.cell? ⟨w1.heap.size, 0, none⟩ = some (.int .i64 0) := HX_l.out.cell 0
      go_wp2
      go_ret
      exact ⟨_, _, rfl, by omega, by omega, HR.out, HK.out⟩
    · have hcj : w3.cell? ⟨w1.heap.size, 1, none⟩ = some (.int .i64 2) := HX_l.out.cell 1
      go_wp2
      go_ret
      exact ⟨_, _, rfl, by omega, by omega, HR.out, HK.out⟩
    · have hcj : w3.cell? ⟨w1.heap.size, 2, none⟩ = some (.int .i64 (-1)) := HX_l.out.cell 2
      go_wp2
      go_ret
      exact ⟨_, _, rfl, by omega, by omega, HR.out, HK.out⟩
    · have hcj : w3.cell? ⟨w1.heap.size, 3, none⟩ = some (.int .i64 227) := HX_l.out.cell 3
      go_wp2
      go_ret
      exact ⟨_, _, rfl, by omega, by omega, HR.out, HK.out⟩
    · have hcj : w3.cell? ⟨w1.heap.size, 4, none⟩ = some (.int .i64 228) := HX_l.out.cell 4
      go_wp2
      go_ret
      exact ⟨_, _, rfl, by omega, by omega, HR.out, HK.out⟩
    · have hcj : w3.cell? ⟨w1.heap.size, 5, none⟩ = some (.int .i64 226) := HX_l.out.cell 5
      go_wp2
      go_ret
      exact ⟨_, _, rfl, by omega, by omega, HR.out, HK.out⟩
  have hb0 : (z0 == 0) = false := by rw [beq_eq_false_iff_ne]; exact hz
  clear hz
  go_wp2_with fail
  refine (d_pick _ _ _ _ _ _ _ _ _ HR.out (by omega) (by omega) (by omega)).mono ?_
  rintro e w4 ⟨z1, rfl, z10, z11, h2, k2⟩
  have z4 : w1.heap.size ≤ w4.heap.size := k2.size
  replace HR := Lib.hid h2
  replace HK := Lib.hid (HK.out.trans k2)
  clear h2 k2
  obtain ⟨v, hv⟩ : ∃ v, Hid (powI 4 z1 227 = v) := ⟨_, Lib.hid rfl⟩
  have hvb := powI_bd 4 z1
  rw [hv.out] at hvb
  have HP := Lib.hid (s_l1Pow 4 z1 w4 (by omega) (by omega) z10 (by omega))
  rw [hv.out] at HP
  go_wp2_with fail
  refine (rdr_same HR.out HP.out).mono ?_
  rintro e w5 ⟨rfl, h2, k2⟩
  have z5 : w4.heap.size ≤ w5.heap.size := k2.size
  replace HR := Lib.hid h2
  replace HK := Lib.hid (HK.out.trans k2)
  clear h2 k2
  go_wp2
  go_ret
  exact ⟨_, _, rfl, by omega, by omega, HR.out, HK.out⟩
end Go.Proofs.Ytdhakbpimbadgaa
