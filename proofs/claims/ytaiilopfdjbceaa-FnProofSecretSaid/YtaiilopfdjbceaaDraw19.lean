/- Chapter 14: elements, proofs and pairs of proofs, as the plain laws draw them. Made by tools/plain/d14.py. -/
import Derived.Test.YtaiilopfdjbceaaDraw2b
import Derived.Test.YtaiilopfdjbceaaWalk14b
import Derived.Deep.MidRow
import Derived.StillTailTactics
namespace Go.Proofs.Ytaiilopfdjbceaa
open Go.RowKit
set_option maxRecDepth 100000

theorem kept_up19 {w w1 w2 : World} {g B : Nat} (h : Kept g (g + 1) w w1) (k : Kept B (B + 1) w1 w2) (hB : w.heap.size ≤ B) : Kept g (g + 1) w w2 :=
  ⟨k.os.trans h.os, k.tape.trans h.tape, k.output.trans h.output, Nat.le_trans h.size k.size, fun i hi hn => (k.block i (Nat.lt_of_lt_of_le hi h.size) (by omega)).trans (h.block i hi hn)⟩
theorem below_kept {w w' : World} (g : Nat) (h : Below w.heap.size w w') : Kept g (g + 1) w w' := ⟨h.os, h.tape, h.output, h.size, fun k hk _ => h.block k hk⟩
theorem rdr_call {P : Program} {f : FuncId} {args : Array Value} {w : World} {Q : Ending → Prop} {g hi p n c : Nat} {A : Option Addr} {bs : List Int} (hR : Rdr w g hi p A n c bs) (h : Calls P f args w fun e w' => Q e ∧ Below w.heap.size w w') :
    Calls P f args w fun e w' => Q e ∧ Rdr w' g hi p A n c bs ∧ Kept g (g + 1) w w' :=
  h.mono fun _ _ ⟨he, hb⟩ => ⟨he, hR.move (hb.block g hR.lt) (hb.mono (by have := hR.low; have := hR.lt; omega)), below_kept g hb⟩
theorem rdr_same {P : Program} {f : FuncId} {args : Array Value} {w : World} {Q : Ending → Prop} {g hi p n c : Nat} {A : Option Addr} {bs : List Int} (hR : Rdr w g hi p A n c bs) (h : Calls P f args w fun e w' => Q e ∧ w = w') :
    Calls P f args w fun e w' => Q e ∧ Rdr w' g hi p A n c bs ∧ Kept g (g + 1) w w' :=
  h.mono fun _ _ ⟨he, hw⟩ => ⟨he, hw ▸ hR, hw ▸ Kept.refl _ _ _⟩
theorem bx_drew {w : World} {b e : Nat} {cs : Array Value} (h : Bx w b cs e) : Bx w.drew b cs e := h
theorem infoPfR : (Try.prog.info? 52).map (·.size) = some 3 := by kernel_rfl
theorem resPfR {fn : Func} {t u : Tmp} {tmps : Array Value} {w : World} {g : Nat} {a b c x : Value} (h : fn.results = #[.tmp u, .cell t 52]) (ht : tmps.getD t undef = .pointer (some ⟨g, 0, none⟩)) (hu : tmps.getD u undef = x) (hb : Bx w g #[a, b, c] 52) :
    (results fn tmps).run Try.prog w = .ok (.tuple #[x, .agg #[a, b, c]]) w := by
  have hr : w.rangeAt g 0 [a, b, c] := fun j v hv => by
    rw [Nat.zero_add, cell_of_row w g j _ _ (0, 0) hb]; simpa using hv
  have := run_loadVar_mid (P := Try.prog) w g 0 52 [a, b, c] _ hr Try.underlying52 rfl infoPfR
  have ht2 : tmps[t]?.getD undef = .pointer (some ⟨g, 0, none⟩) := by rw [← ht]; simp
  subst hu
  simp [results, h, ht2, this, asAddr]
theorem six {j : Nat} (h : (j : Int) < 6) : j = 0 ∨ j = 1 ∨ j = 2 ∨ j = 3 ∨ j = 4 ∨ j = 5 := by omega
theorem kept_set3b {w : World} {B : Nat} (a b c : Value) : Kept B (B + 1) w (((w.setCell ⟨B, 0, none⟩ a).setCell ⟨B, 1, none⟩ b).setCell ⟨B, 2, none⟩ c) :=
  (((Kept.refl _ _ _).setCell (p := ⟨B, 0, none⟩) (Nat.le_refl _) (Nat.lt_succ_self _) _).setCell (p := ⟨B, 1, none⟩) (Nat.le_refl _) (Nat.lt_succ_self _) _).setCell (p := ⟨B, 2, none⟩) (Nat.le_refl _) (Nat.lt_succ_self _) _
set_option maxHeartbeats 2000000 in
theorem d_l91Element (g hi p : Nat) (A : Option Addr) (n c : Nat) (bs : List Int) (w : World) (h : Rdr w g hi p A n c bs) (hp : p < 999990) :
    Calls Try.prog 104 #[.pointer (some ⟨g, 0, none⟩)] w fun e w' => ∃ z q, e = .returned (.int .i64 z) ∧ (-1 ≤ z ∧ z ≤ 228) ∧ q ≤ p + 5 ∧ Rdr w' g hi q A n c bs ∧ Kept g (g + 1) w w' := by
  have hgw : g < w.heap.size := h.lt
  have hig : hi ≤ g := h.low
  have HR := Lib.hid h
  have HK := Lib.hid (Kept.refl g (g + 1) w)
  clear h
  go_enter Try.func104, Try.ntmps104
  go_wp2_with fail
  refine (d_pick _ _ _ _ _ _ _ _ _ HR.out (by omega) (by omega) (by omega)).mono ?_
  rintro e w1 ⟨z0, rfl, z0l, z0h, h2, k2⟩
  have z1 : w.heap.size ≤ w1.heap.size := k2.size
  replace HR := Lib.hid h2
  replace HK := Lib.hid (HK.out.trans k2)
  clear h2 k2
  by_cases hz : z0 = 0
  · have hb0 : (z0 == 0) = true := by simp [hz]
    clear hz
    go_wp2_with fail
    obtain ⟨w2, hW2⟩ : ∃ W, Hid (w1.alloc (.cells #[.int .i64 0, .int .i64 2, .int .i64 (-1), .int .i64 227, .int .i64 228, .int .i64 226] 3) = W) := ⟨_, Lib.hid rfl⟩
    try rw [hW2.out]
    have z2 : w1.heap.size < w2.heap.size := by rw [← hW2.out, World.size_alloc]; omega
    have ha2 : Below w1.heap.size w1 w2 := by rw [← hW2.out]; exact (Below.refl _ _).alloc (Nat.le_refl _) _
    have HX_l : Hid (Bx w2 w1.heap.size #[.int .i64 0, .int .i64 2, .int .i64 (-1), .int .i64 227, .int .i64 228, .int .i64 226] 3) := Lib.hid (by rw [← hW2.out]; exact Bx.new _ _ _)
    have hr_ := HR.out.alloc (.cells #[.int .i64 0, .int .i64 2, .int .i64 (-1), .int .i64 227, .int .i64 228, .int .i64 226] 3)
    have hk_ := HK.out.trans (kept_alloc g (g + 1) w1 (.cells #[.int .i64 0, .int .i64 2, .int .i64 (-1), .int .i64 227, .int .i64 228, .int .i64 226] 3))
    rw [hW2.out] at hr_ hk_
    replace HR := Lib.hid hr_
    replace HK := Lib.hid hk_
    clear ha2 hW2 hr_ hk_
    refine (d_pick _ _ _ _ _ _ _ _ _ HR.out (by omega) (by omega) (by omega)).mono ?_
    rintro e w3 ⟨z1, rfl, z10, z11, h2, k2⟩
    have z3 : w2.heap.size ≤ w3.heap.size := k2.size
    replace HX_l := Lib.hid (HX_l.out.kept k2 (.inr (by omega)))
    replace HR := Lib.hid h2
    replace HK := Lib.hid (HK.out.trans k2)
    clear h2 k2
    obtain ⟨j, rfl⟩ := Int.eq_ofNat_of_zero_le z10
    rcases six z11 with rfl | rfl | rfl | rfl | rfl | rfl
    · have hcj : w3.cell? ⟨w1.heap.size, 0, none⟩ = some (.int .i64 0) := HX_l.out.cell 0
      go_wp2
      go_ret
      exact ⟨_, _, rfl, by omega, by omega, HR.out, HK.out⟩
    · have hcj : w3.cell? ⟨w1.heap.size, 1, none⟩ = some (.int .i64 2) := HX_l.out.cell 1
      go_wp2
      go_ret
      exact ⟨_, _, rfl, by omega, by omega, HR.out, HK.out⟩
    · have hcj : w3.cell? ⟨w1.heap.size, 2, none⟩ = some (.int .i64 (-1)) := HX_l.out.cell 2
      go_wp2
      go_ret
      exact ⟨_, _, rfl, by omega, by omega, HR.out, HK.out⟩
    · have hcj : w3.cell? ⟨w1.heap.size, 3, none⟩ = some (.int .i64 227) := HX_l.out.cell 3
      go_wp2
      go_ret
      exact ⟨_, _, rfl, by omega, by omega, HR.out, HK.out⟩
    · have hcj : w3.cell? ⟨w1.heap.size, 4, none⟩ = some (.int .i64 228) := HX_l.out.cell 4
      go_wp2
      go_ret
      exact ⟨_, _, rfl, by omega, by omega, HR.out, HK.out⟩
    · have hcj : w3.cell? ⟨w1.heap.size, 5, none⟩ = some (.int .i64 226) := HX_l.out.cell 5
      go_wp2
      go_ret
      exact ⟨_, _, rfl, by omega, by omega, HR.out, HK.out⟩
  have hb0 : (z0 == 0) = false := by rw [beq_eq_false_iff_ne]; exact hz
  clear hz
  go_wp2_with fail
  refine (d_pick _ _ _ _ _ _ _ _ _ HR.out (by omega) (by omega) (by omega)).mono ?_
  rintro e w4 ⟨z1, rfl, z10, z11, h2, k2⟩
  have z4 : w1.heap.size ≤ w4.heap.size := k2.size
  replace HR := Lib.hid h2
  replace HK := Lib.hid (HK.out.trans k2)
  clear h2 k2
  obtain ⟨v, hv⟩ : ∃ v, Hid (powI 4 z1 227 = v) := ⟨_, Lib.hid rfl⟩
  have hvb := powI_bd 4 z1
  rw [hv.out] at hvb
  have HP := Lib.hid (s_l1Pow 4 z1 w4 (by omega) (by omega) z10 (by omega))
  rw [hv.out] at HP
  go_wp2_with fail
  refine (rdr_same HR.out HP.out).mono ?_
  rintro e w5 ⟨rfl, h2, k2⟩
  have z5 : w4.heap.size ≤ w5.heap.size := k2.size
  replace HR := Lib.hid h2
  replace HK := Lib.hid (HK.out.trans k2)
  clear h2 k2
  go_wp2
  go_ret
  exact ⟨_, _, rfl, by omega, by omega, HR.out, HK.out⟩
set_option maxHeartbeats 8000000 in
theorem d_l92Proof (g hi p : Nat) (A : Option Addr) (n c : Nat) (bs : List Int) (w : World) (h : Rdr w g hi p A n c bs) (hp : p < 900000) :
    Calls Try.prog 75 #[.pointer (some ⟨g, 0, none⟩)] w fun e w' => ∃ ke x c1 r q, e = .returned (.tuple #[.int .i64 ke, .agg #[.int .i64 x, .int .i64 c1, .int .i64 r]]) ∧ q ≤ p + 20 ∧ Rdr w' g hi q A n c bs ∧ Kept g (g + 1) w w' := by
  have hgw : g < w.heap.size := h.lt
  have hig : hi ≤ g := h.low
  have HR := Lib.hid h
  have HK := Lib.hid (Kept.refl g (g + 1) w)
  clear h
  go_enter Try.func75, Try.ntmps75
  go_wp2_with fail
  obtain ⟨w1, hW1⟩ : ∃ W, Hid (w.alloc (.cells #[.int .i64 0, .int .i64 0, .int .i64 0] 52) = W) := ⟨_, Lib.hid rfl⟩
  try rw [hW1.out]
  have z1 : w.heap.size < w1.heap.size := by rw [← hW1.out, World.size_alloc]; omega
  have ha1 : Below w.heap.size w w1 := by rw [← hW1.out]; exact (Below.refl _ _).alloc (Nat.le_refl _) _
  have HX_r : Hid (Bx w1 w.heap.size #[.int .i64 0, .int .i64 0, .int .i64 0] 52) := Lib.hid (by rw [← hW1.out]; exact Bx.new _ _ _)
  have hr_ := HR.out.alloc (.cells #[.int .i64 0, .int .i64 0, .int .i64 0] 52)
  have hk_ := HK.out.trans (kept_alloc g (g + 1) w (.cells #[.int .i64 0, .int .i64 0, .int .i64 0] 52))
  rw [hW1.out] at hr_ hk_
  replace HR := Lib.hid hr_
  replace HK := Lib.hid hk_
  clear ha1 hW1 hr_ hk_
  refine (d_pick _ _ _ _ _ _ _ _ _ HR.out (by omega) (by omega) (by omega)).mono ?_
  rintro e w2 ⟨s, rfl, s0, s1, h2, k2⟩
  have z2 : w1.heap.size ≤ w2.heap.size := k2.size
  replace HX_r := Lib.hid (HX_r.out.kept k2 (.inr (by omega)))
  replace HR := Lib.hid h2
  replace HK := Lib.hid (HK.out.trans k2)
  clear h2 k2
  have fc3 : w2.cell? ⟨w.heap.size, 0, none⟩ = some (.int .i64 0) := HX_r.out.cell 0
  have fc4 : w2.cell? ⟨w.heap.size, 1, none⟩ = some (.int .i64 0) := HX_r.out.cell 1
  have fc5 : w2.cell? ⟨w.heap.size, 2, none⟩ = some (.int .i64 0) := HX_r.out.cell 2
  go_wp2_with fail
  clear fc3 fc4 fc5
  refine (d_pick _ _ _ _ _ _ _ _ _ HR.out (by omega) (by omega) (by omega)).mono ?_
  rintro e w6 ⟨a, rfl, a0, a1, h2, k2⟩
  have z6 : w2.heap.size ≤ w6.heap.size := k2.size
  replace HX_r := Lib.hid (HX_r.out.kept k2 (.inr (by omega)))
  replace HR := Lib.hid h2
  replace HK := Lib.hid (HK.out.trans k2)
  clear h2 k2
  have fc7 : w6.cell? ⟨w.heap.size, 0, none⟩ = some (.int .i64 0) := HX_r.out.cell 0
  have fc8 : w6.cell? ⟨w.heap.size, 1, none⟩ = some (.int .i64 0) := HX_r.out.cell 1
  have fc9 : w6.cell? ⟨w.heap.size, 2, none⟩ = some (.int .i64 0) := HX_r.out.cell 2
  go_wp2_with fail
  clear fc7 fc8 fc9
  refine (d_pick _ _ _ _ _ _ _ _ _ HR.out (by omega) (by omega) (by omega)).mono ?_
  rintro e w10 ⟨b, rfl, b0, b1, h2, k2⟩
  have z10 : w6.heap.size ≤ w10.heap.size := k2.size
  replace HX_r := Lib.hid (HX_r.out.kept k2 (.inr (by omega)))
  replace HR := Lib.hid h2
  replace HK := Lib.hid (HK.out.trans k2)
  clear h2 k2
  have HPM := Lib.hid (X_s_ProofMake s a b w10)
  obtain ⟨x, hx⟩ : ∃ v, Hid ((makeD s a b).1 = v) := ⟨_, Lib.hid rfl⟩
  obtain ⟨y, hy⟩ : ∃ v, Hid ((makeD s a b).2.1 = v) := ⟨_, Lib.hid rfl⟩
  obtain ⟨z, hz⟩ : ∃ v, Hid ((makeD s a b).2.2 = v) := ⟨_, Lib.hid rfl⟩
  obtain ⟨o, ho⟩ : ∃ v, Hid (makeB s a b = v) := ⟨_, Lib.hid rfl⟩
  rw [hx.out, hy.out, hz.out, ho.out] at HPM
  clear hx hy hz ho
  have fc11 : w10.cell? ⟨w.heap.size, 0, none⟩ = some (.int .i64 0) := HX_r.out.cell 0
  have fc12 : w10.cell? ⟨w.heap.size, 1, none⟩ = some (.int .i64 0) := HX_r.out.cell 1
  have fc13 : w10.cell? ⟨w.heap.size, 2, none⟩ = some (.int .i64 0) := HX_r.out.cell 2
  go_wp2_with fail
  clear fc11 fc12 fc13
  refine (rdr_call HR.out HPM.out).mono ?_
  rintro e w14 ⟨rfl, h2, k2⟩
  have z14 : w10.heap.size ≤ w14.heap.size := k2.size
  replace HX_r := Lib.hid (HX_r.out.kept k2 (.inr (by omega)))
  replace HR := Lib.hid h2
  replace HK := Lib.hid (HK.out.trans k2)
  clear h2 k2
  clear HPM
  obtain ⟨ke, hke⟩ : ∃ v, Hid (powI 4 s 227 = v) := ⟨_, Lib.hid rfl⟩
  have HPW := fun W => Lib.hid (s_l1Pow 4 s W (by omega) (by omega) s0 (by omega))
  simp only [hke.out] at HPW
  clear hke
  have fc15 : (w14.alloc (.cells #[.int .i64 x, .int .i64 y, .int .i64 z] 52)).cell? ⟨w.heap.size, 0, none⟩ = some (.int .i64 0) := (HX_r.out.alloc _).cell 0
  have fc16 : (w14.alloc (.cells #[.int .i64 x, .int .i64 y, .int .i64 z] 52)).cell? ⟨w.heap.size, 1, none⟩ = some (.int .i64 0) := (HX_r.out.alloc _).cell 1
  have fc17 : (w14.alloc (.cells #[.int .i64 x, .int .i64 y, .int .i64 z] 52)).cell? ⟨w.heap.size, 2, none⟩ = some (.int .i64 0) := (HX_r.out.alloc _).cell 2
  go_wp2_with fail
  clear fc15 fc16 fc17
  obtain ⟨w18, hW18⟩ : ∃ W, Hid (w14.alloc (.cells #[.int .i64 x, .int .i64 y, .int .i64 z] 52) = W) := ⟨_, Lib.hid rfl⟩
  try rw [hW18.out]
  have z18 : w14.heap.size < w18.heap.size := by rw [← hW18.out, World.size_alloc]; omega
  have ha18 : Below w14.heap.size w14 w18 := by rw [← hW18.out]; exact (Below.refl _ _).alloc (Nat.le_refl _) _
  replace HX_r := Lib.hid (HX_r.out.below ha18 HX_r.out.lt)
  have HX_a : Hid (Bx w18 w14.heap.size #[.int .i64 x, .int .i64 y, .int .i64 z] 52) := Lib.hid (by rw [← hW18.out]; exact Bx.new _ _ _)
  have hr_ := HR.out.alloc (.cells #[.int .i64 x, .int .i64 y, .int .i64 z] 52)
  have hk_ := HK.out.trans (kept_alloc g (g + 1) w14 (.cells #[.int .i64 x, .int .i64 y, .int .i64 z] 52))
  rw [hW18.out] at hr_ hk_
  replace HR := Lib.hid hr_
  replace HK := Lib.hid hk_
  clear ha18 hW18 hr_ hk_
  refine (rdr_same HR.out (HPW _).out).mono ?_
  rintro e w19 ⟨rfl, h2, k2⟩
  have z19 : w18.heap.size ≤ w19.heap.size := k2.size
  replace HX_r := Lib.hid (HX_r.out.kept k2 (.inr (by omega)))
  replace HX_a := Lib.hid (HX_a.out.kept k2 (.inr (by omega)))
  replace HR := Lib.hid h2
  replace HK := Lib.hid (HK.out.trans k2)
  clear h2 k2
  clear HPW
  have fc20 : w19.cell? ⟨w.heap.size, 0, none⟩ = some (.int .i64 0) := HX_r.out.cell 0
  have fc21 : w19.cell? ⟨w.heap.size, 1, none⟩ = some (.int .i64 0) := HX_r.out.cell 1
  have fc22 : w19.cell? ⟨w.heap.size, 2, none⟩ = some (.int .i64 0) := HX_r.out.cell 2
  have fc23 : w19.cell? ⟨w14.heap.size, 0, none⟩ = some (.int .i64 x) := HX_a.out.cell 0
  have fc24 : w19.cell? ⟨w14.heap.size, 1, none⟩ = some (.int .i64 y) := HX_a.out.cell 1
  have fc25 : w19.cell? ⟨w14.heap.size, 2, none⟩ = some (.int .i64 z) := HX_a.out.cell 2
  go_wp2_with fail
  clear fc20 fc21 fc22 fc23 fc24 fc25
  refine (d_pick _ _ _ _ _ _ _ _ _ HR.out (by omega) (by omega) (by omega)).mono ?_
  rintro e w26 ⟨d, rfl, d0, d1, h2, k2⟩
  have z26 : w19.heap.size ≤ w26.heap.size := k2.size
  replace HX_r := Lib.hid (HX_r.out.kept k2 (.inr (by omega)))
  replace HX_a := Lib.hid (HX_a.out.kept k2 (.inr (by omega)))
  replace HR := Lib.hid h2
  replace HK := Lib.hid (HK.out.trans k2)
  clear h2 k2
  by_cases h0 : d = 0
  · subst h0
    have fc27 : w26.cell? ⟨w.heap.size, 0, none⟩ = some (.int .i64 0) := HX_r.out.cell 0
    have fc28 : w26.cell? ⟨w.heap.size, 1, none⟩ = some (.int .i64 0) := HX_r.out.cell 1
    have fc29 : w26.cell? ⟨w.heap.size, 2, none⟩ = some (.int .i64 0) := HX_r.out.cell 2
    have fc30 : w26.cell? ⟨w14.heap.size, 0, none⟩ = some (.int .i64 x) := HX_a.out.cell 0
    have fc31 : w26.cell? ⟨w14.heap.size, 1, none⟩ = some (.int .i64 y) := HX_a.out.cell 1
    have fc32 : w26.cell? ⟨w14.heap.size, 2, none⟩ = some (.int .i64 z) := HX_a.out.cell 2
    go_wp2_with fail
    clear fc27 fc28 fc29 fc30 fc31 fc32
    refine (d_l91Num _ _ _ _ _ _ _ _ HR.out (by omega)).mono ?_
    rintro e w33 ⟨v, qv, rfl, _, hqv, h2, k2⟩
    have z33 : w26.heap.size ≤ w33.heap.size := k2.size
    replace HX_r := Lib.hid (HX_r.out.kept k2 (.inr (by omega)))
    replace HX_a := Lib.hid (HX_a.out.kept k2 (.inr (by omega)))
    replace HR := Lib.hid h2
    replace HK := Lib.hid (HK.out.trans k2)
    clear h2 k2
    have fc34 : w33.cell? ⟨w.heap.size, 0, none⟩ = some (.int .i64 0) := HX_r.out.cell 0
    have fc35 : w33.cell? ⟨w.heap.size, 1, none⟩ = some (.int .i64 0) := HX_r.out.cell 1
    have fc36 : w33.cell? ⟨w.heap.size, 2, none⟩ = some (.int .i64 0) := HX_r.out.cell 2
    have fc37 : w33.cell? ⟨w14.heap.size, 0, none⟩ = some (.int .i64 x) := HX_a.out.cell 0
    have fz38 : w33.frozen? ⟨w14.heap.size, 0, none⟩ = false := HX_a.out.free 0
    have fc39 : w33.cell? ⟨w14.heap.size, 1, none⟩ = some (.int .i64 y) := HX_a.out.cell 1
    have fz40 : w33.frozen? ⟨w14.heap.size, 1, none⟩ = false := HX_a.out.free 1
    have fc41 : w33.cell? ⟨w14.heap.size, 2, none⟩ = some (.int .i64 z) := HX_a.out.cell 2
    have fz42 : w33.frozen? ⟨w14.heap.size, 2, none⟩ = false := HX_a.out.free 2
    obtain ⟨w43, hW43⟩ : ∃ W, Hid (w33.setCell ⟨w14.heap.size, 2, none⟩ (.int .i64 v) = W) := ⟨_, Lib.hid rfl⟩
    have z43 : w43.heap.size = w33.heap.size := by rw [← hW43.out, World.size_setCell]
    have hk43 : Kept (w14.heap.size) (w14.heap.size + 1) w33 w43 := by rw [← hW43.out]; exact (Kept.refl _ _ _).setCell (p := ⟨w14.heap.size, 2, none⟩) (Nat.le_refl _) (Nat.lt_succ_self _) _
    have hx43 : Bx w43 (w14.heap.size) #[.int .i64 x, .int .i64 y, .int .i64 v] 52 := by have := HX_a.out.set 2 (.int .i64 v); rw [hW43.out] at this; exact this
    have hr43 := HR.out.move (w' := w43) (hk43.block g HR.out.lt (by omega)) (hk43.to_below (by omega) |>.mono (by have := HR.out.low; omega))
    have hq43 : Kept g (g + 1) w w43 := kept_up19 HK.out hk43 (by omega)
    go_wp2
    rw [hW43.out]
    clear fc34 fc35 fc36 fc37 fz38 fc39 fz40 fc41 fz42 hW43
    replace HX_r := Lib.hid (HX_r.out.kept hk43 (.inl (by omega)))
    replace HX_a := Lib.hid hx43
    have HR2 := Lib.hid hr43
    have HK2 := Lib.hid hq43
    replace HR := HR2
    replace HK := HK2
    clear hk43 hx43 hr43 hq43 HR2 HK2
    have e44 : w43.cell? ⟨w14.heap.size, 0, none⟩ = some (.int .i64 x) := HX_a.out.cell 0
    have e45 : w43.cell? ⟨w14.heap.size, 1, none⟩ = some (.int .i64 y) := HX_a.out.cell 1
    have e46 : w43.cell? ⟨w14.heap.size, 2, none⟩ = some (.int .i64 v) := HX_a.out.cell 2
    have e47 : w43.cell? ⟨w.heap.size, 0, none⟩ = some (.int .i64 0) := HX_r.out.cell 0
    have e48 : w43.frozen? ⟨w.heap.size, 0, none⟩ = false := HX_r.out.free 0
    have e49 : w43.cell? ⟨w.heap.size, 1, none⟩ = some (.int .i64 0) := HX_r.out.cell 1
    have e50 : w43.frozen? ⟨w.heap.size, 1, none⟩ = false := HX_r.out.free 1
    have e51 : w43.cell? ⟨w.heap.size, 2, none⟩ = some (.int .i64 0) := HX_r.out.cell 2
    have e52 : w43.frozen? ⟨w.heap.size, 2, none⟩ = false := HX_r.out.free 2
    go_region_with (fail)
    go_wp2
    have hkR := kept_set3b (w := w43) (B := w.heap.size) (.int .i64 x) (.int .i64 y) (.int .i64 v)
    have hxR := ((HX_r.out.set 0 (.int .i64 x)).set 1 (.int .i64 y)).set 2 (.int .i64 v)
    have hrR := HR.out.move (hkR.block g HR.out.lt (by omega)) ((hkR.to_below (by omega)).mono (by omega))
    have hqR := kept_up19 HK.out hkR (Nat.le_refl _)
    exact bodyPost_ret (v := .tuple #[.int .i64 ke, .agg #[.int .i64 x, .int .i64 y, .int .i64 v]]) (resPfR rfl rfl rfl (bx_drew hxR)) rfl ⟨_, _, _, _, _, rfl, by omega, hrR.drewN 1, hqR.drew⟩
  have b0 : (d == 0) = false := by rw [beq_eq_false_iff_ne]; exact h0
  by_cases h1 : d = 1
  · subst h1
    have fc53 : w26.cell? ⟨w.heap.size, 0, none⟩ = some (.int .i64 0) := HX_r.out.cell 0
    have fc54 : w26.cell? ⟨w.heap.size, 1, none⟩ = some (.int .i64 0) := HX_r.out.cell 1
    have fc55 : w26.cell? ⟨w.heap.size, 2, none⟩ = some (.int .i64 0) := HX_r.out.cell 2
    have fc56 : w26.cell? ⟨w14.heap.size, 0, none⟩ = some (.int .i64 x) := HX_a.out.cell 0
    have fc57 : w26.cell? ⟨w14.heap.size, 1, none⟩ = some (.int .i64 y) := HX_a.out.cell 1
    have fc58 : w26.cell? ⟨w14.heap.size, 2, none⟩ = some (.int .i64 z) := HX_a.out.cell 2
    go_wp2_with fail
    clear fc53 fc54 fc55 fc56 fc57 fc58
    refine (d_l91Element _ _ _ _ _ _ _ _ HR.out (by omega)).mono ?_
    rintro e w59 ⟨v, qv, rfl, _, hqv, h2, k2⟩
    have z59 : w26.heap.size ≤ w59.heap.size := k2.size
    replace HX_r := Lib.hid (HX_r.out.kept k2 (.inr (by omega)))
    replace HX_a := Lib.hid (HX_a.out.kept k2 (.inr (by omega)))
    replace HR := Lib.hid h2
    replace HK := Lib.hid (HK.out.trans k2)
    clear h2 k2
    have fc60 : w59.cell? ⟨w.heap.size, 0, none⟩ = some (.int .i64 0) := HX_r.out.cell 0
    have fc61 : w59.cell? ⟨w.heap.size, 1, none⟩ = some (.int .i64 0) := HX_r.out.cell 1
    have fc62 : w59.cell? ⟨w.heap.size, 2, none⟩ = some (.int .i64 0) := HX_r.out.cell 2
    have fc63 : w59.cell? ⟨w14.heap.size, 0, none⟩ = some (.int .i64 x) := HX_a.out.cell 0
    have fz64 : w59.frozen? ⟨w14.heap.size, 0, none⟩ = false := HX_a.out.free 0
    have fc65 : w59.cell? ⟨w14.heap.size, 1, none⟩ = some (.int .i64 y) := HX_a.out.cell 1
    have fz66 : w59.frozen? ⟨w14.heap.size, 1, none⟩ = false := HX_a.out.free 1
    have fc67 : w59.cell? ⟨w14.heap.size, 2, none⟩ = some (.int .i64 z) := HX_a.out.cell 2
    have fz68 : w59.frozen? ⟨w14.heap.size, 2, none⟩ = false := HX_a.out.free 2
    obtain ⟨w69, hW69⟩ : ∃ W, Hid (w59.setCell ⟨w14.heap.size, 0, none⟩ (.int .i64 v) = W) := ⟨_, Lib.hid rfl⟩
    have z69 : w69.heap.size = w59.heap.size := by rw [← hW69.out, World.size_setCell]
    have hk69 : Kept (w14.heap.size) (w14.heap.size + 1) w59 w69 := by rw [← hW69.out]; exact (Kept.refl _ _ _).setCell (p := ⟨w14.heap.size, 0, none⟩) (Nat.le_refl _) (Nat.lt_succ_self _) _
    have hx69 : Bx w69 (w14.heap.size) #[.int .i64 v, .int .i64 y, .int .i64 z] 52 := by have := HX_a.out.set 0 (.int .i64 v); rw [hW69.out] at this; exact this
    have hr69 := HR.out.move (w' := w69) (hk69.block g HR.out.lt (by omega)) (hk69.to_below (by omega) |>.mono (by have := HR.out.low; omega))
    have hq69 : Kept g (g + 1) w w69 := kept_up19 HK.out hk69 (by omega)
    go_wp2
    rw [hW69.out]
    clear fc60 fc61 fc62 fc63 fz64 fc65 fz66 fc67 fz68 hW69
    replace HX_r := Lib.hid (HX_r.out.kept hk69 (.inl (by omega)))
    replace HX_a := Lib.hid hx69
    have HR2 := Lib.hid hr69
    have HK2 := Lib.hid hq69
    replace HR := HR2
    replace HK := HK2
    clear hk69 hx69 hr69 hq69 HR2 HK2
    have e70 : w69.cell? ⟨w14.heap.size, 0, none⟩ = some (.int .i64 v) := HX_a.out.cell 0
    have e71 : w69.cell? ⟨w14.heap.size, 1, none⟩ = some (.int .i64 y) := HX_a.out.cell 1
    have e72 : w69.cell? ⟨w14.heap.size, 2, none⟩ = some (.int .i64 z) := HX_a.out.cell 2
    have e73 : w69.cell? ⟨w.heap.size, 0, none⟩ = some (.int .i64 0) := HX_r.out.cell 0
    have e74 : w69.frozen? ⟨w.heap.size, 0, none⟩ = false := HX_r.out.free 0
    have e75 : w69.cell? ⟨w.heap.size, 1, none⟩ = some (.int .i64 0) := HX_r.out.cell 1
    have e76 : w69.frozen? ⟨w.heap.size, 1, none⟩ = false := HX_r.out.free 1
    have e77 : w69.cell? ⟨w.heap.size, 2, none⟩ = some (.int .i64 0) := HX_r.out.cell 2
    have e78 : w69.frozen? ⟨w.heap.size, 2, none⟩ = false := HX_r.out.free 2
    go_region_with (fail)
    go_wp2
    have hkR := kept_set3b (w := w69) (B := w.heap.size) (.int .i64 v) (.int .i64 y) (.int .i64 z)
    have hxR := ((HX_r.out.set 0 (.int .i64 v)).set 1 (.int .i64 y)).set 2 (.int .i64 z)
    have hrR := HR.out.move (hkR.block g HR.out.lt (by omega)) ((hkR.to_below (by omega)).mono (by omega))
    have hqR := kept_up19 HK.out hkR (Nat.le_refl _)
    exact bodyPost_ret (v := .tuple #[.int .i64 ke, .agg #[.int .i64 v, .int .i64 y, .int .i64 z]]) (resPfR rfl rfl rfl (bx_drew hxR)) rfl ⟨_, _, _, _, _, rfl, by omega, hrR.drewN 1, hqR.drew⟩
  have b1 : (d == 1) = false := by rw [beq_eq_false_iff_ne]; exact h1
  by_cases h2 : d = 2
  · subst h2
    have fc79 : w26.cell? ⟨w.heap.size, 0, none⟩ = some (.int .i64 0) := HX_r.out.cell 0
    have fc80 : w26.cell? ⟨w.heap.size, 1, none⟩ = some (.int .i64 0) := HX_r.out.cell 1
    have fc81 : w26.cell? ⟨w.heap.size, 2, none⟩ = some (.int .i64 0) := HX_r.out.cell 2
    have fc82 : w26.cell? ⟨w14.heap.size, 0, none⟩ = some (.int .i64 x) := HX_a.out.cell 0
    have fc83 : w26.cell? ⟨w14.heap.size, 1, none⟩ = some (.int .i64 y) := HX_a.out.cell 1
    have fc84 : w26.cell? ⟨w14.heap.size, 2, none⟩ = some (.int .i64 z) := HX_a.out.cell 2
    go_wp2_with fail
    clear fc79 fc80 fc81 fc82 fc83 fc84
    refine (d_l91Element _ _ _ _ _ _ _ _ HR.out (by omega)).mono ?_
    rintro e w85 ⟨v, qv, rfl, _, hqv, h2, k2⟩
    have z85 : w26.heap.size ≤ w85.heap.size := k2.size
    replace HX_r := Lib.hid (HX_r.out.kept k2 (.inr (by omega)))
    replace HX_a := Lib.hid (HX_a.out.kept k2 (.inr (by omega)))
    replace HR := Lib.hid h2
    replace HK := Lib.hid (HK.out.trans k2)
    clear h2 k2
    have e86 : w85.cell? ⟨w14.heap.size, 0, none⟩ = some (.int .i64 x) := HX_a.out.cell 0
    have e87 : w85.cell? ⟨w14.heap.size, 1, none⟩ = some (.int .i64 y) := HX_a.out.cell 1
    have e88 : w85.cell? ⟨w14.heap.size, 2, none⟩ = some (.int .i64 z) := HX_a.out.cell 2
    have e89 : w85.cell? ⟨w.heap.size, 0, none⟩ = some (.int .i64 0) := HX_r.out.cell 0
    have e90 : w85.frozen? ⟨w.heap.size, 0, none⟩ = false := HX_r.out.free 0
    have e91 : w85.cell? ⟨w.heap.size, 1, none⟩ = some (.int .i64 0) := HX_r.out.cell 1
    have e92 : w85.frozen? ⟨w.heap.size, 1, none⟩ = false := HX_r.out.free 1
    have e93 : w85.cell? ⟨w.heap.size, 2, none⟩ = some (.int .i64 0) := HX_r.out.cell 2
    have e94 : w85.frozen? ⟨w.heap.size, 2, none⟩ = false := HX_r.out.free 2
    go_wp2
    go_region_with (fail)
    go_wp2
    have hkR := kept_set3b (w := w85) (B := w.heap.size) (.int .i64 x) (.int .i64 y) (.int .i64 z)
    have hxR := ((HX_r.out.set 0 (.int .i64 x)).set 1 (.int .i64 y)).set 2 (.int .i64 z)
    have hrR := HR.out.move (hkR.block g HR.out.lt (by omega)) ((hkR.to_below (by omega)).mono (by omega))
    have hqR := kept_up19 HK.out hkR (Nat.le_refl _)
    exact bodyPost_ret (v := .tuple #[.int .i64 v, .agg #[.int .i64 x, .int .i64 y, .int .i64 z]]) (resPfR rfl rfl rfl (bx_drew hxR)) rfl ⟨_, _, _, _, _, rfl, by omega, hrR.drewN 1, hqR.drew⟩
  have b2 : (d == 2) = false := by rw [beq_eq_false_iff_ne]; exact h2
  clear h0 h1 h2
  have e95 : w26.cell? ⟨w14.heap.size, 0, none⟩ = some (.int .i64 x) := HX_a.out.cell 0
  have e96 : w26.cell? ⟨w14.heap.size, 1, none⟩ = some (.int .i64 y) := HX_a.out.cell 1
  have e97 : w26.cell? ⟨w14.heap.size, 2, none⟩ = some (.int .i64 z) := HX_a.out.cell 2
  have e98 : w26.cell? ⟨w.heap.size, 0, none⟩ = some (.int .i64 0) := HX_r.out.cell 0
  have e99 : w26.frozen? ⟨w.heap.size, 0, none⟩ = false := HX_r.out.free 0
  have e100 : w26.cell? ⟨w.heap.size, 1, none⟩ = some (.int .i64 0) := HX_r.out.cell 1
  have e101 : w26.frozen? ⟨w.heap.size, 1, none⟩ = false := HX_r.out.free 1
  have e102 : w26.cell? ⟨w.heap.size, 2, none⟩ = some (.int .i64 0) := HX_r.out.cell 2
  have e103 : w26.frozen? ⟨w.heap.size, 2, none⟩ = false := HX_r.out.free 2
  go_wp2
  go_region_with (fail)
  go_wp2
  have hkR := kept_set3b (w := w26) (B := w.heap.size) (.int .i64 x) (.int .i64 y) (.int .i64 z)
  have hxR := ((HX_r.out.set 0 (.int .i64 x)).set 1 (.int .i64 y)).set 2 (.int .i64 z)
  have hrR := HR.out.move (hkR.block g HR.out.lt (by omega)) ((hkR.to_below (by omega)).mono (by omega))
  have hqR := kept_up19 HK.out hkR (Nat.le_refl _)
  exact bodyPost_ret (v := .tuple #[.int .i64 ke, .agg #[.int .i64 x, .int .i64 y, .int .i64 z]]) (resPfR rfl rfl rfl (bx_drew hxR)) rfl ⟨_, _, _, _, _, rfl, by omega, hrR.drewN 1, hqR.drew⟩
end Go.Proofs.Ytaiilopfdjbceaa
