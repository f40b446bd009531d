/- P86: what is drawn for it, the law's walk. Made by tools/plain/d14.py. -/
import Derived.Test.YtaiilopfdjbceaaPlain15
import Derived.Deep.RegionWith
namespace Go.Proofs.Ytaiilopfdjbceaa
open Go.RowKit
set_option maxRecDepth 100000

theorem resPfR2 {fn : Func} {t t2 u : Tmp} {tmps : Array Value} {w : World} {g g2 : Nat} {a b c d e f x : Value} (h : fn.results = #[.tmp u, .cell t 52, .cell t2 52]) (ht : tmps.getD t undef = .pointer (some ⟨g, 0, none⟩)) (ht2 : tmps.getD t2 undef = .pointer (some ⟨g2, 0, none⟩)) (hu : tmps.getD u undef = x) (hb : Bx w g #[a, b, c] 52) (hb2 : Bx w g2 #[d, e, f] 52) :
    (results fn tmps).run Try.prog w = .ok (.tuple #[x, .agg #[a, b, c], .agg #[d, e, f]]) w := by
  have hr : w.rangeAt g 0 [a, b, c] := fun j v hv => by
    rw [Nat.zero_add, cell_of_row w g j _ _ (0, 0) hb]; simpa using hv
  have hr2 : w.rangeAt g2 0 [d, e, f] := fun j v hv => by
    rw [Nat.zero_add, cell_of_row w g2 j _ _ (0, 0) hb2]; simpa using hv
  have h1 := run_loadVar_mid (P := Try.prog) w g 0 52 [a, b, c] _ hr Try.underlying52 rfl infoPfR
  have h2 := run_loadVar_mid (P := Try.prog) w g2 0 52 [d, e, f] _ hr2 Try.underlying52 rfl infoPfR
  have k1 : tmps[t]?.getD undef = .pointer (some ⟨g, 0, none⟩) := by rw [← ht]; simp
  have k2 : tmps[t2]?.getD undef = .pointer (some ⟨g2, 0, none⟩) := by rw [← ht2]; simp
  subst hu
  simp [results, h, k1, k2, h1, h2, asAddr]
theorem kept_in {w w1 w2 : World} {g lo hi : Nat} (h : Kept g (g + 1) w w1) (k : Kept lo hi w1 w2) (hB : w.heap.size ≤ lo) : Kept g (g + 1) w w2 :=
  ⟨k.os.trans h.os, k.tape.trans h.tape, k.output.trans h.output, Nat.le_trans h.size k.size, fun i hi' hn => (k.block i (Nat.lt_of_lt_of_le hi' h.size) (by omega)).trans (h.block i hi' hn)⟩
set_option maxHeartbeats 16000000 in
theorem d_l92Secret (g hi p : Nat) (A : Option Addr) (n c : Nat) (bs : List Int) (w : World) (h : Rdr w g hi p A n c bs) (hp : p < 900000) :
    Calls Try.prog 79 #[.pointer (some ⟨g, 0, none⟩)] w fun e w' => ∃ ke x c1 r x2 c2 r2 q, e = .returned (.tuple #[.int .i64 ke, .agg #[.int .i64 x, .int .i64 c1, .int .i64 r], .agg #[.int .i64 x2, .int .i64 c2, .int .i64 r2]]) ∧ q ≤ p + 20 ∧ Rdr w' g hi q A n c bs ∧ Kept g (g + 1) w w' := by
  have hgw : g < w.heap.size := h.lt
  have hig : hi ≤ g := h.low
  obtain ⟨W0, hW0⟩ : ∃ W, Hid ((w.alloc (.cells #[.int .i64 0, .int .i64 0, .int .i64 0] 52)).alloc (.cells #[.int .i64 0, .int .i64 0, .int .i64 0] 52) = W) := ⟨_, Lib.hid rfl⟩
  have HX_r1 : Hid (Bx W0 w.heap.size #[.int .i64 0, .int .i64 0, .int .i64 0] 52) := Lib.hid (by rw [← hW0.out]; exact (Bx.new _ _ _).alloc _)
  have HX_r2 : Hid (Bx W0 (w.heap.size + 1) #[.int .i64 0, .int .i64 0, .int .i64 0] 52) := Lib.hid (by rw [← hW0.out]; have := Bx.new (w.alloc (.cells #[.int .i64 0, .int .i64 0, .int .i64 0] 52)) #[.int .i64 0, .int .i64 0, .int .i64 0] 52; simp only [World.size_alloc] at this; exact this)
  have HR : Hid (Rdr W0 g hi p A n c bs) := Lib.hid (by rw [← hW0.out]; exact (h.alloc _).alloc _)
  have HK : Hid (Kept g (g + 1) w W0) := Lib.hid (by rw [← hW0.out]; exact (kept_alloc _ _ _ _).trans (kept_alloc _ _ _ _))
  have z0 : w.heap.size + 2 ≤ W0.heap.size := by rw [← hW0.out]; simp only [World.size_alloc]; omega
  clear h
  go_enter Try.func79, Try.ntmps79
  have fc1 : W0.cell? ⟨w.heap.size, 0, none⟩ = some (.int .i64 0) := HX_r1.out.cell 0
  have fc2 : W0.cell? ⟨w.heap.size, 1, none⟩ = some (.int .i64 0) := HX_r1.out.cell 1
  have fc3 : W0.cell? ⟨w.heap.size, 2, none⟩ = some (.int .i64 0) := HX_r1.out.cell 2
  have fc4 : W0.cell? ⟨(w.heap.size + 1), 0, none⟩ = some (.int .i64 0) := HX_r2.out.cell 0
  have fc5 : W0.cell? ⟨(w.heap.size + 1), 1, none⟩ = some (.int .i64 0) := HX_r2.out.cell 1
  have fc6 : W0.cell? ⟨(w.heap.size + 1), 2, none⟩ = some (.int .i64 0) := HX_r2.out.cell 2
  go_wp2_with fail
  rw [hW0.out]
  clear hW0
  clear fc1 fc2 fc3 fc4 fc5 fc6
  refine (d_pick _ _ _ _ _ _ _ _ _ HR.out (by omega) (by omega) (by omega)).mono ?_
  rintro e w7 ⟨s, rfl, s0, s1, h2, k2⟩
  have z7 : W0.heap.size ≤ w7.heap.size := k2.size
  replace HX_r1 := Lib.hid (HX_r1.out.kept k2 (.inr (by omega)))
  replace HX_r2 := Lib.hid (HX_r2.out.kept k2 (.inr (by omega)))
  replace HR := Lib.hid h2
  replace HK := Lib.hid (HK.out.trans k2)
  clear h2 k2
  have fc8 : w7.cell? ⟨w.heap.size, 0, none⟩ = some (.int .i64 0) := HX_r1.out.cell 0
  have fc9 : w7.cell? ⟨w.heap.size, 1, none⟩ = some (.int .i64 0) := HX_r1.out.cell 1
  have fc10 : w7.cell? ⟨w.heap.size, 2, none⟩ = some (.int .i64 0) := HX_r1.out.cell 2
  have fc11 : w7.cell? ⟨(w.heap.size + 1), 0, none⟩ = some (.int .i64 0) := HX_r2.out.cell 0
  have fc12 : w7.cell? ⟨(w.heap.size + 1), 1, none⟩ = some (.int .i64 0) := HX_r2.out.cell 1
  have fc13 : w7.cell? ⟨(w.heap.size + 1), 2, none⟩ = some (.int .i64 0) := HX_r2.out.cell 2
  go_wp2_with fail
  clear fc8 fc9 fc10 fc11 fc12 fc13
  refine (d_pick _ _ _ _ _ _ _ _ _ HR.out (by omega) (by omega) (by omega)).mono ?_
  rintro e w14 ⟨a, rfl, a0, a1, h2, k2⟩
  have z14 : w7.heap.size ≤ w14.heap.size := k2.size
  replace HX_r1 := Lib.hid (HX_r1.out.kept k2 (.inr (by omega)))
  replace HX_r2 := Lib.hid (HX_r2.out.kept k2 (.inr (by omega)))
  replace HR := Lib.hid h2
  replace HK := Lib.hid (HK.out.trans k2)
  clear h2 k2
  have fc15 : w14.cell? ⟨w.heap.size, 0, none⟩ = some (.int .i64 0) := HX_r1.out.cell 0
  have fc16 : w14.cell? ⟨w.heap.size, 1, none⟩ = some (.int .i64 0) := HX_r1.out.cell 1
  have fc17 : w14.cell? ⟨w.heap.size, 2, none⟩ = some (.int .i64 0) := HX_r1.out.cell 2
  have fc18 : w14.cell? ⟨(w.heap.size + 1), 0, none⟩ = some (.int .i64 0) := HX_r2.out.cell 0
  have fc19 : w14.cell? ⟨(w.heap.size + 1), 1, none⟩ = some (.int .i64 0) := HX_r2.out.cell 1
  have fc20 : w14.cell? ⟨(w.heap.size + 1), 2, none⟩ = some (.int .i64 0) := HX_r2.out.cell 2
  go_wp2_with fail
  clear fc15 fc16 fc17 fc18 fc19 fc20
  refine (d_pick _ _ _ _ _ _ _ _ _ HR.out (by omega) (by omega) (by omega)).mono ?_
  rintro e w21 ⟨b, rfl, b0, b1, h2, k2⟩
  have z21 : w14.heap.size ≤ w21.heap.size := k2.size
  replace HX_r1 := Lib.hid (HX_r1.out.kept k2 (.inr (by omega)))
  replace HX_r2 := Lib.hid (HX_r2.out.kept k2 (.inr (by omega)))
  replace HR := Lib.hid h2
  replace HK := Lib.hid (HK.out.trans k2)
  clear h2 k2
  have HPM := Lib.hid (X_s_ProofMake s a b w21)
  obtain ⟨x1, hx⟩ : ∃ v, Hid ((makeD s a b).1 = v) := ⟨_, Lib.hid rfl⟩
  obtain ⟨y1, hy⟩ : ∃ v, Hid ((makeD s a b).2.1 = v) := ⟨_, Lib.hid rfl⟩
  obtain ⟨v1, hz⟩ : ∃ v, Hid ((makeD s a b).2.2 = v) := ⟨_, Lib.hid rfl⟩
  obtain ⟨o1, ho⟩ : ∃ v, Hid (makeB s a b = v) := ⟨_, Lib.hid rfl⟩
  rw [hx.out, hy.out, hz.out, ho.out] at HPM
  clear hx hy hz ho
  have fc22 : w21.cell? ⟨w.heap.size, 0, none⟩ = some (.int .i64 0) := HX_r1.out.cell 0
  have fc23 : w21.cell? ⟨w.heap.size, 1, none⟩ = some (.int .i64 0) := HX_r1.out.cell 1
  have fc24 : w21.cell? ⟨w.heap.size, 2, none⟩ = some (.int .i64 0) := HX_r1.out.cell 2
  have fc25 : w21.cell? ⟨(w.heap.size + 1), 0, none⟩ = some (.int .i64 0) := HX_r2.out.cell 0
  have fc26 : w21.cell? ⟨(w.heap.size + 1), 1, none⟩ = some (.int .i64 0) := HX_r2.out.cell 1
  have fc27 : w21.cell? ⟨(w.heap.size + 1), 2, none⟩ = some (.int .i64 0) := HX_r2.out.cell 2
  go_wp2_with fail
  clear fc22 fc23 fc24 fc25 fc26 fc27
  refine (rdr_call HR.out HPM.out).mono ?_
  rintro e w28 ⟨rfl, h2, k2⟩
  have z28 : w21.heap.size ≤ w28.heap.size := k2.size
  replace HX_r1 := Lib.hid (HX_r1.out.kept k2 (.inr (by omega)))
  replace HX_r2 := Lib.hid (HX_r2.out.kept k2 (.inr (by omega)))
  replace HR := Lib.hid h2
  replace HK := Lib.hid (HK.out.trans k2)
  clear h2 k2
  clear HPM
  have fc29 : (w28.alloc (.cells #[.int .i64 x1, .int .i64 y1, .int .i64 v1] 52)).cell? ⟨w.heap.size, 0, none⟩ = some (.int .i64 0) := (HX_r1.out.alloc _).cell 0
  have fc30 : (w28.alloc (.cells #[.int .i64 x1, .int .i64 y1, .int .i64 v1] 52)).cell? ⟨w.heap.size, 1, none⟩ = some (.int .i64 0) := (HX_r1.out.alloc _).cell 1
  have fc31 : (w28.alloc (.cells #[.int .i64 x1, .int .i64 y1, .int .i64 v1] 52)).cell? ⟨w.heap.size, 2, none⟩ = some (.int .i64 0) := (HX_r1.out.alloc _).cell 2
  have fc32 : (w28.alloc (.cells #[.int .i64 x1, .int .i64 y1, .int .i64 v1] 52)).cell? ⟨(w.heap.size + 1), 0, none⟩ = some (.int .i64 0) := (HX_r2.out.alloc _).cell 0
  have fc33 : (w28.alloc (.cells #[.int .i64 x1, .int .i64 y1, .int .i64 v1] 52)).cell? ⟨(w.heap.size + 1), 1, none⟩ = some (.int .i64 0) := (HX_r2.out.alloc _).cell 1
  have fc34 : (w28.alloc (.cells #[.int .i64 x1, .int .i64 y1, .int .i64 v1] 52)).cell? ⟨(w.heap.size + 1), 2, none⟩ = some (.int .i64 0) := (HX_r2.out.alloc _).cell 2
  go_wp2_with fail
  clear fc29 fc30 fc31 fc32 fc33 fc34
  obtain ⟨w35, hW35⟩ : ∃ W, Hid (w28.alloc (.cells #[.int .i64 x1, .int .i64 y1, .int .i64 v1] 52) = W) := ⟨_, Lib.hid rfl⟩
  try rw [hW35.out]
  have z35 : w28.heap.size < w35.heap.size := by rw [← hW35.out, World.size_alloc]; omega
  have ha35 : Below w28.heap.size w28 w35 := by rw [← hW35.out]; exact (Below.refl _ _).alloc (Nat.le_refl _) _
  replace HX_r1 := Lib.hid (HX_r1.out.below ha35 HX_r1.out.lt)
  replace HX_r2 := Lib.hid (HX_r2.out.below ha35 HX_r2.out.lt)
  have HX_a : Hid (Bx w35 w28.heap.size #[.int .i64 x1, .int .i64 y1, .int .i64 v1] 52) := Lib.hid (by rw [← hW35.out]; exact Bx.new _ _ _)
  have hr_ := HR.out.alloc (.cells #[.int .i64 x1, .int .i64 y1, .int .i64 v1] 52)
  have hk_ := HK.out.trans (kept_alloc g (g + 1) w28 (.cells #[.int .i64 x1, .int .i64 y1, .int .i64 v1] 52))
  rw [hW35.out] at hr_ hk_
  replace HR := Lib.hid hr_
  replace HK := Lib.hid hk_
  clear ha35 hW35 hr_ hk_
  refine (d_pick _ _ _ _ _ _ _ _ _ HR.out (by omega) (by omega) (by omega)).mono ?_
  rintro e w36 ⟨d, rfl, d0, d1, h2, k2⟩
  have z36 : w35.heap.size ≤ w36.heap.size := k2.size
  replace HX_r1 := Lib.hid (HX_r1.out.kept k2 (.inr (by omega)))
  replace HX_r2 := Lib.hid (HX_r2.out.kept k2 (.inr (by omega)))
  replace HX_a := Lib.hid (HX_a.out.kept k2 (.inr (by omega)))
  replace HR := Lib.hid h2
  replace HK := Lib.hid (HK.out.trans k2)
  clear h2 k2
  have HPM := Lib.hid (X_s_ProofMake s a d w36)
  obtain ⟨x2, hx⟩ : ∃ v, Hid ((makeD s a d).1 = v) := ⟨_, Lib.hid rfl⟩
  obtain ⟨y2, hy⟩ : ∃ v, Hid ((makeD s a d).2.1 = v) := ⟨_, Lib.hid rfl⟩
  obtain ⟨v2, hz⟩ : ∃ v, Hid ((makeD s a d).2.2 = v) := ⟨_, Lib.hid rfl⟩
  obtain ⟨o2, ho⟩ : ∃ v, Hid (makeB s a d = v) := ⟨_, Lib.hid rfl⟩
  rw [hx.out, hy.out, hz.out, ho.out] at HPM
  clear hx hy hz ho
  have fc37 : w36.cell? ⟨w.heap.size, 0, none⟩ = some (.int .i64 0) := HX_r1.out.cell 0
  have fc38 : w36.cell? ⟨w.heap.size, 1, none⟩ = some (.int .i64 0) := HX_r1.out.cell 1
  have fc39 : w36.cell? ⟨w.heap.size, 2, none⟩ = some (.int .i64 0) := HX_r1.out.cell 2
  have fc40 : w36.cell? ⟨(w.heap.size + 1), 0, none⟩ = some (.int .i64 0) := HX_r2.out.cell 0
  have fc41 : w36.cell? ⟨(w.heap.size + 1), 1, none⟩ = some (.int .i64 0) := HX_r2.out.cell 1
  have fc42 : w36.cell? ⟨(w.heap.size + 1), 2, none⟩ = some (.int .i64 0) := HX_r2.out.cell 2
  have fc43 : w36.cell? ⟨w28.heap.size, 0, none⟩ = some (.int .i64 x1) := HX_a.out.cell 0
  have fc44 : w36.cell? ⟨w28.heap.size, 1, none⟩ = some (.int .i64 y1) := HX_a.out.cell 1
  have fc45 : w36.cell? ⟨w28.heap.size, 2, none⟩ = some (.int .i64 v1) := HX_a.out.cell 2
  go_wp2_with fail
  clear fc37 fc38 fc39 fc40 fc41 fc42 fc43 fc44 fc45
  refine (rdr_call HR.out HPM.out).mono ?_
  rintro e w46 ⟨rfl, h2, k2⟩
  have z46 : w36.heap.size ≤ w46.heap.size := k2.size
  replace HX_r1 := Lib.hid (HX_r1.out.kept k2 (.inr (by omega)))
  replace HX_r2 := Lib.hid (HX_r2.out.kept k2 (.inr (by omega)))
  replace HX_a := Lib.hid (HX_a.out.kept k2 (.inr (by omega)))
  replace HR := Lib.hid h2
  replace HK := Lib.hid (HK.out.trans k2)
  clear h2 k2
  clear HPM
  have fc47 : (w46.alloc (.cells #[.int .i64 x2, .int .i64 y2, .int .i64 v2] 52)).cell? ⟨w.heap.size, 0, none⟩ = some (.int .i64 0) := (HX_r1.out.alloc _).cell 0
  have fc48 : (w46.alloc (.cells #[.int .i64 x2, .int .i64 y2, .int .i64 v2] 52)).cell? ⟨w.heap.size, 1, none⟩ = some (.int .i64 0) := (HX_r1.out.alloc _).cell 1
  have fc49 : (w46.alloc (.cells #[.int .i64 x2, .int .i64 y2, .int .i64 v2] 52)).cell? ⟨w.heap.size, 2, none⟩ = some (.int .i64 0) := (HX_r1.out.alloc _).cell 2
  have fc50 : (w46.alloc (.cells #[.int .i64 x2, .int .i64 y2, .int .i64 v2] 52)).cell? ⟨(w.heap.size + 1), 0, none⟩ = some (.int .i64 0) := (HX_r2.out.alloc _).cell 0
  have fc51 : (w46.alloc (.cells #[.int .i64 x2, .int .i64 y2, .int .i64 v2] 52)).cell? ⟨(w.heap.size + 1), 1, none⟩ = some (.int .i64 0) := (HX_r2.out.alloc _).cell 1
  have fc52 : (w46.alloc (.cells #[.int .i64 x2, .int .i64 y2, .int .i64 v2] 52)).cell? ⟨(w.heap.size + 1), 2, none⟩ = some (.int .i64 0) := (HX_r2.out.alloc _).cell 2
  have fc53 : (w46.alloc (.cells #[.int .i64 x2, .int .i64 y2, .int .i64 v2] 52)).cell? ⟨w28.heap.size, 0, none⟩ = some (.int .i64 x1) := (HX_a.out.alloc _).cell 0
  have fc54 : (w46.alloc (.cells #[.int .i64 x2, .int .i64 y2, .int .i64 v2] 52)).cell? ⟨w28.heap.size, 1, none⟩ = some (.int .i64 y1) := (HX_a.out.alloc _).cell 1
  have fc55 : (w46.alloc (.cells #[.int .i64 x2, .int .i64 y2, .int .i64 v2] 52)).cell? ⟨w28.heap.size, 2, none⟩ = some (.int .i64 v1) := (HX_a.out.alloc _).cell 2
  go_wp2_with fail
  clear fc47 fc48 fc49 fc50 fc51 fc52 fc53 fc54 fc55
  obtain ⟨w56, hW56⟩ : ∃ W, Hid (w46.alloc (.cells #[.int .i64 x2, .int .i64 y2, .int .i64 v2] 52) = W) := ⟨_, Lib.hid rfl⟩
  try rw [hW56.out]
  have z56 : w46.heap.size < w56.heap.size := by rw [← hW56.out, World.size_alloc]; omega
  have ha56 : Below w46.heap.size w46 w56 := by rw [← hW56.out]; exact (Below.refl _ _).alloc (Nat.le_refl _) _
  replace HX_r1 := Lib.hid (HX_r1.out.below ha56 HX_r1.out.lt)
  replace HX_r2 := Lib.hid (HX_r2.out.below ha56 HX_r2.out.lt)
  replace HX_a := Lib.hid (HX_a.out.below ha56 HX_a.out.lt)
  have HX_b : Hid (Bx w56 w46.heap.size #[.int .i64 x2, .int .i64 y2, .int .i64 v2] 52) := Lib.hid (by rw [← hW56.out]; exact Bx.new _ _ _)
  have hr_ := HR.out.alloc (.cells #[.int .i64 x2, .int .i64 y2, .int .i64 v2] 52)
  have hk_ := HK.out.trans (kept_alloc g (g + 1) w46 (.cells #[.int .i64 x2, .int .i64 y2, .int .i64 v2] 52))
  rw [hW56.out] at hr_ hk_
  replace HR := Lib.hid hr_
  replace HK := Lib.hid hk_
  clear ha56 hW56 hr_ hk_
  refine (d_pick _ _ _ _ _ _ _ _ _ HR.out (by omega) (by omega) (by omega)).mono ?_
  rintro e w57 ⟨k1, rfl, k10, k11, h2, k2⟩
  have z57 : w56.heap.size ≤ w57.heap.size := k2.size
  replace HX_r1 := Lib.hid (HX_r1.out.kept k2 (.inr (by omega)))
  replace HX_r2 := Lib.hid (HX_r2.out.kept k2 (.inr (by omega)))
  replace HX_a := Lib.hid (HX_a.out.kept k2 (.inr (by omega)))
  replace HX_b := Lib.hid (HX_b.out.kept k2 (.inr (by omega)))
  replace HR := Lib.hid h2
  replace HK := Lib.hid (HK.out.trans k2)
  clear h2 k2
  by_cases h1 : k1 = 0
  · subst h1
    have fc58 : w57.cell? ⟨w.heap.size, 0, none⟩ = some (.int .i64 0) := HX_r1.out.cell 0
    have fc59 : w57.cell? ⟨w.heap.size, 1, none⟩ = some (.int .i64 0) := HX_r1.out.cell 1
    have fc60 : w57.cell? ⟨w.heap.size, 2, none⟩ = some (.int .i64 0) := HX_r1.out.cell 2
    have fc61 : w57.cell? ⟨(w.heap.size + 1), 0, none⟩ = some (.int .i64 0) := HX_r2.out.cell 0
    have fc62 : w57.cell? ⟨(w.heap.size + 1), 1, none⟩ = some (.int .i64 0) := HX_r2.out.cell 1
    have fc63 : w57.cell? ⟨(w.heap.size + 1), 2, none⟩ = some (.int .i64 0) := HX_r2.out.cell 2
    have fc64 : w57.cell? ⟨w28.heap.size, 0, none⟩ = some (.int .i64 x1) := HX_a.out.cell 0
    have fc65 : w57.cell? ⟨w28.heap.size, 1, none⟩ = some (.int .i64 y1) := HX_a.out.cell 1
    have fc66 : w57.cell? ⟨w28.heap.size, 2, none⟩ = some (.int .i64 v1) := HX_a.out.cell 2
    have fc67 : w57.cell? ⟨w46.heap.size, 0, none⟩ = some (.int .i64 x2) := HX_b.out.cell 0
    have fc68 : w57.cell? ⟨w46.heap.size, 1, none⟩ = some (.int .i64 y2) := HX_b.out.cell 1
    have fc69 : w57.cell? ⟨w46.heap.size, 2, none⟩ = some (.int .i64 v2) := HX_b.out.cell 2
    go_wp2_with fail
    clear fc58 fc59 fc60 fc61 fc62 fc63 fc64 fc65 fc66 fc67 fc68 fc69
    refine (d_pick _ _ _ _ _ _ _ _ _ HR.out (by omega) (by omega) (by omega)).mono ?_
    rintro e w70 ⟨a2, rfl, a20, a21, h2, k2⟩
    have z70 : w57.heap.size ≤ w70.heap.size := k2.size
    replace HX_r1 := Lib.hid (HX_r1.out.kept k2 (.inr (by omega)))
    replace HX_r2 := Lib.hid (HX_r2.out.kept k2 (.inr (by omega)))
    replace HX_a := Lib.hid (HX_a.out.kept k2 (.inr (by omega)))
    replace HX_b := Lib.hid (HX_b.out.kept k2 (.inr (by omega)))
    replace HR := Lib.hid h2
    replace HK := Lib.hid (HK.out.trans k2)
    clear h2 k2
    have fc71 : w70.cell? ⟨w.heap.size, 0, none⟩ = some (.int .i64 0) := HX_r1.out.cell 0
    have fc72 : w70.cell? ⟨w.heap.size, 1, none⟩ = some (.int .i64 0) := HX_r1.out.cell 1
    have fc73 : w70.cell? ⟨w.heap.size, 2, none⟩ = some (.int .i64 0) := HX_r1.out.cell 2
    have fc74 : w70.cell? ⟨(w.heap.size + 1), 0, none⟩ = some (.int .i64 0) := HX_r2.out.cell 0
    have fc75 : w70.cell? ⟨(w.heap.size + 1), 1, none⟩ = some (.int .i64 0) := HX_r2.out.cell 1
    have fc76 : w70.cell? ⟨(w.heap.size + 1), 2, none⟩ = some (.int .i64 0) := HX_r2.out.cell 2
    have fc77 : w70.cell? ⟨w28.heap.size, 0, none⟩ = some (.int .i64 x1) := HX_a.out.cell 0
    have fc78 : w70.cell? ⟨w28.heap.size, 1, none⟩ = some (.int .i64 y1) := HX_a.out.cell 1
    have fc79 : w70.cell? ⟨w28.heap.size, 2, none⟩ = some (.int .i64 v1) := HX_a.out.cell 2
    have fc80 : w70.cell? ⟨w46.heap.size, 0, none⟩ = some (.int .i64 x2) := HX_b.out.cell 0
    have fc81 : w70.cell? ⟨w46.heap.size, 1, none⟩ = some (.int .i64 y2) := HX_b.out.cell 1
    have fc82 : w70.cell? ⟨w46.heap.size, 2, none⟩ = some (.int .i64 v2) := HX_b.out.cell 2
    go_wp2_with fail
    clear fc71 fc72 fc73 fc74 fc75 fc76 fc77 fc78 fc79 fc80 fc81 fc82
    refine (d_pick _ _ _ _ _ _ _ _ _ HR.out (by omega) (by omega) (by omega)).mono ?_
    rintro e w83 ⟨b2, rfl, b20, b21, h2, k2⟩
    have z83 : w70.heap.size ≤ w83.heap.size := k2.size
    replace HX_r1 := Lib.hid (HX_r1.out.kept k2 (.inr (by omega)))
    replace HX_r2 := Lib.hid (HX_r2.out.kept k2 (.inr (by omega)))
    replace HX_a := Lib.hid (HX_a.out.kept k2 (.inr (by omega)))
    replace HX_b := Lib.hid (HX_b.out.kept k2 (.inr (by omega)))
    replace HR := Lib.hid h2
    replace HK := Lib.hid (HK.out.trans k2)
    clear h2 k2
    have HPM := Lib.hid (X_s_ProofMake s a2 b2 w83)
    obtain ⟨x3, hx⟩ : ∃ v, Hid ((makeD s a2 b2).1 = v) := ⟨_, Lib.hid rfl⟩
    obtain ⟨y3, hy⟩ : ∃ v, Hid ((makeD s a2 b2).2.1 = v) := ⟨_, Lib.hid rfl⟩
    obtain ⟨v3, hz⟩ : ∃ v, Hid ((makeD s a2 b2).2.2 = v) := ⟨_, Lib.hid rfl⟩
    obtain ⟨o3, ho⟩ : ∃ v, Hid (makeB s a2 b2 = v) := ⟨_, Lib.hid rfl⟩
    rw [hx.out, hy.out, hz.out, ho.out] at HPM
    clear hx hy hz ho
    have fc84 : w83.cell? ⟨w.heap.size, 0, none⟩ = some (.int .i64 0) := HX_r1.out.cell 0
    have fc85 : w83.cell? ⟨w.heap.size, 1, none⟩ = some (.int .i64 0) := HX_r1.out.cell 1
    have fc86 : w83.cell? ⟨w.heap.size, 2, none⟩ = some (.int .i64 0) := HX_r1.out.cell 2
    have fc87 : w83.cell? ⟨(w.heap.size + 1), 0, none⟩ = some (.int .i64 0) := HX_r2.out.cell 0
    have fc88 : w83.cell? ⟨(w.heap.size + 1), 1, none⟩ = some (.int .i64 0) := HX_r2.out.cell 1
    have fc89 : w83.cell? ⟨(w.heap.size + 1), 2, none⟩ = some (.int .i64 0) := HX_r2.out.cell 2
    have fc90 : w83.cell? ⟨w28.heap.size, 0, none⟩ = some (.int .i64 x1) := HX_a.out.cell 0
    have fc91 : w83.cell? ⟨w28.heap.size, 1, none⟩ = some (.int .i64 y1) := HX_a.out.cell 1
    have fc92 : w83.cell? ⟨w28.heap.size, 2, none⟩ = some (.int .i64 v1) := HX_a.out.cell 2
    have fc93 : w83.cell? ⟨w46.heap.size, 0, none⟩ = some (.int .i64 x2) := HX_b.out.cell 0
    have fc94 : w83.cell? ⟨w46.heap.size, 1, none⟩ = some (.int .i64 y2) := HX_b.out.cell 1
    have fc95 : w83.cell? ⟨w46.heap.size, 2, none⟩ = some (.int .i64 v2) := HX_b.out.cell 2
    go_wp2_with fail
    clear fc84 fc85 fc86 fc87 fc88 fc89 fc90 fc91 fc92 fc93 fc94 fc95
    refine (rdr_call HR.out HPM.out).mono ?_
    rintro e w96 ⟨rfl, h2, k2⟩
    have z96 : w83.heap.size ≤ w96.heap.size := k2.size
    replace HX_r1 := Lib.hid (HX_r1.out.kept k2 (.inr (by omega)))
    replace HX_r2 := Lib.hid (HX_r2.out.kept k2 (.inr (by omega)))
    replace HX_a := Lib.hid (HX_a.out.kept k2 (.inr (by omega)))
    replace HX_b := Lib.hid (HX_b.out.kept k2 (.inr (by omega)))
    replace HR := Lib.hid h2
    replace HK := Lib.hid (HK.out.trans k2)
    clear h2 k2
    clear HPM
    obtain ⟨w97, hW97⟩ : ∃ W, Hid ((((w96.setCell ⟨w46.heap.size, 0, none⟩ (.int .i64 x3)).setCell ⟨w46.heap.size, 1, none⟩ (.int .i64 y3)).setCell ⟨w46.heap.size, 2, none⟩ (.int .i64 v3)) = W) := ⟨_, Lib.hid rfl⟩
    have hk97 : Kept (w46.heap.size) (w46.heap.size + 1) w96 w97 := by rw [← hW97.out]; exact (((Kept.refl _ _ _).setCell (p := ⟨w46.heap.size, 0, none⟩) (Nat.le_refl _) (Nat.lt_succ_self _) _).setCell (p := ⟨w46.heap.size, 1, none⟩) (Nat.le_refl _) (Nat.lt_succ_self _) _).setCell (p := ⟨w46.heap.size, 2, none⟩) (Nat.le_refl _) (Nat.lt_succ_self _) _
    have hx97 : Bx w97 (w46.heap.size) #[.int .i64 x3, .int .i64 y3, .int .i64 v3] 52 := by have := (((HX_b.out).set 0 (.int .i64 x3)).set 1 (.int .i64 y3)).set 2 (.int .i64 v3); rw [hW97.out] at this; exact this
    have z97 : w96.heap.size ≤ w97.heap.size := hk97.size
    have fc98 : w96.cell? ⟨w.heap.size, 0, none⟩ = some (.int .i64 0) := HX_r1.out.cell 0
    have fc99 : w96.cell? ⟨w.heap.size, 1, none⟩ = some (.int .i64 0) := HX_r1.out.cell 1
    have fc100 : w96.cell? ⟨w.heap.size, 2, none⟩ = some (.int .i64 0) := HX_r1.out.cell 2
    have fc101 : w96.cell? ⟨(w.heap.size + 1), 0, none⟩ = some (.int .i64 0) := HX_r2.out.cell 0
    have fc102 : w96.cell? ⟨(w.heap.size + 1), 1, none⟩ = some (.int .i64 0) := HX_r2.out.cell 1
    have fc103 : w96.cell? ⟨(w.heap.size + 1), 2, none⟩ = some (.int .i64 0) := HX_r2.out.cell 2
    have fc104 : w96.cell? ⟨w28.heap.size, 0, none⟩ = some (.int .i64 x1) := HX_a.out.cell 0
    have fc105 : w96.cell? ⟨w28.heap.size, 1, none⟩ = some (.int .i64 y1) := HX_a.out.cell 1
    have fc106 : w96.cell? ⟨w28.heap.size, 2, none⟩ = some (.int .i64 v1) := HX_a.out.cell 2
    have fc107 : w96.cell? ⟨w46.heap.size, 0, none⟩ = some (.int .i64 x2) := HX_b.out.cell 0
    have fz108 : w96.frozen? ⟨w46.heap.size, 0, none⟩ = false := HX_b.out.free 0
    have fc109 : w96.cell? ⟨w46.heap.size, 1, none⟩ = some (.int .i64 y2) := HX_b.out.cell 1
    have fz110 : w96.frozen? ⟨w46.heap.size, 1, none⟩ = false := HX_b.out.free 1
    have fc111 : w96.cell? ⟨w46.heap.size, 2, none⟩ = some (.int .i64 v2) := HX_b.out.cell 2
    have fz112 : w96.frozen? ⟨w46.heap.size, 2, none⟩ = false := HX_b.out.free 2
    go_wp2_with fail
    rw [hW97.out]
    clear fc98 fc99 fc100 fc101 fc102 fc103 fc104 fc105 fc106 fc107 fz108 fc109 fz110 fc111 fz112
    replace HX_r1 := Lib.hid (HX_r1.out.kept hk97 (by omega))
    replace HX_r2 := Lib.hid (HX_r2.out.kept hk97 (by omega))
    replace HX_a := Lib.hid (HX_a.out.kept hk97 (by omega))
    replace HX_b := Lib.hid hx97
    have HR2 := Lib.hid (HR.out.move (hk97.block g HR.out.lt (by omega)) ((hk97.to_below (by have := HX_b.out.lt; omega)).mono (by omega)))
    have HK2 : Hid (Kept g (g + 1) w w97) := Lib.hid (kept_in HK.out hk97 (by omega))
    replace HR := HR2
    replace HK := HK2
    clear hk97 hx97 hW97 HR2 HK2
    have fc113 : w97.cell? ⟨w.heap.size, 0, none⟩ = some (.int .i64 0) := HX_r1.out.cell 0
    have fc114 : w97.cell? ⟨w.heap.size, 1, none⟩ = some (.int .i64 0) := HX_r1.out.cell 1
    have fc115 : w97.cell? ⟨w.heap.size, 2, none⟩ = some (.int .i64 0) := HX_r1.out.cell 2
    have fc116 : w97.cell? ⟨(w.heap.size + 1), 0, none⟩ = some (.int .i64 0) := HX_r2.out.cell 0
    have fc117 : w97.cell? ⟨(w.heap.size + 1), 1, none⟩ = some (.int .i64 0) := HX_r2.out.cell 1
    have fc118 : w97.cell? ⟨(w.heap.size + 1), 2, none⟩ = some (.int .i64 0) := HX_r2.out.cell 2
    have fc119 : w97.cell? ⟨w28.heap.size, 0, none⟩ = some (.int .i64 x1) := HX_a.out.cell 0
    have fc120 : w97.cell? ⟨w28.heap.size, 1, none⟩ = some (.int .i64 y1) := HX_a.out.cell 1
    have fc121 : w97.cell? ⟨w28.heap.size, 2, none⟩ = some (.int .i64 v1) := HX_a.out.cell 2
    have fc122 : w97.cell? ⟨w46.heap.size, 0, none⟩ = some (.int .i64 x3) := HX_b.out.cell 0
    have fc123 : w97.cell? ⟨w46.heap.size, 1, none⟩ = some (.int .i64 y3) := HX_b.out.cell 1
    have fc124 : w97.cell? ⟨w46.heap.size, 2, none⟩ = some (.int .i64 v3) := HX_b.out.cell 2
    skip
    clear fc113 fc114 fc115 fc116 fc117 fc118 fc119 fc120 fc121 fc122 fc123 fc124
    refine (d_pick _ _ _ _ _ _ _ _ _ HR.out (by omega) (by omega) (by omega)).mono ?_
    rintro e w125 ⟨k2, rfl, k20, k21, h2, k2⟩
    have z125 : w97.heap.size ≤ w125.heap.size := k2.size
    replace HX_r1 := Lib.hid (HX_r1.out.kept k2 (.inr (by omega)))
    replace HX_r2 := Lib.hid (HX_r2.out.kept k2 (.inr (by omega)))
    replace HX_a := Lib.hid (HX_a.out.kept k2 (.inr (by omega)))
    replace HX_b := Lib.hid (HX_b.out.kept k2 (.inr (by omega)))
    replace HR := Lib.hid h2
    replace HK := Lib.hid (HK.out.trans k2)
    clear h2 k2
    by_cases h2 : k2 = 0
    · subst h2
      have fc126 : w125.cell? ⟨w.heap.size, 0, none⟩ = some (.int .i64 0) := HX_r1.out.cell 0
      have fc127 : w125.cell? ⟨w.heap.size, 1, none⟩ = some (.int .i64 0) := HX_r1.out.cell 1
      have fc128 : w125.cell? ⟨w.heap.size, 2, none⟩ = some (.int .i64 0) := HX_r1.out.cell 2
      have fc129 : w125.cell? ⟨(w.heap.size + 1), 0, none⟩ = some (.int .i64 0) := HX_r2.out.cell 0
      have fc130 : w125.cell? ⟨(w.heap.size + 1), 1, none⟩ = some (.int .i64 0) := HX_r2.out.cell 1
      have fc131 : w125.cell? ⟨(w.heap.size + 1), 2, none⟩ = some (.int .i64 0) := HX_r2.out.cell 2
      have fc132 : w125.cell? ⟨w28.heap.size, 0, none⟩ = some (.int .i64 x1) := HX_a.out.cell 0
      have fc133 : w125.cell? ⟨w28.heap.size, 1, none⟩ = some (.int .i64 y1) := HX_a.out.cell 1
      have fc134 : w125.cell? ⟨w28.heap.size, 2, none⟩ = some (.int .i64 v1) := HX_a.out.cell 2
      have fc135 : w125.cell? ⟨w46.heap.size, 0, none⟩ = some (.int .i64 x3) := HX_b.out.cell 0
      have fc136 : w125.cell? ⟨w46.heap.size, 1, none⟩ = some (.int .i64 y3) := HX_b.out.cell 1
      have fc137 : w125.cell? ⟨w46.heap.size, 2, none⟩ = some (.int .i64 v3) := HX_b.out.cell 2
      go_wp2_with fail
      clear fc126 fc127 fc128 fc129 fc130 fc131 fc132 fc133 fc134 fc135 fc136 fc137
      refine (d_pick _ _ _ _ _ _ _ _ _ HR.out (by omega) (by omega) (by omega)).mono ?_
      rintro e w138 ⟨y, rfl, y0, y1', h2, k2⟩
      have z138 : w125.heap.size ≤ w138.heap.size := k2.size
      replace HX_r1 := Lib.hid (HX_r1.out.kept k2 (.inr (by omega)))
      replace HX_r2 := Lib.hid (HX_r2.out.kept k2 (.inr (by omega)))
      replace HX_a := Lib.hid (HX_a.out.kept k2 (.inr (by omega)))
      replace HX_b := Lib.hid (HX_b.out.kept k2 (.inr (by omega)))
      replace HR := Lib.hid h2
      replace HK := Lib.hid (HK.out.trans k2)
      clear h2 k2
      obtain ⟨w139, hW139⟩ : ∃ W, Hid ((w138.setCell ⟨w28.heap.size, 2, none⟩ (.int .i64 y)) = W) := ⟨_, Lib.hid rfl⟩
      have hk139 : Kept (w28.heap.size) (w28.heap.size + 1) w138 w139 := by rw [← hW139.out]; exact (Kept.refl _ _ _).setCell (p := ⟨w28.heap.size, 2, none⟩) (Nat.le_refl _) (Nat.lt_succ_self _) _
      have hx139 : Bx w139 (w28.heap.size) #[.int .i64 x1, .int .i64 y1, .int .i64 y] 52 := by have := (HX_a.out).set 2 (.int .i64 y); rw [hW139.out] at this; exact this
      have z139 : w138.heap.size ≤ w139.heap.size := hk139.size
      have fc140 : w138.cell? ⟨w.heap.size, 0, none⟩ = some (.int .i64 0) := HX_r1.out.cell 0
      have fc141 : w138.cell? ⟨w.heap.size, 1, none⟩ = some (.int .i64 0) := HX_r1.out.cell 1
      have fc142 : w138.cell? ⟨w.heap.size, 2, none⟩ = some (.int .i64 0) := HX_r1.out.cell 2
      have fc143 : w138.cell? ⟨(w.heap.size + 1), 0, none⟩ = some (.int .i64 0) := HX_r2.out.cell 0
      have fc144 : w138.cell? ⟨(w.heap.size + 1), 1, none⟩ = some (.int .i64 0) := HX_r2.out.cell 1
      have fc145 : w138.cell? ⟨(w.heap.size + 1), 2, none⟩ = some (.int .i64 0) := HX_r2.out.cell 2
      have fc146 : w138.cell? ⟨w28.heap.size, 0, none⟩ = some (.int .i64 x1) := HX_a.out.cell 0
      have fz147 : w138.frozen? ⟨w28.heap.size, 0, none⟩ = false := HX_a.out.free 0
      have fc148 : w138.cell? ⟨w28.heap.size, 1, none⟩ = some (.int .i64 y1) := HX_a.out.cell 1
      have fz149 : w138.frozen? ⟨w28.heap.size, 1, none⟩ = false := HX_a.out.free 1
      have fc150 : w138.cell? ⟨w28.heap.size, 2, none⟩ = some (.int .i64 v1) := HX_a.out.cell 2
      have fz151 : w138.frozen? ⟨w28.heap.size, 2, none⟩ = false := HX_a.out.free 2
      have fc152 : w138.cell? ⟨w46.heap.size, 0, none⟩ = some (.int .i64 x3) := HX_b.out.cell 0
      have fc153 : w138.cell? ⟨w46.heap.size, 1, none⟩ = some (.int .i64 y3) := HX_b.out.cell 1
      have fc154 : w138.cell? ⟨w46.heap.size, 2, none⟩ = some (.int .i64 v3) := HX_b.out.cell 2
      go_wp2
      rw [hW139.out]
      clear fc140 fc141 fc142 fc143 fc144 fc145 fc146 fz147 fc148 fz149 fc150 fz151 fc152 fc153 fc154
      replace HX_r1 := Lib.hid (HX_r1.out.kept hk139 (by omega))
      replace HX_r2 := Lib.hid (HX_r2.out.kept hk139 (by omega))
      replace HX_b := Lib.hid (HX_b.out.kept hk139 (by omega))
      replace HX_a := Lib.hid hx139
      have HR2 := Lib.hid (HR.out.move (hk139.block g HR.out.lt (by omega)) ((hk139.to_below (by have := HX_a.out.lt; omega)).mono (by omega)))
      have HK2 : Hid (Kept g (g + 1) w w139) := Lib.hid (kept_in HK.out hk139 (by omega))
      replace HR := HR2
      replace HK := HK2
      clear hk139 hx139 hW139 HR2 HK2
      have fc155 : w139.cell? ⟨w.heap.size, 0, none⟩ = some (.int .i64 0) := HX_r1.out.cell 0
      have fz156 : w139.frozen? ⟨w.heap.size, 0, none⟩ = false := HX_r1.out.free 0
      have fc157 : w139.cell? ⟨w.heap.size, 1, none⟩ = some (.int .i64 0) := HX_r1.out.cell 1
      have fz158 : w139.frozen? ⟨w.heap.size, 1, none⟩ = false := HX_r1.out.free 1
      have fc159 : w139.cell? ⟨w.heap.size, 2, none⟩ = some (.int .i64 0) := HX_r1.out.cell 2
      have fz160 : w139.frozen? ⟨w.heap.size, 2, none⟩ = false := HX_r1.out.free 2
      have fc161 : w139.cell? ⟨(w.heap.size + 1), 0, none⟩ = some (.int .i64 0) := HX_r2.out.cell 0
      have fz162 : w139.frozen? ⟨(w.heap.size + 1), 0, none⟩ = false := HX_r2.out.free 0
      have fc163 : w139.cell? ⟨(w.heap.size + 1), 1, none⟩ = some (.int .i64 0) := HX_r2.out.cell 1
      have fz164 : w139.frozen? ⟨(w.heap.size + 1), 1, none⟩ = false := HX_r2.out.free 1
      have fc165 : w139.cell? ⟨(w.heap.size + 1), 2, none⟩ = some (.int .i64 0) := HX_r2.out.cell 2
      have fz166 : w139.frozen? ⟨(w.heap.size + 1), 2, none⟩ = false := HX_r2.out.free 2
      have fc167 : w139.cell? ⟨w28.heap.size, 0, none⟩ = some (.int .i64 x1) := HX_a.out.cell 0
      have fc168 : w139.cell? ⟨w28.heap.size, 1, none⟩ = some (.int .i64 y1) := HX_a.out.cell 1
      have fc169 : w139.cell? ⟨w28.heap.size, 2, none⟩ = some (.int .i64 y) := HX_a.out.cell 2
      have fc170 : w139.cell? ⟨w46.heap.size, 0, none⟩ = some (.int .i64 x3) := HX_b.out.cell 0
      have fc171 : w139.cell? ⟨w46.heap.size, 1, none⟩ = some (.int .i64 y3) := HX_b.out.cell 1
      have fc172 : w139.cell? ⟨w46.heap.size, 2, none⟩ = some (.int .i64 v3) := HX_b.out.cell 2
      obtain ⟨ke, hke⟩ : ∃ v, Hid (powI 4 s 227 = v) := ⟨_, Lib.hid rfl⟩
      have HPW := fun W => Lib.hid (s_l1Pow 4 s W (by omega) (by omega) s0 (by omega))
      simp only [hke.out] at HPW
      clear hke
      go_wp2
      go_region_with (go_at_call 78; refine (HPW _).out.mono ?_; rintro e w' ⟨rfl, rfl⟩)
      all_goals go_wp2
      all_goals first
        | (have hkk := (((((((Kept.refl w.heap.size (w.heap.size + 2) w139)).setCell (p := ⟨w.heap.size, 0, none⟩) (Nat.le_refl _) (by simp) (.int .i64 x1)).setCell (p := ⟨w.heap.size, 1, none⟩) (Nat.le_refl _) (by simp) (.int .i64 y1)).setCell (p := ⟨w.heap.size, 2, none⟩) (Nat.le_refl _) (by simp) (.int .i64 y)).setCell (p := ⟨(w.heap.size + 1), 0, none⟩) (by simp) (by simp) (.int .i64 x3)).setCell (p := ⟨(w.heap.size + 1), 1, none⟩) (by simp) (by simp) (.int .i64 y3)).setCell (p := ⟨(w.heap.size + 1), 2, none⟩) (by simp) (by simp) (.int .i64 v3)
           exact bodyPost_ret (v := .tuple #[.int .i64 ke, .agg #[.int .i64 x1, .int .i64 y1, .int .i64 y], .agg #[.int .i64 x3, .int .i64 y3, .int .i64 v3]]) (resPfR2 rfl rfl rfl rfl (bx_drew (((((((HX_r1.out).set 0 (.int .i64 x1)).set 1 (.int .i64 y1)).set 2 (.int .i64 y)).other ⟨(w.heap.size + 1), 0, none⟩ (.int .i64 x3) (by simp)).other ⟨(w.heap.size + 1), 1, none⟩ (.int .i64 y3) (by simp)).other ⟨(w.heap.size + 1), 2, none⟩ (.int .i64 v3) (by simp))) (bx_drew (((((((HX_r2.out).other ⟨w.heap.size, 0, none⟩ (.int .i64 x1) (by simp)).other ⟨w.heap.size, 1, none⟩ (.int .i64 y1) (by simp)).other ⟨w.heap.size, 2, none⟩ (.int .i64 y) (by simp)).set 0 (.int .i64 x3)).set 1 (.int .i64 y3)).set 2 (.int .i64 v3)))) rfl ⟨_, _, _, _, _, _, _, _, rfl, by omega, (HR.out.move (hkk.block g HR.out.lt (by omega)) ((hkk.to_below (by omega)).mono (by omega))).drewN 1, (kept_in HK.out hkk (Nat.le_refl _)).drew⟩)
        | (have hkk := (((((((Kept.refl w.heap.size (w.heap.size + 2) w139)).setCell (p := ⟨(w.heap.size + 1), 0, none⟩) (by simp) (by simp) (.int .i64 x3)).setCell (p := ⟨(w.heap.size + 1), 1, none⟩) (by simp) (by simp) (.int .i64 y3)).setCell (p := ⟨(w.heap.size + 1), 2, none⟩) (by simp) (by simp) (.int .i64 v3)).setCell (p := ⟨w.heap.size, 0, none⟩) (Nat.le_refl _) (by simp) (.int .i64 x1)).setCell (p := ⟨w.heap.size, 1, none⟩) (Nat.le_refl _) (by simp) (.int .i64 y1)).setCell (p := ⟨w.heap.size, 2, none⟩) (Nat.le_refl _) (by simp) (.int .i64 y)
           exact bodyPost_ret (v := .tuple #[.int .i64 ke, .agg #[.int .i64 x1, .int .i64 y1, .int .i64 y], .agg #[.int .i64 x3, .int .i64 y3, .int .i64 v3]]) (resPfR2 rfl rfl rfl rfl (bx_drew (((((((HX_r1.out).other ⟨(w.heap.size + 1), 0, none⟩ (.int .i64 x3) (by simp)).other ⟨(w.heap.size + 1), 1, none⟩ (.int .i64 y3) (by simp)).other ⟨(w.heap.size + 1), 2, none⟩ (.int .i64 v3) (by simp)).set 0 (.int .i64 x1)).set 1 (.int .i64 y1)).set 2 (.int .i64 y))) (bx_drew (((((((HX_r2.out).set 0 (.int .i64 x3)).set 1 (.int .i64 y3)).set 2 (.int .i64 v3)).other ⟨w.heap.size, 0, none⟩ (.int .i64 x1) (by simp)).other ⟨w.heap.size, 1, none⟩ (.int .i64 y1) (by simp)).other ⟨w.heap.size, 2, none⟩ (.int .i64 y) (by simp)))) rfl ⟨_, _, _, _, _, _, _, _, rfl, by omega, (HR.out.move (hkk.block g HR.out.lt (by omega)) ((hkk.to_below (by omega)).mono (by omega))).drewN 1, (kept_in HK.out hkk (Nat.le_refl _)).drew⟩)
    have hb2 : (k2 == 0) = false := by rw [beq_eq_false_iff_ne]; exact h2
    clear h2
    have fc173 : w125.cell? ⟨w.heap.size, 0, none⟩ = some (.int .i64 0) := HX_r1.out.cell 0
    have fz174 : w125.frozen? ⟨w.heap.size, 0, none⟩ = false := HX_r1.out.free 0
    have fc175 : w125.cell? ⟨w.heap.size, 1, none⟩ = some (.int .i64 0) := HX_r1.out.cell 1
    have fz176 : w125.frozen? ⟨w.heap.size, 1, none⟩ = false := HX_r1.out.free 1
    have fc177 : w125.cell? ⟨w.heap.size, 2, none⟩ = some (.int .i64 0) := HX_r1.out.cell 2
    have fz178 : w125.frozen? ⟨w.heap.size, 2, none⟩ = false := HX_r1.out.free 2
    have fc179 : w125.cell? ⟨(w.heap.size + 1), 0, none⟩ = some (.int .i64 0) := HX_r2.out.cell 0
    have fz180 : w125.frozen? ⟨(w.heap.size + 1), 0, none⟩ = false := HX_r2.out.free 0
    have fc181 : w125.cell? ⟨(w.heap.size + 1), 1, none⟩ = some (.int .i64 0) := HX_r2.out.cell 1
    have fz182 : w125.frozen? ⟨(w.heap.size + 1), 1, none⟩ = false := HX_r2.out.free 1
    have fc183 : w125.cell? ⟨(w.heap.size + 1), 2, none⟩ = some (.int .i64 0) := HX_r2.out.cell 2
    have fz184 : w125.frozen? ⟨(w.heap.size + 1), 2, none⟩ = false := HX_r2.out.free 2
    have fc185 : w125.cell? ⟨w28.heap.size, 0, none⟩ = some (.int .i64 x1) := HX_a.out.cell 0
    have fc186 : w125.cell? ⟨w28.heap.size, 1, none⟩ = some (.int .i64 y1) := HX_a.out.cell 1
    have fc187 : w125.cell? ⟨w28.heap.size, 2, none⟩ = some (.int .i64 v1) := HX_a.out.cell 2
    have fc188 : w125.cell? ⟨w46.heap.size, 0, none⟩ = some (.int .i64 x3) := HX_b.out.cell 0
    have fc189 : w125.cell? ⟨w46.heap.size, 1, none⟩ = some (.int .i64 y3) := HX_b.out.cell 1
    have fc190 : w125.cell? ⟨w46.heap.size, 2, none⟩ = some (.int .i64 v3) := HX_b.out.cell 2
    obtain ⟨ke, hke⟩ : ∃ v, Hid (powI 4 s 227 = v) := ⟨_, Lib.hid rfl⟩
    have HPW := fun W => Lib.hid (s_l1Pow 4 s W (by omega) (by omega) s0 (by omega))
    simp only [hke.out] at HPW
    clear hke
    go_wp2
    go_region_with (go_at_call 78; refine (HPW _).out.mono ?_; rintro e w' ⟨rfl, rfl⟩)
    all_goals go_wp2
    all_goals first
      | (have hkk := (((((((Kept.refl w.heap.size (w.heap.size + 2) w125)).setCell (p := ⟨w.heap.size, 0, none⟩) (Nat.le_refl _) (by simp) (.int .i64 x1)).setCell (p := ⟨w.heap.size, 1, none⟩) (Nat.le_refl _) (by simp) (.int .i64 y1)).setCell (p := ⟨w.heap.size, 2, none⟩) (Nat.le_refl _) (by simp) (.int .i64 v1)).setCell (p := ⟨(w.heap.size + 1), 0, none⟩) (by simp) (by simp) (.int .i64 x3)).setCell (p := ⟨(w.heap.size + 1), 1, none⟩) (by simp) (by simp) (.int .i64 y3)).setCell (p := ⟨(w.heap.size + 1), 2, none⟩) (by simp) (by simp) (.int .i64 v3)
         exact bodyPost_ret (v := .tuple #[.int .i64 ke, .agg #[.int .i64 x1, .int .i64 y1, .int .i64 v1], .agg #[.int .i64 x3, .int .i64 y3, .int .i64 v3]]) (resPfR2 rfl rfl rfl rfl (bx_drew (((((((HX_r1.out).set 0 (.int .i64 x1)).set 1 (.int .i64 y1)).set 2 (.int .i64 v1)).other ⟨(w.heap.size + 1), 0, none⟩ (.int .i64 x3) (by simp)).other ⟨(w.heap.size + 1), 1, none⟩ (.int .i64 y3) (by simp)).other ⟨(w.heap.size + 1), 2, none⟩ (.int .i64 v3) (by simp))) (bx_drew (((((((HX_r2.out).other ⟨w.heap.size, 0, none⟩ (.int .i64 x1) (by simp)).other ⟨w.heap.size, 1, none⟩ (.int .i64 y1) (by simp)).other ⟨w.heap.size, 2, none⟩ (.int .i64 v1) (by simp)).set 0 (.int .i64 x3)).set 1 (.int .i64 y3)).set 2 (.int .i64 v3)))) rfl ⟨_, _, _, _, _, _, _, _, rfl, by omega, (HR.out.move (hkk.block g HR.out.lt (by omega)) ((hkk.to_below (by omega)).mono (by omega))).drewN 1, (kept_in HK.out hkk (Nat.le_refl _)).drew⟩)
      | (have hkk := (((((((Kept.refl w.heap.size (w.heap.size + 2) w125)).setCell (p := ⟨(w.heap.size + 1), 0, none⟩) (by simp) (by simp) (.int .i64 x3)).setCell (p := ⟨(w.heap.size + 1), 1, none⟩) (by simp) (by simp) (.int .i64 y3)).setCell (p := ⟨(w.heap.size + 1), 2, none⟩) (by simp) (by simp) (.int .i64 v3)).setCell (p := ⟨w.heap.size, 0, none⟩) (Nat.le_refl _) (by simp) (.int .i64 x1)).setCell (p := ⟨w.heap.size, 1, none⟩) (Nat.le_refl _) (by simp) (.int .i64 y1)).setCell (p := ⟨w.heap.size, 2, none⟩) (Nat.le_refl _) (by simp) (.int .i64 v1)
         exact bodyPost_ret (v := .tuple #[.int .i64 ke, .agg #[.int .i64 x1, .int .i64 y1, .int .i64 v1], .agg #[.int .i64 x3, .int .i64 y3, .int .i64 v3]]) (resPfR2 rfl rfl rfl rfl (bx_drew (((((((HX_r1.out).other ⟨(w.heap.size + 1), 0, none⟩ (.int .i64 x3) (by simp)).other ⟨(w.heap.size + 1), 1, none⟩ (.int .i64 y3) (by simp)).other ⟨(w.heap.size + 1), 2, none⟩ (.int .i64 v3) (by simp)).set 0 (.int .i64 x1)).set 1 (.int .i64 y1)).set 2 (.int .i64 v1))) (bx_drew (((((((HX_r2.out).set 0 (.int .i64 x3)).set 1 (.int .i64 y3)).set 2 (.int .i64 v3)).other ⟨w.heap.size, 0, none⟩ (.int .i64 x1) (by simp)).other ⟨w.heap.size, 1, none⟩ (.int .i64 y1) (by simp)).other ⟨w.heap.size, 2, none⟩ (.int .i64 v1) (by simp)))) rfl ⟨_, _, _, _, _, _, _, _, rfl, by omega, (HR.out.move (hkk.block g HR.out.lt (by omega)) ((hkk.to_below (by omega)).mono (by omega))).drewN 1, (kept_in HK.out hkk (Nat.le_refl _)).drew⟩)
  have hb1 : (k1 == 0) = false := by rw [beq_eq_false_iff_ne]; exact h1
  clear h1
  have fc191 : w57.cell? ⟨w.heap.size, 0, none⟩ = some (.int .i64 0) := HX_r1.out.cell 0
  have fc192 : w57.cell? ⟨w.heap.size, 1, none⟩ = some (.int .i64 0) := HX_r1.out.cell 1
  have fc193 : w57.cell? ⟨w.heap.size, 2, none⟩ = some (.int .i64 0) := HX_r1.out.cell 2
  have fc194 : w57.cell? ⟨(w.heap.size + 1), 0, none⟩ = some (.int .i64 0) := HX_r2.out.cell 0
  have fc195 : w57.cell? ⟨(w.heap.size + 1), 1, none⟩ = some (.int .i64 0) := HX_r2.out.cell 1
  have fc196 : w57.cell? ⟨(w.heap.size + 1), 2, none⟩ = some (.int .i64 0) := HX_r2.out.cell 2
  have fc197 : w57.cell? ⟨w28.heap.size, 0, none⟩ = some (.int .i64 x1) := HX_a.out.cell 0
  have fc198 : w57.cell? ⟨w28.heap.size, 1, none⟩ = some (.int .i64 y1) := HX_a.out.cell 1
  have fc199 : w57.cell? ⟨w28.heap.size, 2, none⟩ = some (.int .i64 v1) := HX_a.out.cell 2
  have fc200 : w57.cell? ⟨w46.heap.size, 0, none⟩ = some (.int .i64 x2) := HX_b.out.cell 0
  have fc201 : w57.cell? ⟨w46.heap.size, 1, none⟩ = some (.int .i64 y2) := HX_b.out.cell 1
  have fc202 : w57.cell? ⟨w46.heap.size, 2, none⟩ = some (.int .i64 v2) := HX_b.out.cell 2
  go_wp2_with fail
  clear fc191 fc192 fc193 fc194 fc195 fc196 fc197 fc198 fc199 fc200 fc201 fc202
  refine (d_pick _ _ _ _ _ _ _ _ _ HR.out (by omega) (by omega) (by omega)).mono ?_
  rintro e w203 ⟨k2, rfl, k20, k21, h2, k2⟩
  have z203 : w57.heap.size ≤ w203.heap.size := k2.size
  replace HX_r1 := Lib.hid (HX_r1.out.kept k2 (.inr (by omega)))
  replace HX_r2 := Lib.hid (HX_r2.out.kept k2 (.inr (by omega)))
  replace HX_a := Lib.hid (HX_a.out.kept k2 (.inr (by omega)))
  replace HX_b := Lib.hid (HX_b.out.kept k2 (.inr (by omega)))
  replace HR := Lib.hid h2
  replace HK := Lib.hid (HK.out.trans k2)
  clear h2 k2
  by_cases h2 : k2 = 0
  · subst h2
    have fc204 : w203.cell? ⟨w.heap.size, 0, none⟩ = some (.int .i64 0) := HX_r1.out.cell 0
    have fc205 : w203.cell? ⟨w.heap.size, 1, none⟩ = some (.int .i64 0) := HX_r1.out.cell 1
    have fc206 : w203.cell? ⟨w.heap.size, 2, none⟩ = some (.int .i64 0) := HX_r1.out.cell 2
    have fc207 : w203.cell? ⟨(w.heap.size + 1), 0, none⟩ = some (.int .i64 0) := HX_r2.out.cell 0
    have fc208 : w203.cell? ⟨(w.heap.size + 1), 1, none⟩ = some (.int .i64 0) := HX_r2.out.cell 1
    have fc209 : w203.cell? ⟨(w.heap.size + 1), 2, none⟩ = some (.int .i64 0) := HX_r2.out.cell 2
    have fc210 : w203.cell? ⟨w28.heap.size, 0, none⟩ = some (.int .i64 x1) := HX_a.out.cell 0
    have fc211 : w203.cell? ⟨w28.heap.size, 1, none⟩ = some (.int .i64 y1) := HX_a.out.cell 1
    have fc212 : w203.cell? ⟨w28.heap.size, 2, none⟩ = some (.int .i64 v1) := HX_a.out.cell 2
    have fc213 : w203.cell? ⟨w46.heap.size, 0, none⟩ = some (.int .i64 x2) := HX_b.out.cell 0
    have fc214 : w203.cell? ⟨w46.heap.size, 1, none⟩ = some (.int .i64 y2) := HX_b.out.cell 1
    have fc215 : w203.cell? ⟨w46.heap.size, 2, none⟩ = some (.int .i64 v2) := HX_b.out.cell 2
    go_wp2_with fail
    clear fc204 fc205 fc206 fc207 fc208 fc209 fc210 fc211 fc212 fc213 fc214 fc215
    refine (d_pick _ _ _ _ _ _ _ _ _ HR.out (by omega) (by omega) (by omega)).mono ?_
    rintro e w216 ⟨y, rfl, y0, y1', h2, k2⟩
    have z216 : w203.heap.size ≤ w216.heap.size := k2.size
    replace HX_r1 := Lib.hid (HX_r1.out.kept k2 (.inr (by omega)))
    replace HX_r2 := Lib.hid (HX_r2.out.kept k2 (.inr (by omega)))
    replace HX_a := Lib.hid (HX_a.out.kept k2 (.inr (by omega)))
    replace HX_b := Lib.hid (HX_b.out.kept k2 (.inr (by omega)))
    replace HR := Lib.hid h2
    replace HK := Lib.hid (HK.out.trans k2)
    clear h2 k2
    obtain ⟨w217, hW217⟩ : ∃ W, Hid ((w216.setCell ⟨w28.heap.size, 2, none⟩ (.int .i64 y)) = W) := ⟨_, Lib.hid rfl⟩
    have hk217 : Kept (w28.heap.size) (w28.heap.size + 1) w216 w217 := by rw [← hW217.out]; exact (Kept.refl _ _ _).setCell (p := ⟨w28.heap.size, 2, none⟩) (Nat.le_refl _) (Nat.lt_succ_self _) _
    have hx217 : Bx w217 (w28.heap.size) #[.int .i64 x1, .int .i64 y1, .int .i64 y] 52 := by have := (HX_a.out).set 2 (.int .i64 y); rw [hW217.out] at this; exact this
    have z217 : w216.heap.size ≤ w217.heap.size := hk217.size
    have fc218 : w216.cell? ⟨w.heap.size, 0, none⟩ = some (.int .i64 0) := HX_r1.out.cell 0
    have fc219 : w216.cell? ⟨w.heap.size, 1, none⟩ = some (.int .i64 0) := HX_r1.out.cell 1
    have fc220 : w216.cell? ⟨w.heap.size, 2, none⟩ = some (.int .i64 0) := HX_r1.out.cell 2
    have fc221 : w216.cell? ⟨(w.heap.size + 1), 0, none⟩ = some (.int .i64 0) := HX_r2.out.cell 0
    have fc222 : w216.cell? ⟨(w.heap.size + 1), 1, none⟩ = some (.int .i64 0) := HX_r2.out.cell 1
    have fc223 : w216.cell? ⟨(w.heap.size + 1), 2, none⟩ = some (.int .i64 0) := HX_r2.out.cell 2
    have fc224 : w216.cell? ⟨w28.heap.size, 0, none⟩ = some (.int .i64 x1) := HX_a.out.cell 0
    have fz225 : w216.frozen? ⟨w28.heap.size, 0, none⟩ = false := HX_a.out.free 0
    have fc226 : w216.cell? ⟨w28.heap.size, 1, none⟩ = some (.int .i64 y1) := HX_a.out.cell 1
    have fz227 : w216.frozen? ⟨w28.heap.size, 1, none⟩ = false := HX_a.out.free 1
    have fc228 : w216.cell? ⟨w28.heap.size, 2, none⟩ = some (.int .i64 v1) := HX_a.out.cell 2
    have fz229 : w216.frozen? ⟨w28.heap.size, 2, none⟩ = false := HX_a.out.free 2
    have fc230 : w216.cell? ⟨w46.heap.size, 0, none⟩ = some (.int .i64 x2) := HX_b.out.cell 0
    have fc231 : w216.cell? ⟨w46.heap.size, 1, none⟩ = some (.int .i64 y2) := HX_b.out.cell 1
    have fc232 : w216.cell? ⟨w46.heap.size, 2, none⟩ = some (.int .i64 v2) := HX_b.out.cell 2
    go_wp2
    rw [hW217.out]
    clear fc218 fc219 fc220 fc221 fc222 fc223 fc224 fz225 fc226 fz227 fc228 fz229 fc230 fc231 fc232
    replace HX_r1 := Lib.hid (HX_r1.out.kept hk217 (by omega))
    replace HX_r2 := Lib.hid (HX_r2.out.kept hk217 (by omega))
    replace HX_b := Lib.hid (HX_b.out.kept hk217 (by omega))
    replace HX_a := Lib.hid hx217
    have HR2 := Lib.hid (HR.out.move (hk217.block g HR.out.lt (by omega)) ((hk217.to_below (by have := HX_a.out.lt; omega)).mono (by omega)))
    have HK2 : Hid (Kept g (g + 1) w w217) := Lib.hid (kept_in HK.out hk217 (by omega))
    replace HR := HR2
    replace HK := HK2
    clear hk217 hx217 hW217 HR2 HK2
    have fc233 : w217.cell? ⟨w.heap.size, 0, none⟩ = some (.int .i64 0) := HX_r1.out.cell 0
    have fz234 : w217.frozen? ⟨w.heap.size, 0, none⟩ = false := HX_r1.out.free 0
    have fc235 : w217.cell? ⟨w.heap.size, 1, none⟩ = some (.int .i64 0) := HX_r1.out.cell 1
    have fz236 : w217.frozen? ⟨w.heap.size, 1, none⟩ = false := HX_r1.out.free 1
    have fc237 : w217.cell? ⟨w.heap.size, 2, none⟩ = some (.int .i64 0) := HX_r1.out.cell 2
    have fz238 : w217.frozen? ⟨w.heap.size, 2, none⟩ = false := HX_r1.out.free 2
    have fc239 : w217.cell? ⟨(w.heap.size + 1), 0, none⟩ = some (.int .i64 0) := HX_r2.out.cell 0
    have fz240 : w217.frozen? ⟨(w.heap.size + 1), 0, none⟩ = false := HX_r2.out.free 0
    have fc241 : w217.cell? ⟨(w.heap.size + 1), 1, none⟩ = some (.int .i64 0) := HX_r2.out.cell 1
    have fz242 : w217.frozen? ⟨(w.heap.size + 1), 1, none⟩ = false := HX_r2.out.free 1
    have fc243 : w217.cell? ⟨(w.heap.size + 1), 2, none⟩ = some (.int .i64 0) := HX_r2.out.cell 2
    have fz244 : w217.frozen? ⟨(w.heap.size + 1), 2, none⟩ = false := HX_r2.out.free 2
    have fc245 : w217.cell? ⟨w28.heap.size, 0, none⟩ = some (.int .i64 x1) := HX_a.out.cell 0
    have fc246 : w217.cell? ⟨w28.heap.size, 1, none⟩ = some (.int .i64 y1) := HX_a.out.cell 1
    have fc247 : w217.cell? ⟨w28.heap.size, 2, none⟩ = some (.int .i64 y) := HX_a.out.cell 2
    have fc248 : w217.cell? ⟨w46.heap.size, 0, none⟩ = some (.int .i64 x2) := HX_b.out.cell 0
    have fc249 : w217.cell? ⟨w46.heap.size, 1, none⟩ = some (.int .i64 y2) := HX_b.out.cell 1
    have fc250 : w217.cell? ⟨w46.heap.size, 2, none⟩ = some (.int .i64 v2) := HX_b.out.cell 2
    obtain ⟨ke, hke⟩ : ∃ v, Hid (powI 4 s 227 = v) := ⟨_, Lib.hid rfl⟩
    have HPW := fun W => Lib.hid (s_l1Pow 4 s W (by omega) (by omega) s0 (by omega))
    simp only [hke.out] at HPW
    clear hke
    go_wp2
    go_region_with (go_at_call 78; refine (HPW _).out.mono ?_; rintro e w' ⟨rfl, rfl⟩)
    all_goals go_wp2
    all_goals first
      | (have hkk := (((((((Kept.refl w.heap.size (w.heap.size + 2) w217)).setCell (p := ⟨w.heap.size, 0, none⟩) (Nat.le_refl _) (by simp) (.int .i64 x1)).setCell (p := ⟨w.heap.size, 1, none⟩) (Nat.le_refl _) (by simp) (.int .i64 y1)).setCell (p := ⟨w.heap.size, 2, none⟩) (Nat.le_refl _) (by simp) (.int .i64 y)).setCell (p := ⟨(w.heap.size + 1), 0, none⟩) (by simp) (by simp) (.int .i64 x2)).setCell (p := ⟨(w.heap.size + 1), 1, none⟩) (by simp) (by simp) (.int .i64 y2)).setCell (p := ⟨(w.heap.size + 1), 2, none⟩) (by simp) (by simp) (.int .i64 v2)
         exact bodyPost_ret (v := .tuple #[.int .i64 ke, .agg #[.int .i64 x1, .int .i64 y1, .int .i64 y], .agg #[.int .i64 x2, .int .i64 y2, .int .i64 v2]]) (resPfR2 rfl rfl rfl rfl (bx_drew (((((((HX_r1.out).set 0 (.int .i64 x1)).set 1 (.int .i64 y1)).set 2 (.int .i64 y)).other ⟨(w.heap.size + 1), 0, none⟩ (.int .i64 x2) (by simp)).other ⟨(w.heap.size + 1), 1, none⟩ (.int .i64 y2) (by simp)).other ⟨(w.heap.size + 1), 2, none⟩ (.int .i64 v2) (by simp))) (bx_drew (((((((HX_r2.out).other ⟨w.heap.size, 0, none⟩ (.int .i64 x1) (by simp)).other ⟨w.heap.size, 1, none⟩ (.int .i64 y1) (by simp)).other ⟨w.heap.size, 2, none⟩ (.int .i64 y) (by simp)).set 0 (.int .i64 x2)).set 1 (.int .i64 y2)).set 2 (.int .i64 v2)))) rfl ⟨_, _, _, _, _, _, _, _, rfl, by omega, (HR.out.move (hkk.block g HR.out.lt (by omega)) ((hkk.to_below (by omega)).mono (by omega))).drewN 1, (kept_in HK.out hkk (Nat.le_refl _)).drew⟩)
      | (have hkk := (((((((Kept.refl w.heap.size (w.heap.size + 2) w217)).setCell (p := ⟨(w.heap.size + 1), 0, none⟩) (by simp) (by simp) (.int .i64 x2)).setCell (p := ⟨(w.heap.size + 1), 1, none⟩) (by simp) (by simp) (.int .i64 y2)).setCell (p := ⟨(w.heap.size + 1), 2, none⟩) (by simp) (by simp) (.int .i64 v2)).setCell (p := ⟨w.heap.size, 0, none⟩) (Nat.le_refl _) (by simp) (.int .i64 x1)).setCell (p := ⟨w.heap.size, 1, none⟩) (Nat.le_refl _) (by simp) (.int .i64 y1)).setCell (p := ⟨w.heap.size, 2, none⟩) (Nat.le_refl _) (by simp) (.int .i64 y)
         exact bodyPost_ret (v := .tuple #[.int .i64 ke, .agg #[.int .i64 x1, .int .i64 y1, .int .i64 y], .agg #[.int .i64 x2, .int .i64 y2, .int .i64 v2]]) (resPfR2 rfl rfl rfl rfl (bx_drew (((((((HX_r1.out).other ⟨(w.heap.size + 1), 0, none⟩ (.int .i64 x2) (by simp)).other ⟨(w.heap.size + 1), 1, none⟩ (.int .i64 y2) (by simp)).other ⟨(w.heap.size + 1), 2, none⟩ (.int .i64 v2) (by simp)).set 0 (.int .i64 x1)).set 1 (.int .i64 y1)).set 2 (.int .i64 y))) (bx_drew (((((((HX_r2.out).set 0 (.int .i64 x2)).set 1 (.int .i64 y2)).set 2 (.int .i64 v2)).other ⟨w.heap.size, 0, none⟩ (.int .i64 x1) (by simp)).other ⟨w.heap.size, 1, none⟩ (.int .i64 y1) (by simp)).other ⟨w.heap.size, 2, none⟩ (.int .i64 y) (by simp)))) rfl ⟨_, _, _, _, _, _, _, _, rfl, by omega, (HR.out.move (hkk.block g HR.out.lt (by omega)) ((hkk.to_below (by omega)).mono (by omega))).drewN 1, (kept_in HK.out hkk (Nat.le_refl _)).drew⟩)
  have hb2 : (k2 == 0) = false := by rw [beq_eq_false_iff_ne]; exact h2
  clear h2
  have fc251 : w203.cell? ⟨w.heap.size, 0, none⟩ = some (.int .i64 0) := HX_r1.out.cell 0
  have fz252 : w203.frozen? ⟨w.heap.size, 0, none⟩ = false := HX_r1.out.free 0
  have fc253 : w203.cell? ⟨w.heap.size, 1, none⟩ = some (.int .i64 0) := HX_r1.out.cell 1
  have fz254 : w203.frozen? ⟨w.heap.size, 1, none⟩ = false := HX_r1.out.free 1
  have fc255 : w203.cell? ⟨w.heap.size, 2, none⟩ = some (.int .i64 0) := HX_r1.out.cell 2
  have fz256 : w203.frozen? ⟨w.heap.size, 2, none⟩ = false := HX_r1.out.free 2
  have fc257 : w203.cell? ⟨(w.heap.size + 1), 0, none⟩ = some (.int .i64 0) := HX_r2.out.cell 0
  have fz258 : w203.frozen? ⟨(w.heap.size + 1), 0, none⟩ = false := HX_r2.out.free 0
  have fc259 : w203.cell? ⟨(w.heap.size + 1), 1, none⟩ = some (.int .i64 0) := HX_r2.out.cell 1
  have fz260 : w203.frozen? ⟨(w.heap.size + 1), 1, none⟩ = false := HX_r2.out.free 1
  have fc261 : w203.cell? ⟨(w.heap.size + 1), 2, none⟩ = some (.int .i64 0) := HX_r2.out.cell 2
  have fz262 : w203.frozen? ⟨(w.heap.size + 1), 2, none⟩ = false := HX_r2.out.free 2
  have fc263 : w203.cell? ⟨w28.heap.size, 0, none⟩ = some (.int .i64 x1) := HX_a.out.cell 0
  have fc264 : w203.cell? ⟨w28.heap.size, 1, none⟩ = some (.int .i64 y1) := HX_a.out.cell 1
  have fc265 : w203.cell? ⟨w28.heap.size, 2, none⟩ = some (.int .i64 v1) := HX_a.out.cell 2
  have fc266 : w203.cell? ⟨w46.heap.size, 0, none⟩ = some (.int .i64 x2) := HX_b.out.cell 0
  have fc267 : w203.cell? ⟨w46.heap.size, 1, none⟩ = some (.int .i64 y2) := HX_b.out.cell 1
  have fc268 : w203.cell? ⟨w46.heap.size, 2, none⟩ = some (.int .i64 v2) := HX_b.out.cell 2
  obtain ⟨ke, hke⟩ : ∃ v, Hid (powI 4 s 227 = v) := ⟨_, Lib.hid rfl⟩
  have HPW := fun W => Lib.hid (s_l1Pow 4 s W (by omega) (by omega) s0 (by omega))
  simp only [hke.out] at HPW
  clear hke
  go_wp2
  go_region_with (go_at_call 78; refine (HPW _).out.mono ?_; rintro e w' ⟨rfl, rfl⟩)
  all_goals go_wp2
  all_goals first
    | (have hkk := (((((((Kept.refl w.heap.size (w.heap.size + 2) w203)).setCell (p := ⟨w.heap.size, 0, none⟩) (Nat.le_refl _) (by simp) (.int .i64 x1)).setCell (p := ⟨w.heap.size, 1, none⟩) (Nat.le_refl _) (by simp) (.int .i64 y1)).setCell (p := ⟨w.heap.size, 2, none⟩) (Nat.le_refl _) (by simp) (.int .i64 v1)).setCell (p := ⟨(w.heap.size + 1), 0, none⟩) (by simp) (by simp) (.int .i64 x2)).setCell (p := ⟨(w.heap.size + 1), 1, none⟩) (by simp) (by simp) (.int .i64 y2)).setCell (p := ⟨(w.heap.size + 1), 2, none⟩) (by simp) (by simp) (.int .i64 v2)
       exact bodyPost_ret (v := .tuple #[.int .i64 ke, .agg #[.int .i64 x1, .int .i64 y1, .int .i64 v1], .agg #[.int .i64 x2, .int .i64 y2, .int .i64 v2]]) (resPfR2 rfl rfl rfl rfl (bx_drew (((((((HX_r1.out).set 0 (.int .i64 x1)).set 1 (.int .i64 y1)).set 2 (.int .i64 v1)).other ⟨(w.heap.size + 1), 0, none⟩ (.int .i64 x2) (by simp)).other ⟨(w.heap.size + 1), 1, none⟩ (.int .i64 y2) (by simp)).other ⟨(w.heap.size + 1), 2, none⟩ (.int .i64 v2) (by simp))) (bx_drew (((((((HX_r2.out).other ⟨w.heap.size, 0, none⟩ (.int .i64 x1) (by simp)).other ⟨w.heap.size, 1, none⟩ (.int .i64 y1) (by simp)).other ⟨w.heap.size, 2, none⟩ (.int .i64 v1) (by simp)).set 0 (.int .i64 x2)).set 1 (.int .i64 y2)).set 2 (.int .i64 v2)))) rfl ⟨_, _, _, _, _, _, _, _, rfl, by omega, (HR.out.move (hkk.block g HR.out.lt (by omega)) ((hkk.to_below (by omega)).mono (by omega))).drewN 1, (kept_in HK.out hkk (Nat.le_refl _)).drew⟩)
    | (have hkk := (((((((Kept.refl w.heap.size (w.heap.size + 2) w203)).setCell (p := ⟨(w.heap.size + 1), 0, none⟩) (by simp) (by simp) (.int .i64 x2)).setCell (p := ⟨(w.heap.size + 1), 1, none⟩) (by simp) (by simp) (.int .i64 y2)).setCell (p := ⟨(w.heap.size + 1), 2, none⟩) (by simp) (by simp) (.int .i64 v2)).setCell (p := ⟨w.heap.size, 0, none⟩) (Nat.le_refl _) (by simp) (.int .i64 x1)).setCell (p := ⟨w.heap.size, 1, none⟩) (Nat.le_refl _) (by simp) (.int .i64 y1)).setCell (p := ⟨w.heap.size, 2, none⟩) (Nat.le_refl _) (by simp) (.int .i64 v1)
       exact bodyPost_ret (v := .tuple #[.int .i64 ke, .agg #[.int .i64 x1, .int .i64 y1, .int .i64 v1], .agg #[.int .i64 x2, .int .i64 y2, .int .i64 v2]]) (resPfR2 rfl rfl rfl rfl (bx_drew (((((((HX_r1.out).other ⟨(w.heap.size + 1), 0, none⟩ (.int .i64 x2) (by simp)).other ⟨(w.heap.size + 1), 1, none⟩ (.int .i64 y2) (by simp)).other ⟨(w.heap.size + 1), 2, none⟩ (.int .i64 v2) (by simp)).set 0 (.int .i64 x1)).set 1 (.int .i64 y1)).set 2 (.int .i64 v1))) (bx_drew (((((((HX_r2.out).set 0 (.int .i64 x2)).set 1 (.int .i64 y2)).set 2 (.int .i64 v2)).other ⟨w.heap.size, 0, none⟩ (.int .i64 x1) (by simp)).other ⟨w.heap.size, 1, none⟩ (.int .i64 y1) (by simp)).other ⟨w.heap.size, 2, none⟩ (.int .i64 v1) (by simp)))) rfl ⟨_, _, _, _, _, _, _, _, rfl, by omega, (HR.out.move (hkk.block g HR.out.lt (by omega)) ((hkk.to_below (by omega)).mono (by omega))).drewN 1, (kept_in HK.out hkk (Nat.le_refl _)).drew⟩)
end Go.Proofs.Ytaiilopfdjbceaa
