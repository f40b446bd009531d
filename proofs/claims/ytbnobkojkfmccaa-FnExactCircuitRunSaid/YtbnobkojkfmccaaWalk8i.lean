/- Chapter 8 in the model: values, outputs, depths, as the laws meet them. -/
import Derived.Test.YtbnobkojkfmccaaWalk8h
import Derived.Deep.RegionHeld3
import Derived.Test.YtbnobkojkfmccaaFace2b
namespace Go.Proofs.Ytbnobkojkfmccaa
open Go.RowKit
set_option maxRecDepth 100000

def R_CircuitValues_0 (d : Int × List (Int × Int × Int) × List Int) (ins : List Int) : List Int := if fitsB d ins then tellK (valG ins) d.2.1 d.2.1.length else []
def R_CircuitRun_0 (d : Int × List (Int × Int × Int) × List Int) (ins : List Int) : List Int := if fitsB d ins then outK d.2.2 (tellK (valG ins) d.2.1 d.2.1.length) d.2.2.length else []
theorem fits_iff {d : Int × List (Int × Int × Int) × List Int} {ins : List Int} (h : fitsB d ins = true) : circB d = true ∧ (ins.length : Int) = d.1 ∧ Nums ins := by
  unfold fitsB at h
  simp only [Bool.and_eq_true, decide_eq_true_eq] at h
  exact ⟨h.1, h.2.1, nums_of_B h.2.2⟩

set_option maxHeartbeats 4000000 in
theorem X_s_CircuitValues (v v' : Value) (d : Int × List (Int × Int × Int) × List Int) (ins : List Int) (w : World) (h : RdCircuit w w.heap.size v d) (h' : RdIntS w w.heap.size v' ins) (hs : szCircuit d ≤ 1048576) (hs' : szIntS ins ≤ 1048576) :
    Calls Try.prog 32 #[v, v'] w fun e w' => ∃ g, e = .returned (.tuple #[g, .bool (fitsB d ins)]) ∧ OwIntS w' w.heap.size w'.heap.size g (R_CircuitValues_0 d ins) ∧ Below w.heap.size w w' := by
  obtain ⟨A1, n1, c1, A2, n2, c2, rfl, h1, h2⟩ := h
  obtain ⟨A3, n3, c3, rfl, _, h3⟩ := h'
  have m1 : n1 ≤ 1048576 := by have := szC1 hs; have := h1.n.2; omega
  have m2 : n2 ≤ 1048576 := by have := szC2 hs; have := h2.n.2; omega
  have m3 : n3 ≤ 1048576 := by have := h3.len; unfold szIntS at hs'; omega
  have l1 := Lib.hid h1.n.2
  have l2 := Lib.hid h2.n.2
  have l3 := Lib.hid h3.len
  have H1 := Lib.hid h1.n.1
  have H2 := Lib.hid h2.n.1
  have H3 := Lib.hid h3
  clear h1 h2 h3 hs hs'
  obtain ⟨z, d1, d2⟩ := d
  have HX0 : Hid (Bx (w.alloc (.cells #[.int .i64 z, .slice A1 n1 c1, .slice A2 n2 c2] 42)) w.heap.size #[.int .i64 z, .slice A1 n1 c1, .slice A2 n2 c2] 42) := Lib.hid (Bx.new _ _ _)
  have HB0 : Hid (Below w.heap.size w (w.alloc (.cells #[.int .i64 z, .slice A1 n1 c1, .slice A2 n2 c2] 42))) := Lib.hid ((Below.refl _ _).alloc (Nat.le_refl _) _)
  go_enter Try.func32, Try.ntmps32
  go_wp2_with fail
  refine (s_l8Fits A1 n1 c1 A2 n2 c2 A3 n3 c3 z d1 d2 ins _ ((H1.out.below HB0.out).more (by simp)) ((H2.out.below HB0.out).more (by simp)) ((H3.out.below HB0.out).more (by simp)) m1 m2 m3).mono ?_
  rintro e w2 ⟨rfl, hb⟩
  have HX1 := Lib.hid (HX0.out.below hb HX0.out.lt)
  have HB1 : Hid (Below w.heap.size w w2) := Lib.hid (HB0.out.trans (hb.mono HB0.out.size))
  clear hb HB0 HX0
  cases ef : fitsB (z, d1, d2) ins
  · have HF := Lib.hid ef
    have HR : Hid (R_CircuitValues_0 (z, d1, d2) ins = []) := Lib.hid (by simp [R_CircuitValues_0, ef])
    go_wp2
    go_ret2
    exact ⟨_, ret_vb HF.out.symm, by rw [HR.out]; exact OwIntS.nil_ _ _ _, HB1.out⟩
  · have HF := Lib.hid ef
    have HR : Hid (R_CircuitValues_0 (z, d1, d2) ins = tellK (valG ins) d1 n1) := Lib.hid (by simp [R_CircuitValues_0, ef, l1.out])
    obtain ⟨f1, f2, f3⟩ := fits_iff ef
    obtain ⟨c0, c1', c2', c3', c4'⟩ := circB_iff f1
    simp only at c0 c1' c2' c3' c4' f2
    have q1 : n1 ≤ 16 := by have := l1.out; omega
    have G1 : Hid (gatesK d1 z n1 = true) := Lib.hid (by have := l1.out; rw [this]; exact c3')
    have G2 : Hid (z = n3) := Lib.hid (by have := l3.out; omega)
    have G3 := Lib.hid f3
    have b0 : w2.cell? ⟨w.heap.size, 0, none⟩ = some (.int .i64 z) := HX1.out.cell 0
    have b1 : w2.cell? ⟨w.heap.size, 1, none⟩ = some (.slice A1 n1 c1) := HX1.out.cell 1
    have b2 : w2.cell? ⟨w.heap.size, 2, none⟩ = some (.slice A2 n2 c2) := HX1.out.cell 2
    clear f1 f2 f3 c0 c1' c2' c3' c4'
    go_wp2_with fail
    refine (s_l8Values A1 n1 c1 A2 n2 c2 A3 n3 c3 z d1 ins _ ((H1.out.below HB1.out).more HB1.out.size) ((H3.out.below HB1.out).more HB1.out.size) q1 G1.out G3.out G2.out).mono ?_
    rintro e w3 ⟨A, c, rfl, ho, hb⟩
    have HO := Lib.hid (ho.widen HB1.out.size (Nat.le_refl _))
    have HB2 : Hid (Below w.heap.size w w3) := Lib.hid (HB1.out.trans (hb.mono HB1.out.size))
    clear ho hb b0 b1 b2
    go_wp2
    go_ret2
    exact ⟨_, ret_vb HF.out.symm, by rw [HR.out]; exact HO.out, HB2.out⟩

set_option maxHeartbeats 8000000 in
theorem X_s_CircuitRun (v v' : Value) (d : Int × List (Int × Int × Int) × List Int) (ins : List Int) (w : World) (h : RdCircuit w w.heap.size v d) (h' : RdIntS w w.heap.size v' ins) (hs : szCircuit d ≤ 1048576) (hs' : szIntS ins ≤ 1048576) :
    Calls Try.prog 37 #[v, v'] w fun e w' => ∃ g, e = .returned (.tuple #[g, .bool (fitsB d ins)]) ∧ OwIntS w' w.heap.size w'.heap.size g (R_CircuitRun_0 d ins) ∧ Below w.heap.size w w' := by
  obtain ⟨A1, n1, c1, A2, n2, c2, rfl, h1, h2⟩ := h
  obtain ⟨A3, n3, c3, rfl, _, h3⟩ := h'
  have m1 : n1 ≤ 1048576 := by have := szC1 hs; have := h1.n.2; omega
  have m2 : n2 ≤ 1048576 := by have := szC2 hs; have := h2.n.2; omega
  have m3 : n3 ≤ 1048576 := by have := h3.len; unfold szIntS at hs'; omega
  have l1 := Lib.hid h1.n.2
  have l2 := Lib.hid h2.n.2
  have l3 := Lib.hid h3.len
  have H1 := Lib.hid h1.n.1
  have H2 := Lib.hid h2.n.1
  have H3 := Lib.hid h3
  clear h1 h2 h3 hs hs'
  obtain ⟨z, d1, d2⟩ := d
  have HX0 : Hid (Bx (w.alloc (.cells #[.int .i64 z, .slice A1 n1 c1, .slice A2 n2 c2] 42)) w.heap.size #[.int .i64 z, .slice A1 n1 c1, .slice A2 n2 c2] 42) := Lib.hid (Bx.new _ _ _)
  have HB0 : Hid (Below w.heap.size w (w.alloc (.cells #[.int .i64 z, .slice A1 n1 c1, .slice A2 n2 c2] 42))) := Lib.hid ((Below.refl _ _).alloc (Nat.le_refl _) _)
  go_enter Try.func37, Try.ntmps37
  go_wp2_with fail
  refine (s_l8Fits A1 n1 c1 A2 n2 c2 A3 n3 c3 z d1 d2 ins _ ((H1.out.below HB0.out).more (by simp)) ((H2.out.below HB0.out).more (by simp)) ((H3.out.below HB0.out).more (by simp)) m1 m2 m3).mono ?_
  rintro e w2 ⟨rfl, hb⟩
  have HX1 := Lib.hid (HX0.out.below hb HX0.out.lt)
  have HB1 : Hid (Below w.heap.size w w2) := Lib.hid (HB0.out.trans (hb.mono HB0.out.size))
  clear hb HB0 HX0
  cases ef : fitsB (z, d1, d2) ins
  · have HF := Lib.hid ef
    have HR : Hid (R_CircuitRun_0 (z, d1, d2) ins = []) := Lib.hid (by simp [R_CircuitRun_0, ef])
    go_wp2
    go_ret2
    exact ⟨_, ret_vb HF.out.symm, by rw [HR.out]; exact OwIntS.nil_ _ _ _, HB1.out⟩
  · have HF := Lib.hid ef
    have HR : Hid (R_CircuitRun_0 (z, d1, d2) ins = outK d2 (tellK (valG ins) d1 n1) n2) := Lib.hid (by simp [R_CircuitRun_0, ef, l1.out, l2.out])
    obtain ⟨f1, f2, f3⟩ := fits_iff ef
    obtain ⟨c0, c1', c2', c3', c4'⟩ := circB_iff f1
    simp only at c0 c1' c2' c3' c4' f2
    have q1 : n1 ≤ 16 := by have := l1.out; omega
    have q2 : n2 ≤ 16 := by have := l2.out; omega
    have G1 : Hid (gatesK d1 z n1 = true) := Lib.hid (by have := l1.out; rw [this]; exact c3')
    have G2 : Hid (z = n3) := Lib.hid (by have := l3.out; omega)
    have G4 : Hid (outsK d2 n1 n2 = true) := Lib.hid (by have e1 := l1.out; have e2 := l2.out; rw [e1, e2]; exact c4')
    have G3 := Lib.hid f3
    have hx := HX1.out
    have hb := HB1.out
    have hc0 : w2.cell? ⟨w.heap.size, 0, none⟩ = some (.int .i64 z) := HX1.out.cell 0
    have hc1 : w2.cell? ⟨w.heap.size, 1, none⟩ = some (.slice A1 n1 c1) := HX1.out.cell 1
    have hc2 : w2.cell? ⟨w.heap.size, 2, none⟩ = some (.slice A2 n2 c2) := HX1.out.cell 2
    clear f1 f2 f3 c0 c1' c2' c3' c4'
    go_wp2
    have hs0 := And.intro hb (And.intro hx (And.intro hc0 (And.intro hc1 hc2)))
    go_region_held3 (fun w' => Below w.heap.size w w' ∧ Bx w' w.heap.size #[.int .i64 z, .slice A1 n1 c1, .slice A2 n2 c2] 42 ∧ w'.cell? ⟨w.heap.size, 0, none⟩ = some (.int .i64 z) ∧ w'.cell? ⟨w.heap.size, 1, none⟩ = some (.slice A1 n1 c1) ∧ w'.cell? ⟨w.heap.size, 2, none⟩ = some (.slice A2 n2 c2))
      (first | exact ⟨hb, hx, hc0, hc1, hc2⟩ | exact ⟨hb.drew, hx, hc0, hc1, hc2⟩)
      (first
        | (go_at_call 63
           refine (s_l8Values A1 n1 c1 A2 n2 c2 A3 n3 c3 z d1 ins _ ((H1.out.below (by first | exact hb | exact hb.drew)).more (by exact hb.size)) ((H3.out.below (by first | exact hb | exact hb.drew)).more (by exact hb.size)) q1 G1.out G3.out G2.out).mono ?_
           rintro e w3 ⟨A, c, rfl, ho, hb3⟩
           have hn := upd3 (by first | exact hb | exact hb.drew) (by exact hx) hb3
           clear hb hx hc0 hc1 hc2 hb3
           obtain ⟨hb, hx, hc0, hc1, hc2⟩ := hn)
        | (go_at_call 72
           refine (s_l8Outs A1 n1 c1 A2 n2 c2 A n1 c z d2 (tellK (valG ins) d1 n1) _ ((H2.out.below (by first | exact hb | exact hb.drew)).more (by exact hb.size)) (by exact ho.rdw) q2 G4.out q1).mono ?_
           rintro e w4 ⟨A4, n4, c4, rfl, ho4, hb4⟩
           have ho5 := ho4.widen (lo' := w.heap.size) (by exact hb.size) (Nat.le_refl _)
           have hn := upd3 (by first | exact hb | exact hb.drew) (by exact hx) hb4
           clear hb hx hc0 hc1 hc2 hb4 ho ho4
           obtain ⟨hb, hx, hc0, hc1, hc2⟩ := hn))
    all_goals (
      have HO := Lib.hid ho5
      have HBB := Lib.hid hb
      clear hb hx hc0 hc1 hc2 hs0 ho5
      go_wp2
      go_ret2
      exact ⟨_, ret_vb HF.out.symm, by rw [HR.out]; exact HO.out, HBB.out⟩)
end Go.Proofs.Ytbnobkojkfmccaa
