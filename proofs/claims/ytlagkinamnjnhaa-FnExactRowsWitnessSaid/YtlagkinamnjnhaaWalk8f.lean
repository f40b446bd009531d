/- Chapter 8: CircuitOk of both sides as the laws meet it; inputs that fit. -/
import Derived.Test.YtlagkinamnjnhaaWalk8e
import Derived.Test.YtlagkinamnjnhaaMany
namespace Go.Proofs.Ytlagkinamnjnhaa
open Go.RowKit
set_option maxRecDepth 100000

theorem RdGateS.n {w : World} {hi : Nat} {A : Option Addr} {n c : Nat} {d : List (Int × Int × Int)} (h : RdGateS w hi (.slice A n c) d) : Rd w hi 3 A n (cGate d) ∧ n = d.length := by
  obtain ⟨A', n', c', e, _, r⟩ := h
  injection e with e1 e2 e3; subst e1; subst e2; subst e3
  exact ⟨r, r.Gatelen.symm⟩
theorem RdIntS.n {w : World} {hi : Nat} {A : Option Addr} {n c : Nat} {d : List Int} (h : RdIntS w hi (.slice A n c) d) : Rd w hi 1 A n (cI d) ∧ n = d.length := by
  obtain ⟨A', n', c', e, _, r⟩ := h
  injection e with e1 e2 e3; subst e1; subst e2; subst e3
  exact ⟨r, r.len.symm⟩
theorem szC1 {d : Int × List (Int × Int × Int) × List Int} (h : szCircuit d ≤ 1048576) : d.2.1.length ≤ 1048576 := by unfold szCircuit szGateS at h; omega
theorem szC2 {d : Int × List (Int × Int × Int) × List Int} (h : szCircuit d ≤ 1048576) : d.2.2.length ≤ 1048576 := by unfold szCircuit szIntS at h; omega

theorem X_s_CircuitOk (v : Value) (d : Int × List (Int × Int × Int) × List Int) (w : World) (h : RdCircuit w w.heap.size v d) (hs : szCircuit d ≤ 1048576) :
    Calls Try.prog 28 #[v] w fun e w' => e = .returned (.bool (circB d)) ∧ Below w.heap.size w w' := by
  obtain ⟨A1, n1, c1, A2, n2, c2, rfl, h1, h2⟩ := h
  exact s_CircuitOk A1 n1 c1 A2 n2 c2 d.1 d.2.1 d.2.2 w h1.n.1 h2.n.1 (by have := szC1 hs; have := h1.n.2; omega) (by have := szC2 hs; have := h2.n.2; omega)

/-- inputs fit a circuit -/
def fitsB (d : Int × List (Int × Int × Int) × List Int) (ins : List Int) : Bool := circB d && (decide ((ins.length : Int) = d.1) && numsB ins)

set_option maxHeartbeats 4000000 in
theorem s_l8Fits (A1 : Option Addr) (n1 c1 : Nat) (A2 : Option Addr) (n2 c2 : Nat) (A3 : Option Addr) (n3 c3 : Nat) (z : Int) (d1 : List (Int × Int × Int)) (d2 ins : List Int) (w : World) (h1 : Rd w w.heap.size 3 A1 n1 (cGate d1)) (h2 : Rd w w.heap.size 1 A2 n2 (cI d2)) (h3 : Rd w w.heap.size 1 A3 n3 (cI ins)) (hn1 : n1 ≤ 1048576) (hn2 : n2 ≤ 1048576) (hn3 : n3 ≤ 1048576) :
    Calls Try.prog 38 #[.agg #[.int .i64 z, .slice A1 n1 c1, .slice A2 n2 c2], .slice A3 n3 c3] w fun e w' => e = .returned (.bool (fitsB (z, d1, d2) ins)) ∧ Below w.heap.size w w' := by
  have hl3 : Hid (ins.length = n3) := Lib.hid h3.len
  have H1 := Lib.hid h1
  have H2 := Lib.hid h2
  have H3 := Lib.hid h3
  clear h1 h2 h3
  have HX0 : Hid (Bx (w.alloc (.cells #[.int .i64 z, .slice A1 n1 c1, .slice A2 n2 c2] 32)) w.heap.size #[.int .i64 z, .slice A1 n1 c1, .slice A2 n2 c2] 32) := Lib.hid (Bx.new _ _ _)
  have HB0 : Hid (Below w.heap.size w (w.alloc (.cells #[.int .i64 z, .slice A1 n1 c1, .slice A2 n2 c2] 32))) := Lib.hid ((Below.refl _ _).alloc (Nat.le_refl _) _)
  go_enter Try.func38, Try.ntmps38
  go_wp2_with fail
  refine (s_CircuitOk A1 n1 c1 A2 n2 c2 z d1 d2 _ ((H1.out.below HB0.out).more (by simp)) ((H2.out.below HB0.out).more (by simp)) hn1 hn2).mono ?_
  rintro e w2 ⟨rfl, hb⟩
  have HX1 := Lib.hid (HX0.out.below hb HX0.out.lt)
  have HB1 : Hid (Below w.heap.size w w2) := Lib.hid (HB0.out.trans (hb.mono HB0.out.size))
  have H31 : Hid (Rd w2 w2.heap.size 1 A3 n3 (cI ins)) := Lib.hid ((H3.out.below HB1.out).more HB1.out.size)
  clear hb HB0 HX0
  have c0 : w2.cell? ⟨w.heap.size, 0, none⟩ = some (.int .i64 z) := HX1.out.cell 0
  cases eb : circB (z, d1, d2)
  · have HF : Hid (fitsB (z, d1, d2) ins = false) := Lib.hid (by simp [fitsB, eb])
    go_wp2
    go_ret
    exact ⟨ret_bool HF.out.symm, HB1.out⟩
  by_cases e2 : (n3 : Int) = z
  · have HF : Hid (fitsB (z, d1, d2) ins = numsB ins) := Lib.hid (by simp [fitsB, eb, hl3.out, e2])
    subst e2
    go_wp2_with fail
    refine (s_l1In A3 n3 c3 ins _ H31.out hn3).mono ?_
    rintro e w' ⟨rfl, rfl⟩
    go_wp2
    go_ret
    exact ⟨ret_bool HF.out.symm, HB1.out⟩
  · have HF : Hid (fitsB (z, d1, d2) ins = false) := Lib.hid (by simp [fitsB, eb, hl3.out, e2])
    go_wp2
    go_ret
    exact ⟨ret_bool HF.out.symm, HB1.out⟩

set_option maxHeartbeats 2000000 in
theorem i_insFit (A1 : Option Addr) (n1 c1 : Nat) (A2 : Option Addr) (n2 c2 : Nat) (A3 : Option Addr) (n3 c3 : Nat) (z : Int) (ins : List Int) (w : World) (h3 : Rd w w.heap.size 1 A3 n3 (cI ins)) (hn3 : n3 ≤ 1048576) :
    Calls Try.prog 55 #[.agg #[.int .i64 z, .slice A1 n1 c1, .slice A2 n2 c2], .slice A3 n3 c3] w fun e w' => e = .returned (.bool (decide ((ins.length : Int) = z) && numsB ins)) ∧ Below w.heap.size w w' := by
  have hl3 : Hid (ins.length = n3) := Lib.hid h3.len
  have H3 := Lib.hid h3
  clear h3
  have HB0 : Hid (Below w.heap.size w (w.alloc (.cells #[.int .i64 z, .slice A1 n1 c1, .slice A2 n2 c2] 32))) := Lib.hid ((Below.refl _ _).alloc (Nat.le_refl _) _)
  by_cases e2 : (n3 : Int) = z
  · have HF : Hid ((decide ((ins.length : Int) = z) && numsB ins) = numsB ins) := Lib.hid (by simp [hl3.out, e2])
    subst e2
    go_enter Try.func55, Try.ntmps55
    go_wp2_with fail
    refine (i_manyNumbers A3 n3 c3 ins _ _ ((H3.out.below HB0.out).more (by simp)) hn3).mono ?_
    rintro e w' ⟨rfl, rfl⟩
    rw [show (decide ((n3 : Int) = (n3 : Int)) && numsB ins) = numsB ins from by simp]
    go_wp2
    go_ret
    exact ⟨ret_bool HF.out.symm, HB0.out⟩
  · have HF : Hid ((decide ((ins.length : Int) = z) && numsB ins) = false) := Lib.hid (by simp [hl3.out, e2])
    have HV : Hid ((decide ((n3 : Int) = z) && numsB ins) = false) := Lib.hid (by simp [e2])
    clear e2
    go_enter Try.func55, Try.ntmps55
    go_wp2_with fail
    refine (i_manyNumbers A3 n3 c3 ins _ _ ((H3.out.below HB0.out).more (by simp)) hn3).mono ?_
    rintro e w' ⟨rfl, rfl⟩
    rw [HV.out]
    go_wp2
    go_ret
    exact ⟨ret_bool HF.out.symm, HB0.out⟩
end Go.Proofs.Ytlagkinamnjnhaa
