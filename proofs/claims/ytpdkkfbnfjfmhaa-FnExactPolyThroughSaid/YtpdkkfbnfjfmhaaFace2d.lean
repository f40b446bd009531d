/- Chapter 2: PolyThrough as the laws meet it. Made by gen2face4.py. -/
import Derived.Test.YtpdkkfbnfjfmhaaWalk2n
import Derived.Test.YtpdkkfbnfjfmhaaFaceP
import Derived.Test.YtpdkkfbnfjfmhaaFace2b
namespace Go.Proofs.Ytpdkkfbnfjfmhaa
open Go.RowKit
set_option maxRecDepth 100000

def R_PolyThrough_1 (d : List (Int × Int)) : Bool := ptsB d
def R_PolyThrough_0 (d : List (Int × Int)) : List Int := if R_PolyThrough_1 d = true then thrS d d.length d.length else []

set_option maxHeartbeats 1000000 in
theorem X_s_PolyThrough (v : Value) (d : List (Int × Int)) (w : World) (h : RdPointS w w.heap.size v d) (hs : szPointS d ≤ 1048576) :
    Calls Try.prog 24 #[v] w fun e w' => ∃ g, e = .returned (.tuple #[g, .bool (R_PolyThrough_1 d)]) ∧ OwIntS w' w.heap.size w'.heap.size g (R_PolyThrough_0 d) ∧ Below w.heap.size w w' := by
  obtain ⟨A, n, c, rfl, hm, r⟩ := h
  have hn : n ≤ 1048576 := by have := r.plen; unfold szPointS at hs; omega
  have hl := Lib.hid r.plen
  have H := Lib.hid r
  clear r hs hm
  cases hp : ptsB d
  · have HF : Hid (R_PolyThrough_1 d = false) := Lib.hid hp
    go_enter Try.func24, Try.ntmps24
    go_wp2_with fail
    refine (s_l2Points _ _ _ _ _ H.out hn).mono ?_
    rintro e w1 ⟨rfl, hb⟩
    have HB : Hid (Below w.heap.size w w1) := Lib.hid (hb.below _)
    clear hb
    rw [hp]
    go_wp2
    go_ret2
    refine ⟨_, ret_vb HF.out.symm, ?_, HB.out⟩
    rw [R_PolyThrough_0, if_neg (by rw [HF.out]; simp)]; exact OwIntS.nil_ _ _ _
  · have HF : Hid (R_PolyThrough_1 d = true) := Lib.hid hp
    have hp2 := hp
    simp only [ptsB, Bool.and_eq_true, decide_eq_true_eq] at hp2
    have hln := hl.out
    have hg : Good d n := by have := Good.of hp2.2; rw [hln] at this; exact this
    have HG := Lib.hid hg
    have h20 : n ≤ 20 := by omega
    clear hp2 hg hln
    go_enter Try.func24, Try.ntmps24
    go_wp2_with fail
    refine (s_l2Points _ _ _ _ _ H.out hn).mono ?_
    rintro e w1 ⟨rfl, hb⟩
    have hz : w.heap.size ≤ w1.heap.size := (hb.below 0).size
    have HB : Hid (Below w.heap.size w w1) := Lib.hid (hb.below _)
    clear hb
    rw [hp]
    go_wp2_with fail
    refine (s_l2Through _ _ _ _ _ ((H.out.below HB.out).more hz) h20 HG.out).mono ?_
    rintro e w2 ⟨g, rfl, ho, hb⟩
    have hln := hl.out
    have HO : Hid (OwIntS w2 w.heap.size w2.heap.size g (thrS d d.length d.length)) := Lib.hid (by
      rw [hln]; exact ho.widen hz (Nat.le_refl _))
    have HB2 : Hid (Below w.heap.size w w2) := Lib.hid (HB.out.trans (hb.mono hz))
    clear ho hb hln
    go_wp2
    go_ret2
    refine ⟨_, ret_vb HF.out.symm, ?_, HB2.out⟩
    rw [R_PolyThrough_0, if_pos HF.out]; exact HO.out

set_option maxHeartbeats 1000000 in
theorem X_i_PolyThrough (v : Value) (d : List (Int × Int)) (w : World) (h : RdPointS w w.heap.size v d) (hs : szPointS d ≤ 1048576) :
    Calls Try.prog 26 #[v] w fun e w' => ∃ g, e = .returned (.tuple #[g, .bool (R_PolyThrough_1 d)]) ∧ OwIntS w' w.heap.size w'.heap.size g (R_PolyThrough_0 d) ∧ Below w.heap.size w w' := by
  obtain ⟨A, n, c, rfl, hm, r⟩ := h
  have hn : n ≤ 1048576 := by have := r.plen; unfold szPointS at hs; omega
  have hl := Lib.hid r.plen
  have H := Lib.hid r
  clear r hs hm
  cases hp : ptsB d
  · have HF : Hid (R_PolyThrough_1 d = false) := Lib.hid hp
    go_enter Try.func26, Try.ntmps26
    go_wp2_with fail
    refine (i_pointsOk _ _ _ _ _ H.out hn).mono ?_
    rintro e w1 ⟨rfl, hb⟩
    have HB : Hid (Below w.heap.size w w1) := Lib.hid (hb)
    clear hb
    rw [hp]
    go_wp2
    go_ret2
    refine ⟨_, ret_vb HF.out.symm, ?_, HB.out⟩
    rw [R_PolyThrough_0, if_neg (by rw [HF.out]; simp)]; exact OwIntS.nil_ _ _ _
  · have HF : Hid (R_PolyThrough_1 d = true) := Lib.hid hp
    have hp2 := hp
    simp only [ptsB, Bool.and_eq_true, decide_eq_true_eq] at hp2
    have hln := hl.out
    have hg : Good d n := by have := Good.of hp2.2; rw [hln] at this; exact this
    have HG := Lib.hid hg
    have h20 : n ≤ 20 := by omega
    clear hp2 hg hln
    go_enter Try.func26, Try.ntmps26
    go_wp2_with fail
    refine (i_pointsOk _ _ _ _ _ H.out hn).mono ?_
    rintro e w1 ⟨rfl, hb⟩
    have hz : w.heap.size ≤ w1.heap.size := hb.size
    have HB : Hid (Below w.heap.size w w1) := Lib.hid (hb)
    clear hb
    rw [hp]
    go_wp2_with fail
    refine (i_through _ _ _ _ _ ((H.out.below HB.out).more hz) h20 HG.out).mono ?_
    rintro e w2 ⟨g, rfl, ho, hb⟩
    have hln := hl.out
    have HO : Hid (OwIntS w2 w.heap.size w2.heap.size g (thrS d d.length d.length)) := Lib.hid (by
      rw [← hln] at ho; rw [through_one (by rw [hln]; exact HG.out)] at ho; exact ho.widen hz (Nat.le_refl _))
    have HB2 : Hid (Below w.heap.size w w2) := Lib.hid (HB.out.trans (hb.mono hz))
    clear ho hb hln
    go_wp2
    go_ret2
    refine ⟨_, ret_vb HF.out.symm, ?_, HB2.out⟩
    rw [R_PolyThrough_0, if_pos HF.out]; exact HO.out
end Go.Proofs.Ytpdkkfbnfjfmhaa
