/- Chapter 4: SharesScale as the program has it. -/
import Derived.Test.YticmbnfmpjjohaaWalk5h
namespace Go.Proofs.Yticmbnfmpjjohaa
open Go.RowKit Go.Shelf
set_option maxRecDepth 100000

set_option maxHeartbeats 2000000 in
theorem X_i_SharesScale (v : Value) (d : List (Int × Int)) (b : Int) (w : World) (h : RdPointS w w.heap.size v d) (hs : szPointS d ≤ 1048576) :
    Calls Try.prog 53 #[v, .int .i64 b] w fun e w' => ∃ g, e = .returned (.tuple #[g, .bool (R_SharesScale_1 d b)]) ∧ OwPointS w' w.heap.size w'.heap.size g (R_SharesScale_0 d b) ∧ Below w.heap.size w w' := by
  obtain ⟨A, n, c, rfl, hm, r⟩ := h
  have hn : n ≤ 1048576 := by have := r.plen; unfold szPointS at hs; omega
  have hl := Lib.hid r.plen
  have H := Lib.hid r
  clear r hs hm
  have no : R_SharesScale_1 d b = false → Hid (R_SharesScale_1 d b = false ∧ R_SharesScale_0 d b = []) := fun h => Lib.hid ⟨h, by unfold R_SharesScale_0; rw [h]; rfl⟩
  obtain ⟨w0, HW0⟩ : ∃ w0, Hid ((w.alloc (.cells #[.slice A n c] 23)).alloc (.cells #[.int .i64 b] 3) = w0) := ⟨_, Lib.hid rfl⟩
  have HB0 : Hid (Below w.heap.size w w0) := Lib.hid (HW0.out ▸ ((Below.refl _ _).alloc (Nat.le_refl _) _).alloc (by simp) _)
  have hz0 : Hid (w0.heap.size = w.heap.size + 2) := Lib.hid (by rw [← HW0.out]; simp)
  have HRD : Hid (Rd w0 w0.heap.size 2 A n (cP d)) := Lib.hid ((H.out.below HB0.out).more (by have := hz0.out; omega))
  have hc1 : w0.cell? ⟨w.heap.size, 0, none⟩ = some (.slice A n c) := by rw [← HW0.out]; exact ((Boxed.new w _ _).alloc _).cell
  have hc2 : w0.cell? ⟨w.heap.size + 1, 0, none⟩ = some (.int .i64 b) := by
    have := Boxed.new (w.alloc (.cells #[.slice A n c] 23)) 3 (.int .i64 b)
    rw [World.size_alloc, HW0.out] at this; exact this.cell
  cases hp : numK d n
  · have HF := no (by unfold R_SharesScale_1; rw [hl.out, hp]; rfl)
    clear no
    go_enter Try.func53, Try.ntmps53
    go_wp2_with fail
    rw [HW0.out]
    refine (i_pointsOfNumbers _ _ _ _ _ HRD.out hn).mono ?_
    rintro e w1 ⟨rfl, hb1⟩
    rw [hp]
    have HB1 := Lib.hid (HB0.out.trans (hb1.mono (by have := hz0.out; omega)))
    clear hb1
    go_wp2
    go_ret2
    refine ⟨_, ret_vb HF.out.1.symm, ?_, HB1.out⟩
    rw [HF.out.2]; exact OwPointS.nil_ _ _ _
  · cases hb : numB b
    · have HF := no (by unfold R_SharesScale_1; rw [hl.out, hp, hb]; rfl)
      clear no
      go_enter Try.func53, Try.ntmps53
      go_wp2_with fail
      rw [HW0.out]
      refine (i_pointsOfNumbers _ _ _ _ _ HRD.out hn).mono ?_
      rintro e w1 ⟨rfl, hb1⟩
      rw [hp]
      have hd2 := (hb1.cell (p := ⟨w.heap.size + 1, 0, none⟩) (by have := hz0.out; simp; omega)).trans hc2
      have HB1 := Lib.hid (HB0.out.trans (hb1.mono (by have := hz0.out; omega)))
      clear hb1
      go_wp2_with fail
      refine (i_NumOk _ _).mono ?_
      rintro e w2 ⟨rfl, rfl⟩
      rw [hb]
      go_wp2
      go_ret2
      refine ⟨_, ret_vb HF.out.1.symm, ?_, HB1.out⟩
      rw [HF.out.2]; exact OwPointS.nil_ _ _ _
    · have HF1 : Hid (R_SharesScale_1 d b = true) := Lib.hid (by unfold R_SharesScale_1; rw [hl.out, hp, hb]; rfl)
      have HF2 : Hid (R_SharesScale_0 d b = uptoF (fun k => (px d k, py d k * b % 113)) n) := Lib.hid (by unfold R_SharesScale_0; rw [if_pos HF1.out, hl.out]; rfl)
      have hbr := Lib.hid ((numB_iff b).1 hb)
      have HP := Lib.hid hp
      go_enter Try.func53, Try.ntmps53
      go_wp2_with fail
      rw [HW0.out]
      refine (i_pointsOfNumbers _ _ _ _ _ HRD.out hn).mono ?_
      rintro e w1 ⟨rfl, hb1⟩
      rw [hp]
      have hd1 := (hb1.cell (p := ⟨w.heap.size, 0, none⟩) (by have := hz0.out; simp; omega)).trans hc1
      have hd2 := (hb1.cell (p := ⟨w.heap.size + 1, 0, none⟩) (by have := hz0.out; simp; omega)).trans hc2
      have HZ1 : Hid (w.heap.size + 2 ≤ w1.heap.size) := Lib.hid (by have := hz0.out; have := hb1.size; omega)
      have HB1 := Lib.hid (HB0.out.trans (hb1.mono (by have := hz0.out; omega)))
      have HR1 : Hid (Rd w1 w1.heap.size 2 A n (cP d)) := Lib.hid ((H.out.below HB1.out).more (by have := HZ1.out; omega))
      have HD1 := Lib.hid hd1
      have HD2 := Lib.hid hd2
      clear hb1
      go_wp2_with fail
      refine (i_NumOk _ _).mono ?_
      rintro e w2 ⟨rfl, rfl⟩
      rw [hb]
      clear hp hb no
      go_wp2_with fail
      refine (i_listed_scl w.heap.size (w.heap.size + 1) n hn (fun k => (px d k, py d k * b % 113)) _ (fun W k hW hk => ?_)).mono ?_
      · exact i_scl1 w.heap.size (w.heap.size + 1) A n c k d b W ((hW.cell (p := ⟨w.heap.size, 0, none⟩) (by have := HZ1.out; simp; omega)).trans HD1.out) ((hW.cell (p := ⟨w.heap.size + 1, 0, none⟩) (by have := HZ1.out; simp; omega)).trans HD2.out)
          (by have := HZ1.out; have := hW.size; omega) (by have := HZ1.out; have := hW.size; omega) ((HR1.out.below hW).more hW.size) HP.out hbr.out.1 hbr.out.2 hk
      · rintro e w3 ⟨g, rfl, ho, hb3⟩
        have HO := Lib.hid (ho.widen (show w.heap.size ≤ _ by have := HZ1.out; omega) (Nat.le_refl _))
        have HB3 := Lib.hid (HB1.out.trans (hb3.mono (by have := HZ1.out; omega)))
        clear ho hb3
        go_wp2
        go_ret2
        exact ⟨_, ret_vb HF1.out.symm, by rw [HF2.out]; exact HO.out, HB3.out⟩
end Go.Proofs.Yticmbnfmpjjohaa
