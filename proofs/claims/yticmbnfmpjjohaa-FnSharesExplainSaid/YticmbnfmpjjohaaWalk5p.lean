/- Chapter 4: SharesOf as the laws meet it. -/
import Derived.Test.YticmbnfmpjjohaaWalk5o
namespace Go.Proofs.Yticmbnfmpjjohaa
open Go.RowKit Go.Shelf
set_option maxRecDepth 100000

set_option maxHeartbeats 2000000 in
theorem X_s_SharesOf (v : Value) (s n : Int) (d : List Int) (w : World) (h : RdIntS w w.heap.size v d) (hs : szIntS d ≤ 1048576) :
    Calls Try.prog 21 #[.int .i64 s, .int .i64 n, v] w fun e w' => ∃ g, e = .returned (.tuple #[g, .bool (R_SharesOf_1 s n d)]) ∧ OwPointS w' w.heap.size w'.heap.size g (R_SharesOf_0 s n d) ∧ Below w.heap.size w w' := by
  obtain ⟨A, m, c, rfl, hm, r⟩ := h
  have hn : m ≤ 1048576 := by have := r.len; unfold szIntS at hs; omega
  have hl := Lib.hid r.len
  have H := Lib.hid r
  clear r hs hm
  cases h1 : numB s
  · have HF := of_no (s := s) (n := n) (t := d) (by simp [ofB, h1])
    go_enter Try.func21, Try.ntmps21
    go_wp2_with fail
    refine (s_NumOk _ _).mono ?_
    rintro e w1 ⟨rfl, rfl⟩
    rw [h1]
    go_wp2
    go_ret2
    refine ⟨_, ret_vb HF.out.1.symm, ?_, Below.refl _ _⟩
    rw [HF.out.2]; exact OwPointS.nil_ _ _ _
  · cases h2 : numsB d
    · have HF := of_no (s := s) (n := n) (t := d) (by simp [ofB, h2])
      go_enter Try.func21, Try.ntmps21
      go_wp2_with fail
      refine (s_NumOk _ _).mono ?_
      rintro e w1 ⟨rfl, rfl⟩
      rw [h1]
      go_wp2_with fail
      refine (s_l1In _ _ _ _ _ H.out hn).mono ?_
      rintro e w1 ⟨rfl, rfl⟩
      rw [h2]
      go_wp2
      go_ret2
      refine ⟨_, ret_vb HF.out.1.symm, ?_, Below.refl _ _⟩
      rw [HF.out.2]; exact OwPointS.nil_ _ _ _
    · by_cases h3 : 1 ≤ n ∧ n ≤ 7
      · obtain ⟨N, rfl⟩ := Int.eq_ofNat_of_zero_le (show 0 ≤ n by omega)
        have HI := Lib.hid (inB_t h3)
        have hs1 := Lib.hid ((numB_iff s).1 h1)
        have hd1 := Lib.hid (nums_of_B h2)
        by_cases h4 : m < N
        · have HX : Hid (ofB s N d = true) := Lib.hid (by
            unfold ofB; rw [h1, h2, HI.out, hl.out, decide_eq_true (by omega)]; rfl)
          have HF1 : Hid (R_SharesOf_1 s N d = true) := Lib.hid HX.out
          have HF2 : Hid (R_SharesOf_0 s N d = uptoF (shF (s :: d)) N) := Lib.hid (by unfold R_SharesOf_0; rw [if_pos HX.out]; rfl)
          have HN7 : Hid (N ≤ 7) := Lib.hid (by omega)
          have HM : Hid (m ≤ 1000) := Lib.hid (by omega)
          have h5 : ¬ ((N : Int) ≤ (m : Int)) := by omega
          have h6 : (m : Int) < (N : Int) := by omega
          clear h3
          go_enter Try.func21, Try.ntmps21
          go_wp2_with fail
          refine (s_NumOk _ _).mono ?_
          rintro e w1 ⟨rfl, rfl⟩
          rw [h1]
          go_wp2_with fail
          refine (s_l1In _ _ _ _ _ H.out hn).mono ?_
          rintro e w1 ⟨rfl, rfl⟩
          rw [h2]
          clear h1 h2
          go_wp2_with fail
          refine (s_l6In _ _ _ _).mono ?_
          rintro e w1 ⟨rfl, rfl⟩
          rw [HI.out]
          go_wp2_with fail
          refine (s_l4Of _ _ _ _ _ _ _ H.out HM.out HN7.out hs1.out hd1.out).mono ?_
          rintro e w2 ⟨g, rfl, ho, hb⟩
          have HO := Lib.hid ho
          have HB := Lib.hid hb
          clear ho hb
          go_wp2
          go_ret2
          exact ⟨_, ret_vb HF1.out.symm, by rw [HF2.out]; exact HO.out, HB.out⟩
        · have HF := of_no (s := s) (n := N) (t := d) (by unfold ofB; rw [hl.out, decide_eq_false (by omega)]; simp)
          have h5 : (N : Int) ≤ (m : Int) := by omega
          clear h3
          go_enter Try.func21, Try.ntmps21
          go_wp2_with fail
          refine (s_NumOk _ _).mono ?_
          rintro e w1 ⟨rfl, rfl⟩
          rw [h1]
          go_wp2_with fail
          refine (s_l1In _ _ _ _ _ H.out hn).mono ?_
          rintro e w1 ⟨rfl, rfl⟩
          rw [h2]
          clear h1 h2
          go_wp2_with fail
          refine (s_l6In _ _ _ _).mono ?_
          rintro e w1 ⟨rfl, rfl⟩
          rw [HI.out]
          go_wp2
          go_ret2
          refine ⟨_, ret_vb HF.out.1.symm, ?_, Below.refl _ _⟩
          rw [HF.out.2]; exact OwPointS.nil_ _ _ _
      · have HI := Lib.hid (inB_f h3)
        have HF := of_no (s := s) (n := n) (t := d) (by unfold ofB; rw [HI.out]; simp)
        clear h3
        go_enter Try.func21, Try.ntmps21
        go_wp2_with fail
        refine (s_NumOk _ _).mono ?_
        rintro e w1 ⟨rfl, rfl⟩
        rw [h1]
        go_wp2_with fail
        refine (s_l1In _ _ _ _ _ H.out hn).mono ?_
        rintro e w1 ⟨rfl, rfl⟩
        rw [h2]
        clear h1 h2
        go_wp2_with fail
        refine (s_l6In _ _ _ _).mono ?_
        rintro e w1 ⟨rfl, rfl⟩
        rw [HI.out]
        go_wp2
        go_ret2
        refine ⟨_, ret_vb HF.out.1.symm, ?_, Below.refl _ _⟩
        rw [HF.out.2]; exact OwPointS.nil_ _ _ _

set_option maxHeartbeats 2000000 in
theorem X_i_SharesOf (v : Value) (s n : Int) (d : List Int) (w : World) (h : RdIntS w w.heap.size v d) (hs : szIntS d ≤ 1048576) :
    Calls Try.prog 19 #[.int .i64 s, .int .i64 n, v] w fun e w' => ∃ g, e = .returned (.tuple #[g, .bool (R_SharesOf_1 s n d)]) ∧ OwPointS w' w.heap.size w'.heap.size g (R_SharesOf_0 s n d) ∧ Below w.heap.size w w' := by
  obtain ⟨A, m, c, rfl, hm, r⟩ := h
  have hn : m ≤ 1048576 := by have := r.len; unfold szIntS at hs; omega
  have hl := Lib.hid r.len
  have H := Lib.hid r
  clear r hs hm
  cases h1 : numB s
  · have HF := of_no (s := s) (n := n) (t := d) (by simp [ofB, h1])
    go_enter Try.func19, Try.ntmps19
    go_wp2_with fail
    refine (i_NumOk _ _).mono ?_
    rintro e w1 ⟨rfl, rfl⟩
    rw [h1]
    go_wp2
    go_ret2
    refine ⟨_, ret_vb HF.out.1.symm, ?_, Below.refl _ _⟩
    rw [HF.out.2]; exact OwPointS.nil_ _ _ _
  · cases h2 : numsB d
    · have HF := of_no (s := s) (n := n) (t := d) (by simp [ofB, h2])
      go_enter Try.func19, Try.ntmps19
      go_wp2_with fail
      refine (i_NumOk _ _).mono ?_
      rintro e w1 ⟨rfl, rfl⟩
      rw [h1]
      go_wp2_with fail
      refine (i_numbersOk _ _ _ _ _ H.out hn).mono ?_
      rintro e w1 ⟨rfl, rfl⟩
      rw [h2]
      go_wp2
      go_ret2
      refine ⟨_, ret_vb HF.out.1.symm, ?_, Below.refl _ _⟩
      rw [HF.out.2]; exact OwPointS.nil_ _ _ _
    · by_cases h3 : (1 ≤ n ∧ n ≤ 7) ∧ (m : Int) < n
      · obtain ⟨⟨h31, h37⟩, h4⟩ := h3
        obtain ⟨N, rfl⟩ := Int.eq_ofNat_of_zero_le (show 0 ≤ n by omega)
        have HX : Hid (ofB s N d = true) := Lib.hid (by
          unfold ofB; rw [h1, h2, inB_t ⟨h31, h37⟩, hl.out, decide_eq_true h4]; rfl)
        have hs1 := Lib.hid ((numB_iff s).1 h1)
        have hd1 := Lib.hid (nums_of_B h2)
        have HF1 : Hid (R_SharesOf_1 s N d = true) := Lib.hid HX.out
        have HF2 : Hid (R_SharesOf_0 s N d = uptoF (shF (s :: d)) N) := Lib.hid (by unfold R_SharesOf_0; rw [if_pos HX.out]; rfl)
        have HN7 : Hid (N ≤ 7) := Lib.hid (by omega)
        have HM : Hid (m ≤ 1000) := Lib.hid (by omega)
        go_enter Try.func19, Try.ntmps19
        go_wp2_with fail
        refine (i_NumOk _ _).mono ?_
        rintro e w1 ⟨rfl, rfl⟩
        rw [h1]
        go_wp2_with fail
        refine (i_numbersOk _ _ _ _ _ H.out hn).mono ?_
        rintro e w1 ⟨rfl, rfl⟩
        rw [h2]
        clear h1 h2
        go_wp2_with fail
        refine (i_secretWith _ _ _ _ _ _ H.out HM.out).mono ?_
        rintro e w2 ⟨A2, c2, rfl, ho, hb⟩
        have HRD := Lib.hid ho.rd
        have HB2 := Lib.hid hb
        clear ho hb
        go_wp2_with fail
        refine (i_given _ _ _ _ _ _ HRD.out (by have := HM.out; omega) (nums_cons hs1.out hd1.out) HN7.out).mono ?_
        rintro e w3 ⟨g, rfl, ho, hb⟩
        have HO := Lib.hid (ho.widen HB2.out.size (Nat.le_refl _))
        have HB3 := Lib.hid (HB2.out.trans (hb.mono HB2.out.size))
        clear ho hb
        go_wp2
        go_ret2
        exact ⟨_, ret_vb HF1.out.symm, by rw [HF2.out]; exact HO.out, HB3.out⟩
      · have HF := of_no (s := s) (n := n) (t := d) (by
          unfold ofB
          by_cases h5 : 1 ≤ n ∧ n ≤ 7
          · rw [hl.out, decide_eq_false (fun h => h3 ⟨h5, h⟩)]; simp
          · rw [inB_f h5]; simp)
        have h5 : n < 1 ∨ 7 < n ∨ n ≤ (m : Int) := by omega
        clear h3
        by_cases k1 : n < 1
        all_goals by_cases k2 : 7 < n
        all_goals
          go_enter Try.func19, Try.ntmps19
          go_wp2_with fail
          refine (i_NumOk _ _).mono ?_
          rintro e w1 ⟨rfl, rfl⟩
          rw [h1]
          go_wp2_with fail
          refine (i_numbersOk _ _ _ _ _ H.out hn).mono ?_
          rintro e w1 ⟨rfl, rfl⟩
          rw [h2]
          go_wp2
          all_goals first
            | (go_ret2
               refine ⟨_, ret_vb HF.out.1.symm, ?_, Below.refl _ _⟩
               rw [HF.out.2]; exact OwPointS.nil_ _ _ _)
            | (exfalso; omega)
end Go.Proofs.Yticmbnfmpjjohaa
