/- P30, P34, P36, P37, P38: the laws' walks. -/
import Derived.Test.YtjpjmlcmaombnaaDraw9
import Derived.Test.YtjpjmlcmaombnaaWalk6a
import Derived.Test.YtjpjmlcmaombnaaWalk1b
namespace Go.Proofs.Ytjpjmlcmaombnaa
open Go.RowKit
set_option maxRecDepth 100000

theorem most_two {n b : Int} (h0 : 0 ≤ mostI n b) (h7 : n + 2 ≤ 7) : mostI (n + 2) b = mostI n b + 1 := by
  by_cases h : 1 ≤ n ∧ n ≤ 7 ∧ 0 ≤ b ∧ b < n
  · rw [mostI_yes h, mostI_yes (by omega)]; omega
  · rw [mostI_no h] at h0; omega
theorem most_bd (n b : Int) : -1 ≤ mostI n b ∧ mostI n b ≤ 3 := by
  unfold mostI; split <;> omega
theorem trap_pow : powI 4 trap 227 = 9 := by
  have h := trap_nat
  show ((powN (4 : Int).toNat (((logN 9 : Nat) : Int)).toNat 227 : Nat) : Int) = 9
  rw [show (4 : Int).toNat = 4 from rfl, Int.toNat_natCast, h.2.1]; rfl
theorem trap_num : numB trap = true := by have := trap_bd; simp [numB]; omega
theorem el4 : elB 4 = true := by decide +kernel
theorem turn_back {a b o : Int} (hb : 0 ≤ b ∧ b ≤ 112) : turnI o (turnI a b o) a = b := by
  unfold turnI
  generalize powI trap 111 113 = v
  have h : (a - o) % 113 * v + (o - a) % 113 * v = ((a - o) % 113 + (o - a) % 113) * v := (Int.add_mul _ _ _).symm
  have h2 : (a - o) % 113 + (o - a) % 113 = 0 ∨ (a - o) % 113 + (o - a) % 113 = 113 := by omega
  generalize (a - o) % 113 * v = X at *
  generalize (o - a) % 113 * v = Y at *
  rcases h2 with h2 | h2 <;> rw [h2] at h <;> omega

set_option maxHeartbeats 1000000 in
theorem P30_walk (A : Option Addr) (n c : Nat) (bs : List Int) (w : World) (h : Rd w w.heap.size 1 A n (cU bs)) (hb : Byt bs) (hc : n ≤ c) (hm : n ≤ 9223372036854775807) :
    Calls Try.prog 14 #[.slice A n c] w fun e w' => e = .returned (.bool true) ∧ Below w.heap.size w w' := by
  by_cases hn : n ≤ 1048576
  · have h3 : ¬ ((1048576 : Int) < (n : Int)) := by omega
    have H := Lib.hid h
    clear h
    go_enter Try.func14, Try.ntmps14
    go_wp2_with fail
    refine (d_DrawMendMost _ _ _ _ _ H.out hb hn hc).mono ?_
    rintro e w1 ⟨s, t, rfl, ⟨⟨s0, s8⟩, t0, t7⟩, hb1⟩
    have B1 := Lib.hid hb1
    have HM := most_bd s t
    clear hb1
    go_wp2_with fail
    refine (i_MendMost _ _ _).mono ?_
    rintro e w2 ⟨rfl, rfl⟩
    go_wp2_with fail
    refine (s_MendMost _ _ _).mono ?_
    rintro e w2 ⟨rfl, rfl⟩
    by_cases hx : 0 ≤ mostI s t
    · have iw : IntKind.i64.wrap (s + 2) = s + 2 := IntWalk.i64_in _ (by omega)
      have iw2 : IntKind.i64.wrap (mostI s t + 1) = mostI s t + 1 := IntWalk.i64_in _ (by omega)
      go_wp2_with fail
      · go_ret
        exact ⟨rfl, B1.out⟩
      · have hq : (!decide (s + 2 ≤ 7)) = false := by assumption
        have hy : s + 2 ≤ 7 := by simpa using hq
        have HT := Lib.hid (most_two hx hy)
        refine (i_MendMost _ _ _).mono ?_
        rintro e w2 ⟨rfl, rfl⟩
        rw [HT.out]
        go_wp2
        go_ret
        exact ⟨rfl, B1.out⟩
    · go_wp2
      go_ret
      exact ⟨rfl, B1.out⟩
  · have h3 : (1048576 : Int) < (n : Int) := by omega
    go_enter Try.func14, Try.ntmps14
    go_wp2
    go_ret
    exact ⟨rfl, Below.refl _ _⟩

set_option maxHeartbeats 1000000 in
theorem P34_walk (A : Option Addr) (n c : Nat) (bs : List Int) (w : World) (h : Rd w w.heap.size 1 A n (cU bs)) (hb : Byt bs) (hc : n ≤ c) (hm : n ≤ 9223372036854775807) :
    Calls Try.prog 16 #[.slice A n c] w fun e w' => e = .returned (.bool true) ∧ Below w.heap.size w w' := by
  by_cases hn : n ≤ 1048576
  · have h3 : ¬ ((1048576 : Int) < (n : Int)) := by omega
    have H := Lib.hid h
    clear h
    go_enter Try.func16, Try.ntmps16
    go_wp2_with fail
    refine (d_DrawCommit _ _ _ _ _ H.out hb hn hc).mono ?_
    rintro e w1 ⟨s, t, rfl, hb1⟩
    have B1 := Lib.hid hb1
    clear hb1
    go_wp2_with fail
    refine (X_i_Commit _ _ _).mono ?_
    rintro e w2 ⟨rfl, hb2⟩
    have B2 := Lib.hid (B1.out.trans (hb2.mono B1.out.size))
    clear hb2
    go_wp2_with fail
    refine (X_s_Commit _ _ _).mono ?_
    rintro e w3 ⟨rfl, hb3⟩
    have B3 := Lib.hid (B2.out.trans (hb3.mono B2.out.size))
    clear hb3
    cases hB : comB s t
    · go_wp2
      go_ret
      exact ⟨rfl, B3.out⟩
    · have HO : Hid (openB (comV s t) s t = true) := Lib.hid (by unfold openB comV; rw [hB]; simp)
      go_wp2_with fail
      refine (X_i_CommitOpen _ _ _ _).mono ?_
      rintro e w4 ⟨rfl, hb4⟩
      have B4 := Lib.hid (B3.out.trans (hb4.mono B3.out.size))
      clear hb4
      rw [HO.out]
      go_wp2
      go_ret
      exact ⟨rfl, B4.out⟩
  · have h3 : (1048576 : Int) < (n : Int) := by omega
    go_enter Try.func16, Try.ntmps16
    go_wp2
    go_ret
    exact ⟨rfl, Below.refl _ _⟩

set_option maxHeartbeats 1000000 in
theorem P36_walk (A : Option Addr) (n c : Nat) (bs : List Int) (w : World) (_h : Rd w w.heap.size 1 A n (cU bs)) (_hb : Byt bs) (_hc : n ≤ c) (_hm : n ≤ 9223372036854775807) :
    Calls Try.prog 17 #[.slice A n c] w fun e w' => e = .returned (.bool true) ∧ Below w.heap.size w w' := by
  by_cases hn : n ≤ 1048576
  · have h3 : ¬ ((1048576 : Int) < (n : Int)) := by omega
    go_enter Try.func17, Try.ntmps17
    go_wp2_with fail
    refine (i_Trapdoor _).mono ?_
    rintro e w1 ⟨rfl, rfl⟩
    go_wp2_with fail
    refine (i_ElementPow 4 trap _ el4 trap_num).mono ?_
    rintro e w1 ⟨rfl, rfl⟩
    rw [trap_pow]
    go_wp2_with fail
    refine (i_Trapdoor _).mono ?_
    rintro e w1 ⟨rfl, rfl⟩
    go_wp2_with fail
    refine (s_Trapdoor _).mono ?_
    rintro e w1 ⟨rfl, rfl⟩
    go_wp2
    go_ret
    exact ⟨rfl, Below.refl _ _⟩
  · have h3 : (1048576 : Int) < (n : Int) := by omega
    go_enter Try.func17, Try.ntmps17
    go_wp2
    go_ret
    exact ⟨rfl, Below.refl _ _⟩

set_option maxHeartbeats 1000000 in
theorem P37_walk (A : Option Addr) (n c : Nat) (bs : List Int) (w : World) (h : Rd w w.heap.size 1 A n (cU bs)) (hb : Byt bs) (hc : n ≤ c) (hm : n ≤ 9223372036854775807) :
    Calls Try.prog 18 #[.slice A n c] w fun e w' => e = .returned (.bool true) ∧ Below w.heap.size w w' := by
  by_cases hn : n ≤ 1048576
  · have h3 : ¬ ((1048576 : Int) < (n : Int)) := by omega
    have H := Lib.hid h
    clear h
    go_enter Try.func18, Try.ntmps18
    go_wp2_with fail
    refine (d_DrawCommitTurn _ _ _ _ _ H.out hb hn hc).mono ?_
    rintro e w1 ⟨s, t, u, rfl, hb1⟩
    have B1 := Lib.hid hb1
    clear hb1
    go_wp2_with fail
    refine (X_i_CommitTurn _ _ _ _).mono ?_
    rintro e w2 ⟨rfl, hb2⟩
    have B2 := Lib.hid (B1.out.trans (hb2.mono B1.out.size))
    clear hb2
    go_wp2_with fail
    refine (X_s_CommitTurn _ _ _ _).mono ?_
    rintro e w3 ⟨rfl, hb3⟩
    have B3 := Lib.hid (B2.out.trans (hb3.mono B2.out.size))
    clear hb3
    cases hB : turnB s t u
    · go_wp2
      go_ret
      exact ⟨rfl, B3.out⟩
    · obtain ⟨hs, ht, hu⟩ : numB s = true ∧ numB t = true ∧ numB u = true := by
        unfold turnB at hB; simp only [Bool.and_eq_true] at hB; exact ⟨hB.1.1, hB.1.2, hB.2⟩
      have rs := (numB_iff _).1 hs
      have rt := (numB_iff _).1 ht
      have ru := (numB_iff _).1 hu
      have hV : turnV s t u = turnI s t u := by unfold turnV; rw [if_pos hB]
      have hx : numB (turnI s t u) = true := by unfold turnI; simp [numB]; omega
      have HC1 : Hid (comV s t = comI s t) := Lib.hid (by unfold comV; rw [if_pos (by unfold comB; rw [hs, ht]; rfl)])
      have HC2 : Hid (comB u (turnI s t u) = true) := Lib.hid (by unfold comB; rw [hu, hx]; rfl)
      have HC3 : Hid (comV u (turnI s t u) = comI s t) := Lib.hid (by unfold comV; rw [if_pos HC2.out]; exact turn_is rs rt ru)
      have HC4 : Hid (turnB u (turnI s t u) s = true) := Lib.hid (by unfold turnB; rw [hu, hx, hs]; rfl)
      have HC5 : Hid (turnV u (turnI s t u) s = t) := Lib.hid (by unfold turnV; rw [if_pos HC4.out]; exact turn_back rt)
      rw [hV]
      clear hs ht hu hx hV
      go_wp2_with fail
      refine (X_i_Commit _ _ _).mono ?_
      rintro e w4 ⟨rfl, hb4⟩
      have B4 := Lib.hid (B3.out.trans (hb4.mono B3.out.size))
      clear hb4
      rw [HC1.out]
      go_wp2_with fail
      refine (X_i_Commit _ _ _).mono ?_
      rintro e w5 ⟨rfl, hb5⟩
      have B5 := Lib.hid (B4.out.trans (hb5.mono B4.out.size))
      clear hb5
      rw [HC2.out, HC3.out]
      go_wp2_with fail
      refine (X_i_CommitTurn _ _ _ _).mono ?_
      rintro e w6 ⟨rfl, hb6⟩
      have B6 := Lib.hid (B5.out.trans (hb6.mono B5.out.size))
      clear hb6
      rw [HC4.out, HC5.out]
      go_wp2
      go_ret
      exact ⟨rfl, B6.out⟩
  · have h3 : (1048576 : Int) < (n : Int) := by omega
    go_enter Try.func18, Try.ntmps18
    go_wp2
    go_ret
    exact ⟨rfl, Below.refl _ _⟩

set_option maxHeartbeats 1000000 in
theorem P38_walk (A : Option Addr) (n c : Nat) (bs : List Int) (w : World) (h : Rd w w.heap.size 1 A n (cU bs)) (hb : Byt bs) (hc : n ≤ c) (hm : n ≤ 9223372036854775807) :
    Calls Try.prog 19 #[.slice A n c] w fun e w' => e = .returned (.bool true) ∧ Below w.heap.size w w' := by
  by_cases hn : n ≤ 1048576
  · have h3 : ¬ ((1048576 : Int) < (n : Int)) := by omega
    have H := Lib.hid h
    clear h
    go_enter Try.func19, Try.ntmps19
    go_wp2_with fail
    refine (d_DrawCommitBreak _ _ _ _ _ H.out hb hn hc).mono ?_
    rintro e w1 ⟨s, t, u, v, rfl, hb1⟩
    have B1 := Lib.hid hb1
    clear hb1
    go_wp2_with fail
    refine (X_i_CommitBreak _ _ _ _ _).mono ?_
    rintro e w2 ⟨rfl, hb2⟩
    have B2 := Lib.hid (B1.out.trans (hb2.mono B1.out.size))
    clear hb2
    go_wp2_with fail
    refine (X_s_CommitBreak _ _ _ _ _).mono ?_
    rintro e w3 ⟨rfl, hb3⟩
    have B3 := Lib.hid (B2.out.trans (hb3.mono B2.out.size))
    clear hb3
    cases hB : breakB s t u v
    · go_wp2
      go_ret
      exact ⟨rfl, B3.out⟩
    · have HV : Hid (breakV s t u v = trap) := Lib.hid (by
        unfold breakV; rw [if_pos hB]
        unfold breakB at hB
        simp only [Bool.and_eq_true, decide_eq_true_eq] at hB
        obtain ⟨⟨⟨⟨h1, h2⟩, h3⟩, h4⟩, h5, h6⟩ := hB
        exact break_is ((numB_iff _).1 h1) ((numB_iff _).1 h2) ((numB_iff _).1 h3) ((numB_iff _).1 h4) h6 h5)
      rw [HV.out]
      go_wp2_with fail
      refine (i_Trapdoor _).mono ?_
      rintro e w4 ⟨rfl, rfl⟩
      go_wp2
      go_ret
      exact ⟨rfl, B3.out⟩
  · have h3 : (1048576 : Int) < (n : Int) := by omega
    go_enter Try.func19, Try.ntmps19
    go_wp2
    go_ret
    exact ⟨rfl, Below.refl _ _⟩
end Go.Proofs.Ytjpjmlcmaombnaa
