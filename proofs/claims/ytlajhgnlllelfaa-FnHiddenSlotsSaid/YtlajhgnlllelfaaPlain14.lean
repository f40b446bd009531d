/- P82: the law's walk. -/
import Derived.Test.YtlajhgnlllelfaaDraw18
import Derived.Test.YtlajhgnlllelfaaMath19
import Derived.Test.YtlajhgnlllelfaaWalk13b
import Derived.Test.YtlajhgnlllelfaaUv
namespace Go.Proofs.Ytlajhgnlllelfaa
open Go.RowKit
set_option maxRecDepth 100000

set_option maxHeartbeats 4000000 in
theorem P82_walk (A : Option Addr) (n c : Nat) (bs : List Int) (w : World) (h : Rd w w.heap.size 1 A n (cU bs)) (hby : Byt bs) (hc : n ≤ c) (hm : n ≤ 9223372036854775807) :
    Calls Try.prog 9 #[.slice A n c] w fun e w' => e = .returned (.bool true) ∧ Below w.heap.size w w' := by
  by_cases hn : n ≤ 1048576
  · have h3 : ¬ ((1048576 : Int) < (n : Int)) := by omega
    have H := Lib.hid h
    clear h
    go_enter Try.func9, Try.ntmps9
    go_wp2_with fail
    refine (d_DrawHiddenSlots _ _ _ _ _ H.out hby hn hc).mono ?_
    rintro e w1 ⟨v, d, rfl, h_v, hb⟩
    have z1 : w.heap.size ≤ w1.heap.size := hb.size
    have HB := Lib.hid hb
    have HO_v := Lib.hid h_v
    clear hb h_v
    go_wp2_with fail
    refine (X_i_HiddenSlots _ d _ (HO_v.out.rd.more (by omega)) HO_v.out.small).mono ?_
    rintro e w2 ⟨g0, rfl, h_g, hb⟩
    have z2 : w1.heap.size ≤ w2.heap.size := hb.size
    replace HO_v := Lib.hid (HO_v.out.below hb (by omega))
    replace HB := Lib.hid (HB.out.trans (hb.mono (by omega)))
    have HO_g := Lib.hid h_g
    clear hb h_g
    go_wp2_with fail
    refine (X_s_HiddenSlots _ d _ (HO_v.out.rd.more (by omega)) HO_v.out.small).mono ?_
    rintro e w3 ⟨g1, rfl, h_s, hb⟩
    have z3 : w2.heap.size ≤ w3.heap.size := hb.size
    replace HO_v := Lib.hid (HO_v.out.below hb (by omega))
    replace HO_g := Lib.hid (HO_g.out.below hb (by omega))
    replace HB := Lib.hid (HB.out.trans (hb.mono (by omega)))
    have HO_s := Lib.hid h_s
    clear hb h_s
    go_wp2_with fail
    refine (U_uvInts2 w3.heap.size w3.heap.size _ _ _ _ (HO_g.out.rd.more (by omega)) (HO_s.out.rd.more (by omega)) (Nat.le_refl _) (Nat.le_refl _) HO_g.out.small).mono ?_
    rintro e w4 ⟨rfl, hb⟩
    have z4 : w3.heap.size ≤ w4.heap.size := hb.size
    replace HO_v := Lib.hid (HO_v.out.below hb (by omega))
    replace HO_g := Lib.hid (HO_g.out.below hb (by omega))
    replace HB := Lib.hid (HB.out.trans (hb.mono (by omega)))
    clear hb HO_s
    obtain ⟨_, Al, nl, cl, rfl, rl⟩ := HO_v.out
    obtain ⟨_, Ag, ng, cg, rfl, rg⟩ := HO_g.out
    have hll := rl.Accesslen
    have hlg := rg.len
    have hsl := slots_len d
    have HD : Hid (∀ i j, i < j → j < ng → (R_HiddenSlots_0 d).getD i 0 ≠ (R_HiddenSlots_0 d).getD j 0) := Lib.hid (fun i j hij hj => slots_diff hij (by omega))
    have HG := Lib.hid rg.rd
    have HN : Hid (ng = 0 ∨ ng = nl) := Lib.hid (by omega)
    have hng : ng ≤ 1048576 := by have := HO_g.out.small; unfold szIntS at this; omega
    clear rl rg hll hlg hsl HO_v HO_g
    go_wp2
    go_loopw [7] (fun j wr => ∃ k m : Nat, k ≤ ng ∧ j = .int .i64 k ∧ wr = w4.drewN m) (fun j _ => ng - (intOf j).toNat)
    case atStart => exact ⟨0, 0, Nat.zero_le _, rfl, rfl⟩
    case round =>
      obtain ⟨k, m, hk, rfl, rfl⟩ := hrel
      by_cases hlt : k < ng
      · have i1 : (k : Int) < (ng : Int) := by omega
        go_wp2
        go_loopw [8] (fun i wr => ∃ l m : Nat, l ≤ k ∧ i = .int .i64 l ∧ wr = w4.drewN m) (fun i _ => k - (intOf i).toNat)
        case atStart => exact ⟨0, m, Nat.zero_le _, rfl, rfl⟩
        case round =>
          obtain ⟨l, m2, hl, rfl, rfl⟩ := hrel
          by_cases hlt2 : l < k
          · obtain ⟨a, x, hA, _, hx, HX⟩ := HG.out.intAt (show l < ng by omega)
            obtain ⟨a', y, hA', _, hy, HY⟩ := HG.out.intAt hlt
            subst hA
            obtain rfl : a = a' := by injection hA'
            have hxy : (x == y) = false := by
              rw [beq_eq_false_iff_ne, HX.out, HY.out]; exact HD.out l k hlt2 hlt
            have i2 : (l : Int) < (k : Int) := by omega
            have i3 : (0 : Int) ≤ (l : Int) := by omega
            have i4 : (0 : Int) ≤ (k : Int) := by omega
            have i5 : (l : Int) < (ng : Int) := by omega
            clear HX HY hA'
            go_wp2
            go_quiet (fail)
            go_wp2
            go_roundw
            case rel => exact ⟨l + 1, _, by omega, by go_num, rfl⟩
            case measure => simp [intOf] <;> omega
          · have i2 : ¬ (l : Int) < (k : Int) := by omega
            go_wp2
            go_roundw
            case rel => exact ⟨k + 1, m2, by omega, by go_num, rfl⟩
            case measure => simp [intOf] <;> omega
      · have i1 : ¬ (k : Int) < (ng : Int) := by omega
        by_cases h0 : ng = 0
        · have hb0 : ((ng : Int) == 0) = true := by rw [h0]; rfl
          clear h0 HN
          go_wp2
          go_ret
          exact ⟨rfl, below_drewN HB.out _⟩
        · have hb0 : ((ng : Int) == 0) = false := by rw [beq_eq_false_iff_ne]; omega
          have hb1 : ((ng : Int) == (nl : Int)) = true := by rw [beq_iff_eq]; have := HN.out; omega
          clear h0 HN
          go_wp2
          go_ret
          exact ⟨rfl, below_drewN HB.out _⟩
  · have h3 : (1048576 : Int) < (n : Int) := by omega
    go_enter Try.func9, Try.ntmps9
    go_wp2
    go_ret
    exact ⟨rfl, Below.refl _ _⟩
end Go.Proofs.Ytlajhgnlllelfaa
