/- P26: the law's walk. -/
import Derived.Test.YticmbnfmpjjohaaDraw4
namespace Go.Proofs.Yticmbnfmpjjohaa
open Go.RowKit
set_option maxRecDepth 100000

set_option maxHeartbeats 4000000 in
theorem P26_walk (A : Option Addr) (n c : Nat) (bs : List Int) (w : World) (h : Rd w w.heap.size 1 A n (cU bs)) (hb : Byt bs) (hc : n ≤ c) (hm : n ≤ 9223372036854775807) :
    Calls Try.prog 3 #[.slice A n c] w fun e w' => e = .returned (.bool true) ∧ Below w.heap.size w w' := by
  by_cases hn : n ≤ 1048576
  · have h3 : ¬ ((1048576 : Int) < (n : Int)) := by omega
    have H := Lib.hid h
    clear h
    go_enter Try.func3, Try.ntmps3
    go_wp2_with fail
    refine (d_DrawSharesExplain _ _ _ _ _ H.out hb hn hc).mono ?_
    rintro e w1 ⟨s, v, d, rfl, ho, h8, hb1⟩
    have HO := Lib.hid ho
    have B1 := Lib.hid hb1
    have hsz : szPointS d ≤ 1048576 := by unfold szPointS; omega
    have z1 := hb1.size
    clear ho hb1
    go_wp2_with fail
    refine (X_i_SharesExplain v s d w1 HO.out.rd hsz).mono ?_
    rintro e w2 ⟨g, rfl, hg, hb2⟩
    have HG := Lib.hid hg
    have B2 := Lib.hid (B1.out.trans (hb2.mono z1))
    have HO2 := Lib.hid (HO.out.below hb2 (Nat.le_refl _))
    have z2 := hb2.size
    clear hg hb2 HO B1
    go_wp2_with fail
    refine (X_s_SharesExplain v s d w2 (HO2.out.rd.more z2) hsz).mono ?_
    rintro e w3 ⟨g', rfl, hg', hb3⟩
    have HG' := Lib.hid hg'
    have B3 := Lib.hid (B2.out.trans (hb3.mono (Nat.le_trans z1 z2)))
    have HG3 := Lib.hid (HG.out.below hb3 (Nat.le_refl _))
    have HO3 := Lib.hid (HO2.out.below hb3 z2)
    have z3 := hb3.size
    clear hg' hb3 HG HO2 B2
    obtain ⟨hs0, A2, n2, c2, rfl, r2⟩ := HG3.out
    obtain ⟨hs1, A3, n3, c3, rfl, r3⟩ := HG'.out
    have e2 := r2.len
    have e3 := r3.len
    obtain rfl : n3 = n2 := by omega
    have HR2 := Lib.hid (r2.rd.more (Nat.le_trans (Nat.le_refl _) z3))
    have HR3 := Lib.hid r3.rd
    have hn2 : n3 ≤ 1048576 := by omega
    clear r2 r3
    go_wp2_with fail
    refine (u_uvInts _ _ _ _ _ _ _ HR2.out HR3.out hn2).mono ?_
    rintro e w4 ⟨rfl, hb4⟩
    have B4 := Lib.hid (B3.out.trans (hb4.mono (Nat.le_trans z1 (Nat.le_trans z2 z3))))
    have HO4 := Lib.hid (HO3.out.below hb4 (Nat.le_trans z2 z3))
    have HR4 := Lib.hid (HR2.out.below hb4)
    have z4 := hb4.size
    clear hb4 HO3 HG3 HG' HR2 HR3 B3
    cases hR : R_SharesExplain_1 s d
    · go_wp2
      go_ret
      exact ⟨rfl, B4.out⟩
    · have HX0 : Hid (R_SharesExplain_0 s d = expL s d) := Lib.hid (by unfold R_SharesExplain_0; rw [if_pos (show expB s d = true from hR)])
      have HAT := Lib.hid fun i hi => expl_at hR i hi
      obtain ⟨hso, h6⟩ := expl_nums hR
      rw [HX0.out] at e2 HR4
      rw [expL_length] at e2
      have HSO := Lib.hid hso
      have HF2 : Hid (R_SharesOf_0 s 7 (expL s d) = uptoF (shF (s :: expL s d)) 7) := Lib.hid (by unfold R_SharesOf_0; rw [if_pos (show ofB s 7 (expL s d) = true from hso)]; rfl)
      clear hR hso e3
      go_wp2_with fail
      refine (X_i_SharesOf _ s 7 (expL s d) w4 ⟨_, _, _, rfl, by omega, HR4.out.more z4⟩ (by unfold szIntS; rw [expL_length]; omega)).mono ?_
      rintro e w5 ⟨g5, rfl, ho5, hb5⟩
      rw [HSO.out]
      rw [HF2.out] at ho5
      obtain ⟨_, A5, n5, c5, rfl, r5⟩ := ho5
      have B5 := Lib.hid (B4.out.trans (hb5.mono (Nat.le_trans z1 (Nat.le_trans z2 (Nat.le_trans z3 z4)))))
      have HO5 := Lib.hid (HO4.out.below hb5 (Nat.le_trans z2 (Nat.le_trans z3 z4)))
      have HA5 := Lib.hid r5.rd
      have h7 : n5 = 7 := by have := r5.plen; rw [uptoF_length] at this; omega
      subst h7
      clear hb5 HO4 r5 B4 HR4
      obtain ⟨_, Ad, nd, cd, rfl, rd⟩ := HO5.out
      have hnd := rd.plen
      have HD := Lib.hid rd.rd
      clear rd HO5
      obtain rfl : n3 = nd := by omega
      go_wp2
      go_loopw [12] (fun i wr => ∃ k m : Nat, k ≤ n3 ∧ i = .int .i64 k ∧ wr = w5.drewN m) (fun i _ => n3 - (intOf i).toNat)
      case atStart => exact ⟨0, 0, Nat.zero_le _, rfl, rfl⟩
      case round =>
        obtain ⟨k, m, hk, rfl, rfl⟩ := hrel
        by_cases hlt : k < n3
        · obtain ⟨a, x, y, rfl, hab, hx, hy, HP⟩ := HD.out.ptAt hlt
          have HXY := pxy HP.out
          have hat := HAT.out k (by omega)
          rw [HXY.1, HXY.2] at hat
          obtain ⟨⟨x1, x7⟩, hv⟩ := hat
          obtain ⟨j, hj⟩ := Int.eq_ofNat_of_zero_le (show 0 ≤ x - 1 by omega)
          obtain ⟨a5, x', y', rfl, hab5, hx5, hy5, HP5⟩ := HA5.out.ptAt (show j < 7 by omega)
          have hp5 := HP5.out
          rw [show (uptoF (shF (s :: expL s d)) 7).getD j (0, 0) = shF (s :: expL s d) j by simp [uptoF, show j < 7 by omega]] at hp5
          have hj1 : (j : Int) + 1 = x := by omega
          simp only [shF, hj1, hv] at hp5
          obtain ⟨rfl, rfl⟩ : x' = x ∧ y' = y := by injection hp5 with p1 p2; exact ⟨p1.symm, p2.symm⟩
          have i0 : (0 : Int) ≤ (k : Int) := by omega
          have i1 : (k : Int) < (n3 : Int) := by omega
          have j0 : (0 : Int) ≤ (j : Int) := by omega
          have j7 : (j : Int) < 7 := by omega
          have iw : IntKind.i64.wrap (x' - 1) = x' - 1 := IntWalk.i64_in _ (by omega)
          have it : (x' - 1).toNat = j := by omega
          have k0 : 0 ≤ x' - 1 := by omega
          have k7 : x' - 1 < 7 := by omega
          clear HP HXY HP5 hp5
          go_wp2
          go_quiet (fail)
          go_wp2
          go_roundw
          case rel => exact ⟨k + 1, _, by omega, by go_num, rfl⟩
          case measure => simp [intOf] <;> omega
        · go_wp2
          go_ret
          exact ⟨rfl, below_drewN B5.out _⟩
  · have h3 : (1048576 : Int) < (n : Int) := by omega
    go_enter Try.func3, Try.ntmps3
    go_wp2
    go_ret
    exact ⟨rfl, Below.refl _ _⟩

section
open Go.ChangeShapes Go.WideShapes Go.ChangeAt Go.RowKit
/-- an argument of type []byte: a list of bytes that reads -/
theorem open_byteS {H : Type} {enc : TypeId × Value → H} {P : Program} {w : World} {b0 : Nat} {t e : TypeId} {r : Reach} {v : Value} {d : DataW H} {ps : List MemPlace} (ht : P.underlying t = some (.slice e)) (he : P.underlying e = some (.int .u8)) (hc : P.cellsOf e = 1)
    (hv : Value.okWide P w r b0 t v) (h : DataW.Trod enc P w 0 (fun _ => true) true t v d ps) :
    ∃ A n c zs, v = .slice A n c ∧ n ≤ 9223372036854775807 ∧ n ≤ c ∧ Rd w w.heap.size 1 A n (cU zs) ∧ Byt zs := by
  obtain ⟨A, n, c, rfl⟩ : ∃ A n c, v = .slice A n c := by
    cases v <;> simp [Value.okWide, ht, Cell.okWide, Cell.ok] at hv
    exact ⟨_, _, _, rfl⟩
  obtain ⟨fuel, hf⟩ := h
  rcases open_ints ht he hc hf with ⟨hn, _⟩ | ⟨a, len, cap, zs, hs, _, hlc, hm, hlen, _, hcell, hwz⟩
  · simp [Value.cells] at hn
    obtain ⟨rfl, rfl, rfl⟩ := hn
    exact ⟨_, _, _, [], rfl, by omega, Nat.le_refl _, ⟨by simp [cU], fun h => by omega⟩, fun j => by simp⟩
  · simp [Value.cells] at hs
    obtain ⟨rfl, rfl, rfl⟩ := hs
    simp only [if_true] at hlen
    unfold maxLen at hm
    have hby : Byt zs := fun j => by
      by_cases hj : j < zs.length
      · have hw := hwz zs[j] (List.getElem_mem hj)
        simp only [Lit.wf, IntKind.min, IntKind.max, IntKind.signed, IntKind.bits, Bool.and_eq_true] at hw
        simp [hj]
        simp at hw
        omega
      · simp [List.getElem?_eq_none (show zs.length ≤ j by omega)]
    refine ⟨_, _, _, zs.take n, rfl, by omega, by omega, ⟨by rw [cU_length, List.length_take]; omega, fun hn => ⟨a, rfl, ?_, fun j u hu => ?_⟩⟩, hby.take _⟩
    · have := hcell 0 (by omega)
      exact World.block_lt_of_cell? (a := a.add 0) _ this
    · have hj : j < n := by
        have := (List.getElem?_eq_some_iff.1 hu).1
        rw [cU_length, List.length_take] at this; omega
      simp only [cU, List.map_take, List.getElem?_take, if_pos hj, List.getElem?_map, List.getElem?_eq_getElem (show j < zs.length by omega), Option.map_some, Option.some.injEq] at hu
      rw [← hu, hcell j (by omega)]
      simp [show j < zs.length by omega]
end
end Go.Proofs.Yticmbnfmpjjohaa
