/- Chapter 4: SharesAdd in the model; lists with the same X. -/
import Derived.Test.YtbmjepmlalfpgaaWalk5e
namespace Go.Proofs.Ytbmjepmlalfpgaa
open Go.RowKit
set_option maxRecDepth 100000

def sameK (ps qs : List (Int × Int)) : Nat → Bool
  | 0 => true
  | k + 1 => sameK ps qs k && (px ps k == px qs k)
theorem sameK_mono {ps qs : List (Int × Int)} {k n : Nat} (h : sameK ps qs n = true) (hk : k ≤ n) : sameK ps qs k = true := by
  induction n with
  | zero => rw [show k = 0 by omega]; rfl
  | succ n ih =>
    by_cases hc : k = n + 1
    · rw [hc]; exact h
    · exact ih (by simp only [sameK, Bool.and_eq_true] at h; exact h.1) (by omega)
theorem sameK_bad {ps qs : List (Int × Int)} {k n : Nat} (h : sameK ps qs (k + 1) = false) (hk : k < n) : sameK ps qs n = false := by
  apply Bool.eq_false_iff.2
  intro ht
  rw [sameK_mono ht (show k + 1 ≤ n by omega)] at h; cases h
def addP (ps qs : List (Int × Int)) (k : Nat) : List (Int × Int) := (List.range k).map fun i => (px ps i, (py ps i + py qs i) % 113)
theorem addP_succ (ps qs : List (Int × Int)) (k : Nat) : addP ps qs (k + 1) = addP ps qs k ++ [(px ps k, (py ps k + py qs k) % 113)] := by simp [addP, List.range_succ]
def R_SharesAdd_1 (a b : List (Int × Int)) : Bool := decide (a.length = b.length) && (numK a a.length && (numK b b.length && sameK a b a.length))
def R_SharesAdd_0 (a b : List (Int × Int)) : List (Int × Int) := if R_SharesAdd_1 a b = true then addP a b a.length else []
theorem add_no {a b : List (Int × Int)} (h : R_SharesAdd_1 a b = false) : Hid (R_SharesAdd_1 a b = false ∧ R_SharesAdd_0 a b = []) := Lib.hid ⟨h, by unfold R_SharesAdd_0; rw [h]; rfl⟩

set_option maxHeartbeats 2000000 in
theorem X_s_SharesAdd (v v' : Value) (d d' : List (Int × Int)) (w : World) (h : RdPointS w w.heap.size v d) (h' : RdPointS w w.heap.size v' d') (hs : szPointS d ≤ 1048576) (hs' : szPointS d' ≤ 1048576) :
    Calls Try.prog 23 #[v, v'] w fun e w' => ∃ g, e = .returned (.tuple #[g, .bool (R_SharesAdd_1 d d')]) ∧ OwPointS w' w.heap.size w'.heap.size g (R_SharesAdd_0 d d') ∧ Below w.heap.size w w' := by
  obtain ⟨A, n, c, rfl, hm, r⟩ := h
  obtain ⟨A', n', c', rfl, hm', r'⟩ := h'
  have hn : n ≤ 1048576 := by have := r.plen; unfold szPointS at hs; omega
  have hn' : n' ≤ 1048576 := by have := r'.plen; unfold szPointS at hs'; omega
  have hl := Lib.hid r.plen
  have hl' := Lib.hid r'.plen
  have H := Lib.hid r
  have H' := Lib.hid r'
  clear r hs hm r' hs' hm'
  by_cases hne : n = n'
  · subst hne
    have HN : Hid (R_SharesAdd_1 d d' = (numK d n && (numK d' n && sameK d d' n))) := Lib.hid (by
      unfold R_SharesAdd_1; rw [hl.out, hl'.out, decide_eq_true rfl]; rfl)
    cases hp : numK d n
    · have HF := add_no (a := d) (b := d') (by rw [HN.out, hp]; rfl)
      go_enter Try.func23, Try.ntmps23
      go_wp2_with fail
      refine (s_l4Points _ _ _ _ _ H.out hn).mono ?_
      rintro e w1 ⟨rfl, rfl⟩
      rw [hp]
      go_wp2
      go_ret2
      refine ⟨_, ret_vb HF.out.1.symm, ?_, Below.refl _ _⟩
      rw [HF.out.2]; exact OwPointS.nil_ _ _ _
    · cases hp' : numK d' n
      · have HF := add_no (a := d) (b := d') (by rw [HN.out, hp, hp']; rfl)
        go_enter Try.func23, Try.ntmps23
        go_wp2_with fail
        refine (s_l4Points _ _ _ _ _ H.out hn).mono ?_
        rintro e w1 ⟨rfl, rfl⟩
        rw [hp]
        go_wp2_with fail
        refine (s_l4Points _ _ _ _ _ H'.out hn).mono ?_
        rintro e w1 ⟨rfl, rfl⟩
        rw [hp']
        go_wp2
        go_ret2
        refine ⟨_, ret_vb HF.out.1.symm, ?_, Below.refl _ _⟩
        rw [HF.out.2]; exact OwPointS.nil_ _ _ _
      · have HM : Hid (R_SharesAdd_1 d d' = sameK d d' n) := Lib.hid (by rw [HN.out, hp, hp']; rfl)
        have HAT := Lib.hid fun k (hk : k < n) => numK_at hp hk
        have HAT' := Lib.hid fun k (hk : k < n) => numK_at hp' hk
        go_enter Try.func23, Try.ntmps23
        go_wp2_with fail
        refine (s_l4Points _ _ _ _ _ H.out hn).mono ?_
        rintro e w1 ⟨rfl, rfl⟩
        rw [hp]
        go_wp2_with fail
        refine (s_l4Points _ _ _ _ _ H'.out hn).mono ?_
        rintro e w1 ⟨rfl, rfl⟩
        rw [hp']
        go_wp2
        clear hp hp'
        have H0 : Hid ((w.alloc (.cells #[] 96)).ownsRow w.heap.size 96 2 (.slice (some ⟨w.heap.size, 0, none⟩) 0 0) 0 (cP (addP d d' 0))) := Lib.hid (own_empty w _ 2)
        have HB0 : Hid (Below w.heap.size w (w.alloc (.cells #[] 96))) := Lib.hid ((Below.refl _ _).alloc (Nat.le_refl _) _)
        go_loopw [6, 7] (fun out i wr => ∃ (k : Nat) (Ao : Option Addr) (co : Nat), k ≤ n ∧ i = .int .i64 k ∧ out = .slice Ao k co ∧ Hid (wr.ownsRow w.heap.size 96 2 (.slice Ao k co) k (cP (addP d d' k))) ∧ Hid (Below w.heap.size w wr) ∧ Hid (sameK d d' k = true)) (fun _ i _ => n - (intOf i).toNat)
        case atStart => exact ⟨0, _, 0, Nat.zero_le _, rfl, rfl, H0, HB0, Lib.hid rfl⟩
        case round =>
          clear H0 HB0
          obtain ⟨k, Ao, co, hk, rfl, rfl, HO, HB, HK⟩ := hrel
          by_cases hlt : k < n
          · obtain ⟨a, x, y, rfl, hab, hx0, hy0, HP⟩ := H.out.ptAt hlt
            obtain ⟨a', x', y', rfl, hab', hx0', hy0', HP'⟩ := H'.out.ptAt hlt
            have hx := (HB.out.cell (p := a.add (k * 2)) (by rw [add_block]; exact hab)).trans hx0
            have hx' := (HB.out.cell (p := a'.add (k * 2)) (by rw [add_block]; exact hab')).trans hx0'
            have HXY := Lib.hid (pxy HP.out)
            have HXY' := Lib.hid (pxy HP'.out)
            have HX0 := Lib.hid hx0
            have HY0 := Lib.hid hy0
            have HX0' := Lib.hid hx0'
            have HY0' := Lib.hid hy0'
            clear hx0 hy0 hx0' hy0'
            have hat := HAT.out k hlt
            rw [HXY.out.1, HXY.out.2] at hat
            have hat' := HAT'.out k hlt
            rw [HXY'.out.1, HXY'.out.2] at hat'
            have HR := Lib.hid (And.intro hat.2 hat'.2)
            clear hat hat'
            have i0 : (0 : Int) ≤ (k : Int) := by omega
            have i1 : (k : Int) < (n : Int) := by omega
            by_cases hxx : x = x'
            · have hb : (x != x') = false := by simp [hxx]
              have HK2 : Hid (sameK d d' (k + 1) = true) := Lib.hid (by rw [sameK, HK.out, HXY.out.1, HXY'.out.1, hxx]; simp)
              have hbb : (x == x') = true := by simp [hxx]
              clear hxx
              go_wp2
              go_quiet (fail)
              obtain ⟨wz, hwz⟩ : ∃ wz, wr.drewN nq = wz := ⟨_, rfl⟩
              have HOz : Hid (wz.ownsRow w.heap.size 96 2 (.slice Ao k co) k (cP (addP d d' k))) := Lib.hid (by rw [← hwz]; exact HO.out)
              have HBz : Hid (Below w.heap.size w wz) := Lib.hid (by rw [← hwz]; exact below_drewN HB.out _)
              rw [hwz]
              clear hwz HO HB hx hx'
              have hx := (HBz.out.cell (p := a.add (k * 2)) (by rw [add_block]; exact hab)).trans HX0.out
              have hy := (HBz.out.cell (p := ⟨(a.add (k * 2)).block, (a.add (k * 2)).off + 1, none⟩) (by rw [add_block]; exact hab)).trans HY0.out
              have hy' := (HBz.out.cell (p := ⟨(a'.add (k * 2)).block, (a'.add (k * 2)).off + 1, none⟩) (by rw [add_block]; exact hab')).trans HY0'.out
              have hr := HR.out
              have iw : IntKind.i64.wrap (y + y') = y + y' := IntWalk.i64_in _ (by omega)
              have im : (y + y').tmod 113 = (y + y') % 113 := Int.tmod_eq_emod_of_nonneg (by omega)
              have HAB : Hid ((a.add (k * 2)).block < wz.heap.size ∧ (a'.add (k * 2)).block < wz.heap.size) := Lib.hid ⟨by rw [add_block]; exact Nat.lt_of_lt_of_le hab HBz.out.size, by rw [add_block]; exact Nat.lt_of_lt_of_le hab' HBz.out.size⟩
              clear hr
              go_wp2
              go_region_held3 (fun w' => w'.cell? (a.add (k * 2)) = some (.int .i64 x) ∧ w'.cell? ⟨(a.add (k * 2)).block, (a.add (k * 2)).off + 1, none⟩ = some (.int .i64 y) ∧ w'.cell? ⟨(a'.add (k * 2)).block, (a'.add (k * 2)).off + 1, none⟩ = some (.int .i64 y')) (go_keep) (first
                | (refine step_pt (w := w) (wr := wz) (p := x) (q := (y + y') % 113) rfl (.tmp 41) (.tmp 60) rfl rfl rfl HOz.out HBz.out ?hW ?hl (by omega) ?_
                   case hW => first | exact (Below.refl _ _).alloc (Nat.le_refl _) _ | exact below_drew ((Below.refl _ _).alloc (Nat.le_refl _) _) | exact (below_drew (Below.refl _ _)).alloc (Nat.le_refl _) _
                   case hl => exact heap_alloc_new _ _
                   intro A3 c3 w3 h6 h7
                   have hx3 := (h7.out.cell (p := a.add (k * 2)) (by rw [add_block]; exact hab)).trans HX0.out
                   have hy3 := (h7.out.cell (p := ⟨(a.add (k * 2)).block, (a.add (k * 2)).off + 1, none⟩) (by rw [add_block]; exact hab)).trans HY0.out
                   have hy3' := (h7.out.cell (p := ⟨(a'.add (k * 2)).block, (a'.add (k * 2)).off + 1, none⟩) (by rw [add_block]; exact hab')).trans HY0'.out))
              all_goals (
                have HO2 : Hid (w3.ownsRow w.heap.size 96 2 (.slice A3 (k + 1) c3) (k + 1) (cP (addP d d' (k + 1)))) := Lib.hid (by
                  rw [addP_succ, HXY.out.1, HXY.out.2, HXY'.out.2]; exact h6.out)
                clear h6 hx3 hy3 hy3' iw im
                go_wp2
                go_roundw
                case rel => exact ⟨k + 1, A3, c3, by omega, by go_num, rfl, HO2, h7, HK2⟩
                case measure => simp [intOf] <;> omega)
            · have hb : (x != x') = true := by simp [hxx]
              have HF := add_no (a := d) (b := d') (by
                rw [HM.out, sameK_bad (k := k) (by rw [sameK, HXY.out.1, HXY'.out.1, beq_eq_false_iff_ne.2 hxx]; simp) hlt])
              have hbb : (x == x') = false := by simp [hxx]
              clear hxx
              go_wp2
              go_quiet (fail)
              go_wp2
              go_ret2
              refine ⟨_, ret_vb HF.out.1.symm, ?_, below_drewN HB.out _⟩
              rw [HF.out.2]; exact OwPointS.nil_ _ _ _
          · obtain rfl : n = k := by omega
            have HF1 : Hid (R_SharesAdd_1 d d' = true) := Lib.hid (by rw [HM.out, HK.out])
            have HOr : Hid (OwPointS wr w.heap.size wr.heap.size (.slice Ao n co) (R_SharesAdd_0 d d')) := Lib.hid (by
              unfold R_SharesAdd_0; rw [if_pos HF1.out, hl.out]; exact done_pts HO.out hn)
            go_wp2
            go_ret2
            exact ⟨_, ret_vb HF1.out.symm, HOr.out, HB.out⟩
  · have HF := add_no (a := d) (b := d') (by unfold R_SharesAdd_1; rw [hl.out, hl'.out, decide_eq_false hne]; rfl)
    have hnn : ((n : Int) == (n' : Int)) = false := by rw [beq_eq_false_iff_ne]; omega
    go_enter Try.func23, Try.ntmps23
    go_wp2
    go_ret2
    refine ⟨_, ret_vb HF.out.1.symm, ?_, Below.refl _ _⟩
    rw [HF.out.2]; exact OwPointS.nil_ _ _ _
end Go.Proofs.Ytbmjepmlalfpgaa
