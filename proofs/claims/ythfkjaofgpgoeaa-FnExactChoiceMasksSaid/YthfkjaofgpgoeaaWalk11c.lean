/- Chapter 11: masks on things: the list of it; ChoiceAnswer of the model. -/
import Derived.Test.YthfkjaofgpgoeaaWalk11a
import Derived.Test.YthfkjaofgpgoeaaWalk10a
namespace Go.Proofs.Ythfkjaofgpgoeaa
open Go.RowKit
set_option maxRecDepth 100000

def mapE (op : Int → Int → Int) (xs : List Int) (ms : Nat → Int) (k : Nat) : Int := op (xs.getD k 0) (ms k) % 113
def mapK (op : Int → Int → Int) (xs : List Int) (ms : Nat → Int) : Nat → List Int
  | 0 => []
  | k + 1 => mapK op xs ms k ++ [mapE op xs ms k]
theorem mapK_length (op : Int → Int → Int) (xs : List Int) (ms : Nat → Int) (k : Nat) : (mapK op xs ms k).length = k := by
  induction k with
  | zero => rfl
  | succ k ih => simp [mapK, ih]
/-- the mask of a thing -/
def atM (ds : List Int) (a : Int) (n : Nat) (k : Nat) : Int := ds.getD (((k : Int) + a) % n).toNat 0
def thingsB (d : List Int × Int) (xs : List Int) : Bool := dealB d && (decide (xs.length = d.1.length) && numsB xs)
def R_ChoiceAnswer_1 (d : List Int × Int) (xs : List Int) (a : Int) : Bool := thingsB d xs && inB a 0 (d.1.length - 1)
def R_ChoiceAnswer_0 (d : List Int × Int) (xs : List Int) (a : Int) : List Int :=
  if R_ChoiceAnswer_1 d xs a = true then mapK (fun x y => x + y) xs (atM d.1 a d.1.length) d.1.length else []

set_option maxHeartbeats 2000000 in
theorem s_l11Answer (A A' : Option Addr) (n c n' c' : Nat) (ds xs : List Int) (t : Int) (w : World) (h : Rd w w.heap.size 1 A n (cI ds)) (h' : Rd w w.heap.size 1 A' n' (cI xs)) (hN : Nums ds) (hM : Nums xs) (hn : n ≤ 8) (hnn : n' = n) (t0 : 0 ≤ t) (t1 : t < n) :
    Calls Try.prog 106 #[.slice A n c, .slice A' n' c', .int .i64 t] w fun e w' => ∃ A3 c3, e = .returned (.slice A3 n c3) ∧ OwIntS w' w.heap.size w'.heap.size (.slice A3 n c3) (mapK (fun x y => x + y) xs (atM ds t n) n) ∧ Below w.heap.size w w' := by
  subst hnn
  have H := Lib.hid h
  have H' := Lib.hid h'
  have HN := Lib.hid hN
  have HM := Lib.hid hM
  clear h h' hN hM
  obtain ⟨L, hL⟩ : ∃ L, mapK (fun x y => x + y) xs (atM ds t n') = L := ⟨_, rfl⟩
  have HL := Lib.hid hL
  rw [hL]
  clear hL
  have H0 : Hid ((w.alloc (.cells #[] 3)).ownsRow w.heap.size 3 1 (.slice (some ⟨w.heap.size, 0, none⟩) 0 0) 0 (cI (L 0))) := Lib.hid (by rw [← HL.out]; exact own_empty w _ 1)
  have HB0 : Hid (Below w.heap.size w (w.alloc (.cells #[] 3))) := Lib.hid ((Below.refl _ _).alloc (Nat.le_refl _) _)
  go_enter Try.func106, Try.ntmps106
  go_wp2
  go_loopw [7, 8] (fun out i wr => ∃ (k : Nat) (Ao : Option Addr) (co : Nat), k ≤ n' ∧ i = .int .i64 k ∧ out = .slice Ao k co ∧ Hid (wr.ownsRow w.heap.size 3 1 (.slice Ao k co) k (cI (L k))) ∧ Hid (Below w.heap.size w wr)) (fun _ i _ => n' - (intOf i).toNat)
  case atStart => exact ⟨0, _, 0, Nat.zero_le _, rfl, rfl, H0, HB0⟩
  case round =>
    clear H0 HB0
    obtain ⟨k, Ao, co, hk, rfl, rfl, HO, HB⟩ := hrel
    by_cases hlt : k < n'
    · obtain ⟨bd0, bd1⟩ := emod_bd ((k : Int) + t) (show 0 < (n' : Int) by omega)
      obtain ⟨j, hj⟩ : ∃ j : Nat, ((k : Int) + t) % n' = (j : Int) := ⟨(((k : Int) + t) % n').toNat, by omega⟩
      have hjn : j < n' := by omega
      obtain ⟨a, x, rfl, hab, hx0, HX⟩ := H'.out.intAt hlt
      obtain ⟨a', y, rfl, hab', hy0, HY⟩ := H.out.intAt hjn
      have hx := (HB.out.cell (p := a.add k) (by rw [add_block]; exact hab)).trans hx0
      have hy := (HB.out.cell (p := a'.add j) (by rw [add_block]; exact hab')).trans hy0
      have HX0 := Lib.hid hx0
      have HY0 := Lib.hid hy0
      clear hx0 hy0
      have x0 : 0 ≤ x := by rw [HX.out]; exact (HM.out k).1
      have x1 : x ≤ 112 := by rw [HX.out]; exact (HM.out k).2
      have y0 : 0 ≤ y := by rw [HY.out]; exact (HN.out j).1
      have y1 : y ≤ 112 := by rw [HY.out]; exact (HN.out j).2
      have HE : Hid (L (k + 1) = L k ++ [(x + y) % 113]) := Lib.hid (by rw [← HL.out, mapK, mapE, atM, hj, Int.toNat_natCast, ← HX.out, ← HY.out])
      have i0 : (0 : Int) ≤ (k : Int) := by omega
      have i1 : (k : Int) < (n' : Int) := by omega
      have j0 : (0 : Int) ≤ (j : Int) := by omega
      have j1 : (j : Int) < (n' : Int) := by omega
      have q0 : ¬ (n' : Int) = 0 := by omega
      have q4 : ¬ n' = 0 := by omega
      have q1 : IntKind.i64.wrap ((k : Int) + t) = (k : Int) + t := IntWalk.i64_in _ (by omega)
      have q2 : ((k : Int) + t).tmod n' = (j : Int) := by rw [Int.tmod_eq_emod_of_nonneg (by omega)]; exact hj
      have q3 : IntKind.i64.wrap (j : Int) = (j : Int) := IntWalk.i64_in _ (by omega)
      have iw2 : IntKind.i64.wrap (x + y) = x + y := IntWalk.i64_in _ (by omega)
      have im : (x + y).tmod 113 = (x + y) % 113 := Int.tmod_eq_emod_of_nonneg (by omega)
      clear hj bd0 bd1
      go_wp2
      go_region_held3 (fun w' => w'.cell? (a.add k) = some (.int .i64 x) ∧ w'.cell? (a'.add j) = some (.int .i64 y)) (go_keep) (first
        | (refine step_int (w := w) (wr := wr) (p := (x + y) % 113) rfl (.tmp 16) (.tmp 32) rfl rfl rfl HO.out HB.out ?hW ?hl (by omega) ?_
           case hW => first | exact (Below.refl _ _).alloc (Nat.le_refl _) _ | exact below_drew ((Below.refl _ _).alloc (Nat.le_refl _) _) | exact (below_drew (Below.refl _ _)).alloc (Nat.le_refl _) _
           case hl => exact heap_alloc_new _ _
           intro A3 c3 w3 h6 h7
           have hx3 := (h7.out.cell (p := a.add k) (by rw [add_block]; exact hab)).trans HX0.out
           have hy3 := (h7.out.cell (p := a'.add j) (by rw [add_block]; exact hab')).trans HY0.out))
      all_goals (
        have HO2 : Hid (w3.ownsRow w.heap.size 3 1 (.slice A3 (k + 1) c3) (k + 1) (cI (L (k + 1)))) := Lib.hid (by
          rw [HE.out]; exact h6.out)
        clear h6 hx3 hy3 iw2 im q1 q2 q3
        go_wp2
        go_roundw
        case rel => exact ⟨k + 1, A3, c3, by omega, by go_num, rfl, HO2, h7⟩
        case measure => simp [intOf] <;> omega)
    · have hkn : k = n' := by omega
      subst hkn
      have HOF : Hid (OwIntS wr w.heap.size wr.heap.size (.slice Ao k co) (L k)) := Lib.hid (by
        obtain ⟨A, c, he, ho⟩ := own_fin HO.out (by omega)
        rw [he]; exact ho)
      go_wp2
      go_ret
      exact ⟨_, _, rfl, HOF.out, HB.out⟩

set_option maxHeartbeats 2000000 in
theorem s_l11Things (A : Option Addr) (n c : Nat) (z : Int) (ds : List Int) (A' : Option Addr) (n' c' : Nat) (xs : List Int) (w : World) (h : Rd w w.heap.size 1 A n (cI ds)) (hn : n ≤ 1048576) (h' : Rd w w.heap.size 1 A' n' (cI xs)) (hn' : n' ≤ 1048576) :
    Calls Try.prog 105 #[.agg #[.slice A n c, .int .i64 z], .slice A' n' c'] w fun e w' => e = .returned (.bool (thingsB (ds, z) xs)) ∧ Below w.heap.size w w' := by
  have hl := h.len
  have hl' := h'.len
  have HB0 : Hid (Below w.heap.size w (w.alloc (.cells #[.slice A n c, .int .i64 z] 53))) := Lib.hid ((Below.refl _ _).alloc (Nat.le_refl _) _)
  have HX0 : Hid (Bx (w.alloc (.cells #[.slice A n c, .int .i64 z] 53)) w.heap.size #[.slice A n c, .int .i64 z] 53) := Lib.hid (Bx.new _ _ _)
  have H : Hid (Rd (w.alloc (.cells #[.slice A n c, .int .i64 z] 53)) (w.alloc (.cells #[.slice A n c, .int .i64 z] 53)).heap.size 1 A n (cI ds)) := Lib.hid ((h.below HB0.out).more HB0.out.size)
  have HR := Lib.hid h'
  have HL := Lib.hid hl
  have HL' := Lib.hid hl'
  clear h hl h' hl'
  go_enter Try.func105, Try.ntmps105
  go_wp2_with fail
  refine (s_DealOk A n c z ds _ H.out hn).mono ?_
  rintro e w1 ⟨rfl, hb⟩
  have HX1 := Lib.hid (HX0.out.below hb HX0.out.lt)
  have HB1 : Hid (Below w.heap.size w w1) := Lib.hid (HB0.out.trans (hb.mono HB0.out.size))
  clear hb
  cases e1 : dealB (ds, z)
  · have HF : Hid (thingsB (ds, z) xs = false) := Lib.hid (by simp [thingsB, e1])
    go_wp2
    go_ret
    exact ⟨ret_bool HF.out.symm, HB1.out⟩
  have b0 : w1.cell? ⟨w.heap.size, 0, none⟩ = some (.slice A n c) := HX1.out.cell 0
  by_cases hnn : n' = n
  · subst hnn
    have HF : Hid (thingsB (ds, z) xs = numsB xs) := Lib.hid (by simp [thingsB, e1, HL.out, HL'.out])
    clear e1
    go_wp2_with fail
    refine (s_l1In _ _ _ _ _ ((HR.out.below HB1.out).more HB1.out.size) hn').mono ?_
    rintro e w' ⟨rfl, rfl⟩
    go_wp2
    go_ret
    exact ⟨ret_bool HF.out.symm, HB1.out⟩
  · have q0 : ((n' : Int) == (n : Int)) = false := by rw [beq_eq_false_iff_ne]; omega
    have q1 : ¬ (n' : Int) = (n : Int) := by omega
    have HF : Hid (thingsB (ds, z) xs = false) := Lib.hid (by simp [thingsB, e1, HL.out, HL'.out, hnn])
    clear e1
    go_wp2
    go_ret
    exact ⟨ret_bool HF.out.symm, HB1.out⟩

set_option maxHeartbeats 2000000 in
theorem s_ChoiceAnswer (A : Option Addr) (n c : Nat) (z : Int) (ds : List Int) (A' : Option Addr) (n' c' : Nat) (xs : List Int) (t : Int) (w : World) (h : Rd w w.heap.size 1 A n (cI ds)) (hn : n ≤ 1048576) (h' : Rd w w.heap.size 1 A' n' (cI xs)) (hn' : n' ≤ 1048576) :
    Calls Try.prog 54 #[.agg #[.slice A n c, .int .i64 z], .slice A' n' c', .int .i64 t] w fun e w' => ∃ g, e = .returned (.tuple #[g, .bool (R_ChoiceAnswer_1 (ds, z) xs t)]) ∧ OwIntS w' w.heap.size w'.heap.size g (R_ChoiceAnswer_0 (ds, z) xs t) ∧ Below w.heap.size w w' := by
  have hl := h.len
  have hl' := h'.len
  have HB0 : Hid (Below w.heap.size w (w.alloc (.cells #[.slice A n c, .int .i64 z] 53))) := Lib.hid ((Below.refl _ _).alloc (Nat.le_refl _) _)
  have HX0 : Hid (Bx (w.alloc (.cells #[.slice A n c, .int .i64 z] 53)) w.heap.size #[.slice A n c, .int .i64 z] 53) := Lib.hid (Bx.new _ _ _)
  have HD := Lib.hid h
  have HR := Lib.hid h'
  have HL := Lib.hid hl
  have HL' := Lib.hid hl'
  clear h hl h' hl'
  go_enter Try.func54, Try.ntmps54
  go_wp2_with fail
  refine (s_l11Things A n c z ds A' n' c' xs _ ((HD.out.below HB0.out).more HB0.out.size) hn ((HR.out.below HB0.out).more HB0.out.size) hn').mono ?_
  rintro e w1 ⟨rfl, hb⟩
  have HX1 := Lib.hid (HX0.out.below hb HX0.out.lt)
  have HB1 : Hid (Below w.heap.size w w1) := Lib.hid (HB0.out.trans (hb.mono HB0.out.size))
  clear hb
  cases e1 : thingsB (ds, z) xs
  · have HF : Hid (R_ChoiceAnswer_1 (ds, z) xs t = false) := Lib.hid (by simp [R_ChoiceAnswer_1, e1])
    have HE : Hid (R_ChoiceAnswer_0 (ds, z) xs t = []) := Lib.hid (by simp [R_ChoiceAnswer_0, HF.out])
    go_wp2
    go_ret2
    refine ⟨_, ret_vb HF.out.symm, ?_, HB1.out⟩
    rw [HE.out]; exact OwIntS.nil_ _ _ _
  have hd := e1
  simp only [thingsB, dealB, Bool.and_eq_true, inB_iff, decide_eq_true_eq] at hd
  obtain ⟨⟨⟨n2, n8⟩, hds, z0, z1⟩, hll, hxs⟩ := hd
  rw [HL.out, HL'.out] at hll
  rw [HL.out] at n2 n8 z1
  subst hll
  have im : IntKind.i64.wrap ((n' : Int) - 1) = (n' : Int) - 1 := IntWalk.i64_in _ (by omega)
  go_wp2_with fail
  refine (s_l6In _ _ _ _).mono ?_
  rintro e w' ⟨rfl, rfl⟩
  cases e2 : inB t 0 ((n' : Int) - 1)
  · have HF : Hid (R_ChoiceAnswer_1 (ds, z) xs t = false) := Lib.hid (by simp [R_ChoiceAnswer_1, HL.out, e2])
    have HE : Hid (R_ChoiceAnswer_0 (ds, z) xs t = []) := Lib.hid (by simp [R_ChoiceAnswer_0, HF.out])
    go_wp2
    go_ret2
    refine ⟨_, ret_vb HF.out.symm, ?_, HB1.out⟩
    rw [HE.out]; exact OwIntS.nil_ _ _ _
  have HF : Hid (R_ChoiceAnswer_1 (ds, z) xs t = true) := Lib.hid (by simp [R_ChoiceAnswer_1, e1, HL.out, e2])
  have HE : Hid (R_ChoiceAnswer_0 (ds, z) xs t = mapK (fun x y => x + y) xs (atM ds t n') n') := Lib.hid (by rw [R_ChoiceAnswer_0, if_pos HF.out, HL.out])
  obtain ⟨t0, t1⟩ := inB_iff.1 e2
  have b0 : w1.cell? ⟨w.heap.size, 0, none⟩ = some (.slice A n' c) := HX1.out.cell 0
  have HNd := Lib.hid (nums_of_B hds)
  have HNx := Lib.hid (nums_of_B hxs)
  clear e1 e2 hds hxs
  go_wp2_with fail
  refine (s_l11Answer A A' n' c n' c' ds xs t w1 ((HD.out.below HB1.out).more HB1.out.size) ((HR.out.below HB1.out).more HB1.out.size) HNd.out HNx.out (by omega) rfl t0 (by omega)).mono ?_
  rintro e w2 ⟨A3, c3, rfl, ho, hb⟩
  have HO : Hid (OwIntS w2 w.heap.size w2.heap.size (.slice A3 n' c3) (R_ChoiceAnswer_0 (ds, z) xs t)) := Lib.hid (by rw [HE.out]; exact ho.widen HB1.out.size (Nat.le_refl _))
  have HB2 : Hid (Below w.heap.size w w2) := Lib.hid (HB1.out.trans (hb.mono HB1.out.size))
  clear ho hb
  go_wp2
  go_ret2
  exact ⟨_, ret_vb HF.out.symm, HO.out, HB2.out⟩
theorem X_s_ChoiceAnswer (v v' : Value) (d : List Int × Int) (xs : List Int) (t : Int) (w : World) (h : RdDeal w w.heap.size v d) (h' : RdIntS w w.heap.size v' xs) (hs : szDeal d ≤ 1048576) (hs' : szIntS xs ≤ 1048576) :
    Calls Try.prog 54 #[v, v', .int .i64 t] w fun e w' => ∃ g, e = .returned (.tuple #[g, .bool (R_ChoiceAnswer_1 d xs t)]) ∧ OwIntS w' w.heap.size w'.heap.size g (R_ChoiceAnswer_0 d xs t) ∧ Below w.heap.size w w' := by
  obtain ⟨A, n, c, rfl, B, k, q, hv, _, hr⟩ := h
  injection hv with h1 h2 h3
  subst h1 h2 h3
  obtain ⟨A', n', c', rfl, _, r⟩ := h'
  have hl := hr.len
  exact s_ChoiceAnswer A n c d.2 d.1 A' n' c' xs t w hr (by unfold szDeal szIntS at hs; omega) r (by have := r.len; unfold szIntS at hs'; omega)
end Go.Proofs.Ythfkjaofgpgoeaa
