import Derived.Test.YtpejigfndkdhcaaWalk5d
import Derived.Deep.RegionHeld3
import Derived.Deep.RegionLaw
import Derived.Test.YtpejigfndkdhcaaWalk3c
import Derived.Test.YtpejigfndkdhcaaMath14
import Derived.Test.YtpejigfndkdhcaaAppend3
import Derived.Test.YtpejigfndkdhcaaWalk2d
import Derived.Test.YtpejigfndkdhcaaWalk3a
import Derived.Test.YtpejigfndkdhcaaMarked
import Derived.Test.YtpejigfndkdhcaaWalk2a
import Derived.Test.YtpejigfndkdhcaaWalk2b
import Derived.Test.YtpejigfndkdhcaaDeal
import Derived.BigQuiet
import Derived.Laws.EntriesVeiled
import Derived.Test.YtpejigfndkdhcaaDraw14
import Derived.Test.YtpejigfndkdhcaaDraw16
import Derived.Test.YtpejigfndkdhcaaDraw2b
import Derived.Test.YtpejigfndkdhcaaLaw
/- Chapter 4: SharesScale in the model. -/
namespace Go.Proofs.Ytpejigfndkdhcaa
open Go.RowKit
set_option maxRecDepth 100000

def sclP (ps : List (Int × Int)) (b : Int) (k : Nat) : List (Int × Int) := (List.range k).map fun i => (px ps i, py ps i * b % 113)
theorem sclP_succ (ps : List (Int × Int)) (b : Int) (k : Nat) : sclP ps b (k + 1) = sclP ps b k ++ [(px ps k, py ps k * b % 113)] := by simp [sclP, List.range_succ]
theorem sclP_length (ps : List (Int × Int)) (b : Int) (k : Nat) : (sclP ps b k).length = k := by simp [sclP]
def R_SharesScale_1 (d : List (Int × Int)) (b : Int) : Bool := numK d d.length && numB b
def R_SharesScale_0 (d : List (Int × Int)) (b : Int) : List (Int × Int) := if R_SharesScale_1 d b = true then sclP d b d.length else []
theorem cP_append (ps qs : List (Int × Int)) : cP (ps ++ qs) = cP ps ++ cP qs := by simp [cP]
theorem lit_pt_at {w : World} {B e : Nat} {u v : Value} (h : w.heap[B]? = some (.cells #[u, v] e (0, 0))) : Rd w (B + 1) 2 (some ⟨B, 0, none⟩) 1 [u, v] :=
  ⟨rfl, fun _ => ⟨_, rfl, Nat.lt_succ_self _, fun j x hx => by
    have hj : j < 2 := by have := (List.getElem?_eq_some_iff.1 hx).1; simpa using this
    rw [show (⟨B, 0, none⟩ : Addr).add j = ⟨B, 0 + j, none⟩ from addr_add B 0 j, Nat.zero_add, cell_of_row w B j _ _ _ h]
    simpa using hx⟩⟩
section
variable {ops : Array Oper} {o : Oper} {a : Act} {K : Act → World → Prop} {Q : Exit → Act → World → Prop} {E : Prop} {W wr w : World}
end

end Go.Proofs.Ytpejigfndkdhcaa

/- Chapter 10: sums in the model; sums party by party. -/
namespace Go.Proofs.Ytpejigfndkdhcaa
open Go.RowKit
set_option maxRecDepth 100000

theorem lit_int0 (w : World) (s : Int) : (w.alloc (.cells #[.int .i64 s] 3)).ownsRow w.heap.size 3 1 (.slice (some ⟨w.heap.size, 0, none⟩) 1 1) 1 [.int .i64 s] :=
  ⟨rfl, .inr ⟨w.heap.size, 1, _, rfl, Nat.le_refl _, heap_alloc_new _ _, Nat.le_refl _, by unfold maxLen; omega, rfl, rfl⟩⟩
theorem own_fin {w1 : World} {B n : Nat} {v : Value} {ys : List Int} (h : w1.ownsRow B 3 1 v n (cI ys)) (hs : n ≤ 1048576) : ∃ A c, v = .slice A n c ∧ OwIntS w1 B w1.heap.size (.slice A n c) ys := by
  obtain ⟨A, c, rfl, ho⟩ := Ow.of_own h
  exact ⟨A, c, rfl, by have := ho.len; omega, A, _, c, rfl, ho⟩

set_option maxHeartbeats 1000000 in
theorem s_l10Sum (A : Option Addr) (n c : Nat) (zs : List Int) (w : World) (h : Rd w w.heap.size 1 A n (cI zs)) (hN : Nums zs) (hn : n ≤ 1048576) :
    Calls Try.prog 58 #[.slice A n c] w fun e w' => e = .returned (.int .i64 (sumI zs)) ∧ w = w' := by
  have hlen : Hid (zs.length = n) := Lib.hid h.len
  have H := Lib.hid h
  have HN := Lib.hid hN
  clear h hN
  go_enter Try.func58, Try.ntmps58
  go_wp2
  go_loop [3, 4] (fun o i => ∃ (k : Nat) (M : Int), k ≤ n ∧ i = .int .i64 k ∧ o = .int .i64 M ∧ 0 ≤ M ∧ M ≤ 112 ∧ Hid (M = sumK zs k)) (fun _ i => n - (intOf i).toNat)
  case atStart => exact ⟨0, 0, Nat.zero_le _, rfl, rfl, by omega, by omega, Lib.hid rfl⟩
  case round =>
    obtain ⟨k, M, hk, rfl, rfl, M0, M1, HM⟩ := hrel
    by_cases hlt : k < n
    · obtain ⟨a, z, rfl, hab, hck, HZ⟩ := H.out.intAt hlt
      have z0 : 0 ≤ z := by rw [HZ.out]; exact (HN.out k).1
      have z1 : z ≤ 112 := by rw [HZ.out]; exact (HN.out k).2
      have HE : Hid ((M + z) % 113 = sumK zs (k + 1)) := Lib.hid (by rw [sumK, ← HZ.out, HM.out])
      clear HM
      go_wp2
      go_round
      case rel => exact ⟨k + 1, (M + z) % 113, by omega, by go_num, rfl, by omega, by omega, HE⟩
      case measure => simp [intOf] <;> omega
    · have hkn : k = n := by omega
      have HF : Hid (M = sumI zs) := Lib.hid (by rw [HM.out, sumI, hlen.out, hkn])
      clear HM hkn
      go_wp2
      go_ret
      exact ⟨ret_i HF.out, rfl⟩

set_option maxHeartbeats 1000000 in
theorem s_l10Split (a : Int) (A : Option Addr) (n c : Nat) (zs : List Int) (w : World) (h : Rd w w.heap.size 1 A n (cI zs)) (hN : Nums zs) (hn : n ≤ 1000) (a0 : 0 ≤ a) (a1 : a ≤ 112) :
    Calls Try.prog 77 #[.int .i64 a, .slice A n c] w fun e w' => ∃ A' c', e = .returned (.slice A' (1 + n) c') ∧ OwIntS w' w.heap.size w'.heap.size (.slice A' (1 + n) c') (splitL a zs) ∧ Below w.heap.size w w' := by
  have sb := sumI_bd zs
  obtain ⟨S, hS⟩ : ∃ S, Hid (sumI zs = S) := ⟨_, Lib.hid rfl⟩
  rw [hS.out] at sb
  have HE : Hid (splitL a zs = ((a - S) % 113) :: zs) := Lib.hid (by rw [splitL, hS.out])
  have HLIT := Lib.hid (lit_int0 w ((a - S) % 113))
  have HRD : Hid (Rd (w.alloc (.cells #[.int .i64 ((a - S) % 113)] 3)) w.heap.size 1 A n (cI zs)) := Lib.hid (h.below ((Below.refl _ _).alloc (Nat.le_refl _) _))
  have H := Lib.hid h
  have HN := Lib.hid hN
  clear h hN
  go_enter Try.func77, Try.ntmps77
  go_wp2_with fail
  refine (s_l10Sum _ _ _ _ _ H.out HN.out (by omega)).mono ?_
  rintro e w' ⟨rfl, rfl⟩
  rw [hS.out]
  go_wp2_with fail
  refine (s_l1Sub _ _ _ a0 a1 sb.1 sb.2).mono ?_
  rintro e w' ⟨rfl, rfl⟩
  go_wp2_with (at_builtin
               refine wpList_append_rd rfl (.tmp 9) (.tmp 10) _ rfl w.heap.size 3 _ 1 8 Try.underlying22 info_int rfl (by decide) (.slice (some ⟨w.heap.size, 0, none⟩) 1 1) 1 [.int .i64 ((a - S) % 113)] rfl HLIT.out _ A n c (cI zs) rfl HRD.out (cI_one _) (by unfold maxLen; omega) (by omega) (by simp) ?_
               intro v5 w5 hown hgr hat
               have HO5 : Hid (∃ A c, v5 = .slice A (1 + n) c ∧ OwIntS w5 w.heap.size w5.heap.size (.slice A (1 + n) c) (splitL a zs)) := Lib.hid (by rw [HE.out]; exact own_fin (ys := ((a - S) % 113) :: zs) hown (by omega))
               have HB5 : Hid (Below w.heap.size w w5) := Lib.hid (below_grown ((Below.refl _ _).alloc (Nat.le_refl _) _) hgr (fun g e => by simp [Value.ownBlock] at e; omega) (by simp))
               clear hown hgr hat)
  obtain ⟨A5, c5, rfl, ho5⟩ := HO5.out
  go_ret
  exact ⟨_, _, rfl, ho5, HB5.out⟩

section
variable {ops : Array Oper} {o : Oper} {a : Act} {K : Act → World → Prop} {Q : Exit → Act → World → Prop} {E : Prop} {W wr w : World}
/-- append(out, number), in a region that draws -/
theorem step_int (hgd : o.guard = none) (s x : Operand)
    (ho : o.op = .call { callee := .builtin .append, args := #[s, x], argTypes := #[22, 22] })
    {g k co : Nat} {A : Option Addr} {ps : List Int} {p : Int} (hs : a.eval s = .slice A k co) (hx : a.eval x = .slice (some ⟨g, 0, none⟩) 1 1)
    (HO : wr.ownsRow w.heap.size 3 1 (.slice A k co) k (cI ps)) (HB : Below w.heap.size w wr) (hW : Below wr.heap.size wr W)
    (hl : W.heap[g]? = some (.cells #[.int .i64 p] 3 (0, 0))) (hk : k ≤ 1048576)
    (h : ∀ A3 c3 w3, Hid (w3.ownsRow w.heap.size 3 1 (.slice A3 (k + 1) c3) (k + 1) (cI (ps ++ [p]))) → Hid (Below w.heap.size w w3) → K (a.put o.dst (.slice A3 (k + 1) c3)) w3) :
    if Region.wanted o (yielded ops a.tmps) = true then Oper.wp Try.prog o a W K Q else E := by
  have hz := HB.size
  have hb4 : Below w.heap.size w W := HB.trans (hW.mono hz)
  refine step_append_rd hgd s x _ ho w.heap.size 3 _ 1 8 Try.underlying22 info_int rfl (by decide) (.slice A k co) k (cI ps) hs (ownsRow_below HO hW) _ _ 1 1 (cI [p]) hx (lit_at hl) (cI_one _) (by unfold maxLen; omega) (by omega) hb4.size ?_
  intro v3 w3 hown' hg _
  obtain ⟨A3, c3, rfl, h1⟩ := Ow.of_own hown'
  exact h A3 c3 w3 (Lib.hid (by rw [cI_append]; exact hown')) (Lib.hid (below_grown hb4 hg (own_block HO) hb4.size))
end

set_option maxHeartbeats 2000000 in
theorem s_l10Mix (A A' : Option Addr) (n c n' c' : Nat) (xs ys : List Int) (t : Int) (w : World) (h : Rd w w.heap.size 1 A n (cI xs)) (h' : Rd w w.heap.size 1 A' n' (cI ys)) (hN : Nums xs) (hM : Nums ys) (hn : n ≤ 7) (hnn : n' = n) (t0 : 0 ≤ t) (t1 : t ≤ 112) :
    Calls Try.prog 104 #[.slice A n c, .slice A' n' c', .int .i64 t] w fun e w' => ∃ A3 c3, e = .returned (.slice A3 n c3) ∧ OwIntS w' w.heap.size w'.heap.size (.slice A3 n c3) (mixL xs ys t) ∧ Below w.heap.size w w' := by
  subst hnn
  have hlen : Hid (xs.length = n') := Lib.hid h.len
  have H := Lib.hid h
  have H' := Lib.hid h'
  have HN := Lib.hid hN
  have HM := Lib.hid hM
  clear h h' hN hM
  have H0 : Hid ((w.alloc (.cells #[] 3)).ownsRow w.heap.size 3 1 (.slice (some ⟨w.heap.size, 0, none⟩) 0 0) 0 (cI ((mixL xs ys t).take 0))) := Lib.hid (own_empty w _ 1)
  have HB0 : Hid (Below w.heap.size w (w.alloc (.cells #[] 3))) := Lib.hid ((Below.refl _ _).alloc (Nat.le_refl _) _)
  go_enter Try.func104, Try.ntmps104
  go_wp2
  go_loopw [7, 8] (fun out i wr => ∃ (k : Nat) (Ao : Option Addr) (co : Nat), k ≤ n' ∧ i = .int .i64 k ∧ out = .slice Ao k co ∧ Hid (wr.ownsRow w.heap.size 3 1 (.slice Ao k co) k (cI ((mixL xs ys t).take k))) ∧ Hid (Below w.heap.size w wr)) (fun _ i _ => n' - (intOf i).toNat)
  case atStart => exact ⟨0, _, 0, Nat.zero_le _, rfl, rfl, H0, HB0⟩
  case round =>
    clear H0 HB0
    obtain ⟨k, Ao, co, hk, rfl, rfl, HO, HB⟩ := hrel
    by_cases hlt : k < n'
    · obtain ⟨a, x, rfl, hab, hx0, HX⟩ := H.out.intAt hlt
      obtain ⟨a', y, rfl, hab', hy0, HY⟩ := H'.out.intAt hlt
      have hx := (HB.out.cell (p := a.add k) (by rw [add_block]; exact hab)).trans hx0
      have hy := (HB.out.cell (p := a'.add k) (by rw [add_block]; exact hab')).trans hy0
      have HX0 := Lib.hid hx0
      have HY0 := Lib.hid hy0
      clear hx0 hy0
      have x0 : 0 ≤ x := by rw [HX.out]; exact (HN.out k).1
      have x1 : x ≤ 112 := by rw [HX.out]; exact (HN.out k).2
      have y0 : 0 ≤ y := by rw [HY.out]; exact (HM.out k).1
      have y1 : y ≤ 112 := by rw [HY.out]; exact (HM.out k).2
      obtain ⟨m0, m1⟩ := mul_bd y t y0 y1 t0 t1
      have HE : Hid ((mixL xs ys t).take (k + 1) = (mixL xs ys t).take k ++ [(x + y * t) % 113]) := Lib.hid (by rw [mixL_take _ _ _ _ (by have := hlen.out; omega), ← HX.out, ← HY.out])
      have i0 : (0 : Int) ≤ (k : Int) := by omega
      have i1 : (k : Int) < (n' : Int) := by omega
      have iw : IntKind.i64.wrap (y * t) = y * t := IntWalk.i64_in _ (by omega)
      have iw2 : IntKind.i64.wrap (x + y * t) = x + y * t := IntWalk.i64_in _ (by omega)
      have im : (x + y * t).tmod 113 = (x + y * t) % 113 := Int.tmod_eq_emod_of_nonneg (by omega)
      clear m0 m1
      go_wp2
      go_region_held3 (fun w' => w'.cell? (a.add k) = some (.int .i64 x) ∧ w'.cell? (a'.add k) = some (.int .i64 y)) (go_keep) (first
        | (refine step_int (w := w) (wr := wr) (p := (x + y * t) % 113) rfl (.tmp 16) (.tmp 29) rfl rfl rfl HO.out HB.out ?hW ?hl (by omega) ?_
           case hW => first | exact (Below.refl _ _).alloc (Nat.le_refl _) _ | exact below_drew ((Below.refl _ _).alloc (Nat.le_refl _) _) | exact (below_drew (Below.refl _ _)).alloc (Nat.le_refl _) _
           case hl => exact heap_alloc_new _ _
           intro A3 c3 w3 h6 h7
           have hx3 := (h7.out.cell (p := a.add k) (by rw [add_block]; exact hab)).trans HX0.out
           have hy3 := (h7.out.cell (p := a'.add k) (by rw [add_block]; exact hab')).trans HY0.out))
      all_goals (
        have HO2 : Hid (w3.ownsRow w.heap.size 3 1 (.slice A3 (k + 1) c3) (k + 1) (cI ((mixL xs ys t).take (k + 1)))) := Lib.hid (by
          rw [HE.out]; exact h6.out)
        clear h6 hx3 hy3 iw im iw2
        go_wp2
        go_roundw
        case rel => exact ⟨k + 1, A3, c3, by omega, by go_num, rfl, HO2, h7⟩
        case measure => simp [intOf] <;> omega)
    · have hkn : k = n' := by omega
      have HOF : Hid (OwIntS wr w.heap.size wr.heap.size (.slice Ao k co) (mixL xs ys t)) := Lib.hid (by
        have := HO.out
        rw [hkn, List.take_of_length_le (by rw [mixL_length, hlen.out]; omega)] at this
        rw [hkn]
        obtain ⟨A, c, he, ho⟩ := own_fin this (by omega)
        rw [he]; exact ho)
      subst hkn
      go_wp2
      go_ret
      exact ⟨_, _, rfl, HOF.out, HB.out⟩
end Go.Proofs.Ytpejigfndkdhcaa

/- Chapter 10 in the program: sums of either kind. Made by tools/gen10/sums.py. -/
namespace Go.Proofs.Ytpejigfndkdhcaa
open Go.RowKit
set_option maxRecDepth 100000

set_option maxHeartbeats 1000000 in
theorem i_manyNumbers (A : Option Addr) (n c : Nat) (zs : List Int) (m : Int) (w : World) (h : Rd w w.heap.size 1 A n (cI zs)) (hn : n ≤ 1048576) :
    Calls Try.prog 72 #[.slice A n c, .int .i64 m] w fun e w' => e = .returned (.bool (decide ((n : Int) = m) && numsB zs)) ∧ w = w' := by
  have H := Lib.hid h
  clear h
  by_cases hm : (n : Int) = m
  · have HF : Hid ((decide ((n : Int) = m) && numsB zs) = numsB zs) := Lib.hid (by simp [hm])
    subst hm
    go_enter Try.func72, Try.ntmps72
    go_wp2_with fail
    refine (i_numbersOk _ _ _ _ _ H.out hn).mono ?_
    rintro e w' ⟨rfl, rfl⟩
    go_wp2
    go_ret
    exact ⟨ret_bool HF.out.symm, rfl⟩
  · have HF : Hid ((decide ((n : Int) = m) && numsB zs) = false) := Lib.hid (by simp [hm])
    have hm2 : ((n : Int) == m) = false := by rw [beq_eq_false_iff_ne]; exact hm
    go_enter Try.func72, Try.ntmps72
    go_wp2
    go_ret
    exact ⟨ret_bool HF.out.symm, rfl⟩

/-- a block of one's own: it is in the world -/
theorem own_wide {w : World} {lo hi n c : Nat} {A : Option Addr} {zs : List Int} (h : Ow w lo hi 3 1 A n c (cI zs)) : Ow w lo w.heap.size 3 1 A n c (cI zs) := by
  refine ⟨h.1, h.2.1, ?_⟩
  rcases h.2.2 with h0 | ⟨g, cs, rfl, a, b, hb, r⟩
  · exact .inl h0
  · exact .inr ⟨g, cs, rfl, a, (Array.getElem?_eq_some_iff.1 hb).1, hb, r⟩

set_option maxHeartbeats 1000000 in
theorem i_totalV (A : Option Addr) (n c : Nat) (zs : List Int) (w : World) (h : Rd w w.heap.size 1 A n (cI zs)) (hN : Nums zs) (hn : n ≤ 1048576) :
    Calls Try.prog 62 #[.slice A n c] w fun e w' => e = .returned (.int .i64 (sumI zs)) ∧ w = w' := by
  have hlen : Hid (zs.length = n) := Lib.hid h.len
  have H := Lib.hid h
  have HN := Lib.hid hN
  clear h hN
  go_enter Try.func62, Try.ntmps62
  go_wp2
  go_loop [3, 8] (fun o i => ∃ (k : Nat) (M : Int), k ≤ n ∧ i = .int .i64 k ∧ o = .int .i64 M ∧ 0 ≤ M ∧ M ≤ 112 ∧ Hid (M = sumK zs k)) (fun _ i => n - (intOf i).toNat)
  case atStart => exact ⟨0, 0, Nat.zero_le _, rfl, rfl, by omega, by omega, Lib.hid rfl⟩
  case round =>
    obtain ⟨k, M, hk, rfl, rfl, M0, M1, HM⟩ := hrel
    by_cases hlt : k < n
    · obtain ⟨a, z, rfl, hab, hck, HZ⟩ := H.out.intAt hlt
      have z0 : 0 ≤ z := by rw [HZ.out]; exact (HN.out k).1
      have z1 : z ≤ 112 := by rw [HZ.out]; exact (HN.out k).2
      have HE : Hid ((M + z) % 113 = sumK zs (k + 1)) := Lib.hid (by rw [sumK, ← HZ.out, HM.out])
      clear HM
      go_wp2_with (first | (go_at_call 107; refine (i_plus _ _ _ M0 M1 z0 z1).mono ?_; rintro e w' ⟨rfl, rfl⟩) | go_in)
      go_round
      case rel => exact ⟨k + 1, (M + z) % 113, by omega, by go_num, rfl, by omega, by omega, HE⟩
      case measure => simp [intOf] <;> omega
    · have hkn : k = n := by omega
      have HF : Hid (M = sumI zs) := Lib.hid (by rw [HM.out, sumI, hlen.out, hkn])
      clear HM hkn
      go_wp2
      go_ret
      exact ⟨ret_i HF.out, rfl⟩

set_option maxHeartbeats 1000000 in
theorem i_sumsToV (a : Int) (A : Option Addr) (n c : Nat) (zs : List Int) (w : World) (h : Rd w w.heap.size 1 A n (cI zs)) (hN : Nums zs) (hn : n ≤ 1000) (a0 : 0 ≤ a) (a1 : a ≤ 112) :
    Calls Try.prog 73 #[.int .i64 a, .slice A n c] w fun e w' => ∃ A' c', e = .returned (.slice A' (1 + n) c') ∧ OwIntS w' w.heap.size w'.heap.size (.slice A' (1 + n) c') (splitL a zs) ∧ Below w.heap.size w w' := by
  have sb := sumI_bd zs
  obtain ⟨S, hS⟩ : ∃ S, Hid (sumI zs = S) := ⟨_, Lib.hid rfl⟩
  rw [hS.out] at sb
  have HE : Hid (splitL a zs = ((a - S) % 113) :: zs) := Lib.hid (by rw [splitL, hS.out])
  have HLIT := Lib.hid (lit_int0 w ((a - S) % 113))
  have HRD : Hid (Rd (w.alloc (.cells #[.int .i64 ((a - S) % 113)] 3)) w.heap.size 1 A n (cI zs)) := Lib.hid (h.below ((Below.refl _ _).alloc (Nat.le_refl _) _))
  have H := Lib.hid h
  have HN := Lib.hid hN
  clear h hN
  go_enter Try.func73, Try.ntmps73
  go_wp2_with fail
  refine (i_totalV _ _ _ _ _ H.out HN.out (by omega)).mono ?_
  rintro e w' ⟨rfl, rfl⟩
  rw [hS.out]
  go_wp2_with fail
  refine (i_minus _ _ _ a0 a1 sb.1 sb.2).mono ?_
  rintro e w' ⟨rfl, rfl⟩
  go_wp2_with (at_builtin
               refine wpList_append_rd2 rfl (.tmp 11) (.tmp 12) 84 22 3 rfl w.heap.size 3 _ 1 8 Try.underlying84 Try.underlying22 info_int rfl (by decide) (.slice (some ⟨w.heap.size, 0, none⟩) 1 1) 1 [.int .i64 ((a - S) % 113)] rfl HLIT.out _ A n c (cI zs) rfl HRD.out (cI_one _) (by unfold maxLen; omega) (by omega) (by simp) ?_
               intro v5 w5 hown hgr hat
               have HO5 : Hid (∃ A c, v5 = .slice A (1 + n) c ∧ OwIntS w5 w.heap.size w5.heap.size (.slice A (1 + n) c) (splitL a zs)) := Lib.hid (by rw [HE.out]; exact own_fin (ys := ((a - S) % 113) :: zs) hown (by omega))
               have HB5 : Hid (Below w.heap.size w w5) := Lib.hid (below_grown ((Below.refl _ _).alloc (Nat.le_refl _) _) hgr (fun g e => by simp [Value.ownBlock] at e; omega) (by simp))
               clear hown hgr hat)
  obtain ⟨A5, c5, rfl, ho5⟩ := HO5.out
  go_ret
  exact ⟨_, _, rfl, ho5, HB5.out⟩

set_option maxHeartbeats 2000000 in
theorem i_plusV (A A' : Option Addr) (n c n' c' : Nat) (xs ys : List Int) (w : World) (h : Rd w w.heap.size 1 A n (cI xs)) (h' : Rd w w.heap.size 1 A' n' (cI ys)) (hN : Nums xs) (hM : Nums ys) (hn : n ≤ 7) (hnn : n' = n) :
    Calls Try.prog 105 #[.slice A n c, .slice A' n' c'] w fun e w' => ∃ A3 c3, e = .returned (.slice A3 n c3) ∧ OwIntS w' w.heap.size w'.heap.size (.slice A3 n c3) (mixL xs ys 1) ∧ Below w.heap.size w w' := by
  subst hnn
  have hmk := fun W => run_make1 (P := Try.prog) Try.underlying84 info_int rfl n' (by omega) (by omega) W
  have hlen : Hid (xs.length = n') := Lib.hid h.len
  have H := Lib.hid h
  have H' := Lib.hid h'
  have HN := Lib.hid hN
  have HM := Lib.hid hM
  clear h h' hN hM
  go_enter Try.func105, Try.ntmps105
  go_wp2
  go_loopw [13] (fun i wr => ∃ k : Nat, k ≤ n' ∧ i = .int .i64 k ∧ Hid (Ow wr w.heap.size (w.heap.size + 1) 3 1 (some ⟨w.heap.size, 0, none⟩) n' n' (cI ((mixL xs ys 1).take k ++ List.replicate (n' - k) 0))) ∧ Hid (Below w.heap.size w wr)) (fun i _ => n' - (intOf i).toNat)
  case atStart => exact ⟨0, Nat.zero_le _, rfl, Lib.hid (by rw [List.take_zero, List.nil_append, Nat.sub_zero, ← cI_zeros]; exact Ow.zeros _ _ _ _), Lib.hid ((Below.refl _ _).alloc (Nat.le_refl _) _)⟩
  case round =>
    obtain ⟨k, hk, rfl, HO, HB⟩ := hrel
    by_cases hlt : k < n'
    · obtain ⟨a, x, rfl, hab, hx0, HX⟩ := H.out.intAt hlt
      obtain ⟨a', y, rfl, hab', hy0, HY⟩ := H'.out.intAt hlt
      have hx := (HB.out.cell (p := a.add k) (by rw [add_block]; exact hab)).trans hx0
      have hy := (HB.out.cell (p := a'.add k) (by rw [add_block]; exact hab')).trans hy0
      have x0 : 0 ≤ x := by rw [HX.out]; exact (HN.out k).1
      have x1 : x ≤ 112 := by rw [HX.out]; exact (HN.out k).2
      have y0 : 0 ≤ y := by rw [HY.out]; exact (HM.out k).1
      have y1 : y ≤ 112 := by rw [HY.out]; exact (HM.out k).2
      have hd : wr.cell? ⟨w.heap.size, k, none⟩ = some (.int .i64 (((mixL xs ys 1).take k ++ List.replicate (n' - k) 0).getD k 0)) := HO.out.cellAt (cI_get _ _ (by simp [mixL_length]; have := hlen.out; omega))
      have hf := HO.out.free (by omega) k
      have HO2 := Lib.hid (HO.out.set k (.int .i64 ((mixL xs ys 1).getD k 0)))
      rw [cI_set, copy_step (by rw [mixL_length, hlen.out]) hlt, mixL_get _ _ _ _ (by have := hlen.out; omega), ← HX.out, ← HY.out, Int.mul_one] at HO2
      have HB2 := Lib.hid (HB.out.setCell (p := ⟨w.heap.size, k, none⟩) (Nat.le_refl _) (.int .i64 ((x + y) % 113)))
      clear hx0 hy0 HO HB
      go_wp2_with (first | (go_at_call 107; refine (i_plus _ _ _ x0 x1 y0 y1).mono ?_; rintro e w' ⟨rfl, rfl⟩) | go_in)
      go_roundw
      case rel => exact ⟨k + 1, by omega, by go_num, HO2, HB2⟩
      case measure => simp [intOf] <;> omega
    · have hkn : k = n' := by omega
      have HO2 : Hid (OwIntS wr w.heap.size wr.heap.size (.slice (some ⟨w.heap.size, 0, none⟩) n' n') (mixL xs ys 1)) := Lib.hid (by
        have := HO.out
        rw [hkn, List.take_of_length_le (by rw [mixL_length, hlen.out]; omega), Nat.sub_self, List.replicate_zero, List.append_nil] at this
        exact ⟨by rw [mixL_length, hlen.out]; omega, _, _, _, rfl, own_wide this⟩)
      clear HO hkn
      go_wp2
      go_ret
      exact ⟨_, _, rfl, HO2.out, HB.out⟩

set_option maxHeartbeats 2000000 in
theorem i_timesV (A : Option Addr) (n c : Nat) (xs : List Int) (t : Int) (w : World) (h : Rd w w.heap.size 1 A n (cI xs)) (hN : Nums xs) (hn : n ≤ 7) (t0 : 0 ≤ t) (t1 : t ≤ 112) :
    Calls Try.prog 108 #[.slice A n c, .int .i64 t] w fun e w' => ∃ A3 c3, e = .returned (.slice A3 n c3) ∧ OwIntS w' w.heap.size w'.heap.size (.slice A3 n c3) (scaL xs t) ∧ Below w.heap.size w w' := by
  have hmk := fun W => run_make1 (P := Try.prog) Try.underlying84 info_int rfl n (by omega) (by omega) W
  have hlen : Hid (xs.length = n) := Lib.hid h.len
  have H := Lib.hid h
  have HN := Lib.hid hN
  clear h hN
  go_enter Try.func108, Try.ntmps108
  go_wp2
  go_loopw [13] (fun i wr => ∃ k : Nat, k ≤ n ∧ i = .int .i64 k ∧ Hid (Ow wr w.heap.size (w.heap.size + 1) 3 1 (some ⟨w.heap.size, 0, none⟩) n n (cI ((scaL xs t).take k ++ List.replicate (n - k) 0))) ∧ Hid (Below w.heap.size w wr)) (fun i _ => n - (intOf i).toNat)
  case atStart => exact ⟨0, Nat.zero_le _, rfl, Lib.hid (by rw [List.take_zero, List.nil_append, Nat.sub_zero, ← cI_zeros]; exact Ow.zeros _ _ _ _), Lib.hid ((Below.refl _ _).alloc (Nat.le_refl _) _)⟩
  case round =>
    obtain ⟨k, hk, rfl, HO, HB⟩ := hrel
    by_cases hlt : k < n
    · obtain ⟨a, x, rfl, hab, hx0, HX⟩ := H.out.intAt hlt
      have hx := (HB.out.cell (p := a.add k) (by rw [add_block]; exact hab)).trans hx0
      have x0 : 0 ≤ x := by rw [HX.out]; exact (HN.out k).1
      have x1 : x ≤ 112 := by rw [HX.out]; exact (HN.out k).2
      have hd : wr.cell? ⟨w.heap.size, k, none⟩ = some (.int .i64 (((scaL xs t).take k ++ List.replicate (n - k) 0).getD k 0)) := HO.out.cellAt (cI_get _ _ (by simp [scaL_length]; have := hlen.out; omega))
      have hf := HO.out.free (by omega) k
      have HO2 := Lib.hid (HO.out.set k (.int .i64 ((scaL xs t).getD k 0)))
      rw [cI_set, copy_step (by rw [scaL_length, hlen.out]) hlt, scaL_get _ _ _ (by have := hlen.out; omega), ← HX.out] at HO2
      have HB2 := Lib.hid (HB.out.setCell (p := ⟨w.heap.size, k, none⟩) (Nat.le_refl _) (.int .i64 (x * t % 113)))
      clear hx0 HO HB
      go_wp2_with (first | (go_at_call 66; refine (i_times _ _ _ x0 x1 t0 t1).mono ?_; rintro e w' ⟨rfl, rfl⟩) | go_in)
      go_roundw
      case rel => exact ⟨k + 1, by omega, by go_num, HO2, HB2⟩
      case measure => simp [intOf] <;> omega
    · have hkn : k = n := by omega
      have HO2 : Hid (OwIntS wr w.heap.size wr.heap.size (.slice (some ⟨w.heap.size, 0, none⟩) n n) (scaL xs t)) := Lib.hid (by
        have := HO.out
        rw [hkn, List.take_of_length_le (by rw [scaL_length, hlen.out]; omega), Nat.sub_self, List.replicate_zero, List.append_nil] at this
        exact ⟨by rw [scaL_length, hlen.out]; omega, _, _, _, rfl, own_wide this⟩)
      clear HO hkn
      go_wp2
      go_ret
      exact ⟨_, _, rfl, HO2.out, HB.out⟩

theorem i_values (a b : Value) (w : World) :
    Calls Try.prog 61 #[.agg #[a, b]] w fun e w' => e = .returned a ∧ Below w.heap.size w w' := by
  go_enter Try.func61, Try.ntmps61
  go_wp2
  go_ret
  exact ⟨rfl, (Below.refl _ _).alloc (Nat.le_refl _) _⟩

set_option maxHeartbeats 1000000 in
theorem i_totalM (A : Option Addr) (n c : Nat) (zs : List Int) (w : World) (h : Rd w w.heap.size 1 A n (cI zs)) (hN : Nums zs) (hn : n ≤ 1048576) :
    Calls Try.prog 79 #[.slice A n c] w fun e w' => e = .returned (.int .i64 (sumI zs)) ∧ w = w' := by
  have hlen : Hid (zs.length = n) := Lib.hid h.len
  have H := Lib.hid h
  have HN := Lib.hid hN
  clear h hN
  go_enter Try.func79, Try.ntmps79
  go_wp2
  go_loop [3, 8] (fun o i => ∃ (k : Nat) (M : Int), k ≤ n ∧ i = .int .i64 k ∧ o = .int .i64 M ∧ 0 ≤ M ∧ M ≤ 112 ∧ Hid (M = sumK zs k)) (fun _ i => n - (intOf i).toNat)
  case atStart => exact ⟨0, 0, Nat.zero_le _, rfl, rfl, by omega, by omega, Lib.hid rfl⟩
  case round =>
    obtain ⟨k, M, hk, rfl, rfl, M0, M1, HM⟩ := hrel
    by_cases hlt : k < n
    · obtain ⟨a, z, rfl, hab, hck, HZ⟩ := H.out.intAt hlt
      have z0 : 0 ≤ z := by rw [HZ.out]; exact (HN.out k).1
      have z1 : z ≤ 112 := by rw [HZ.out]; exact (HN.out k).2
      have HE : Hid ((M + z) % 113 = sumK zs (k + 1)) := Lib.hid (by rw [sumK, ← HZ.out, HM.out])
      clear HM
      go_wp2_with (first | (go_at_call 107; refine (i_plus _ _ _ M0 M1 z0 z1).mono ?_; rintro e w' ⟨rfl, rfl⟩) | go_in)
      go_round
      case rel => exact ⟨k + 1, (M + z) % 113, by omega, by go_num, rfl, by omega, by omega, HE⟩
      case measure => simp [intOf] <;> omega
    · have hkn : k = n := by omega
      have HF : Hid (M = sumI zs) := Lib.hid (by rw [HM.out, sumI, hlen.out, hkn])
      clear HM hkn
      go_wp2
      go_ret
      exact ⟨ret_i HF.out, rfl⟩

set_option maxHeartbeats 1000000 in
theorem i_sumsToM (a : Int) (A : Option Addr) (n c : Nat) (zs : List Int) (w : World) (h : Rd w w.heap.size 1 A n (cI zs)) (hN : Nums zs) (hn : n ≤ 1000) (a0 : 0 ≤ a) (a1 : a ≤ 112) :
    Calls Try.prog 74 #[.int .i64 a, .slice A n c] w fun e w' => ∃ A' c', e = .returned (.slice A' (1 + n) c') ∧ OwIntS w' w.heap.size w'.heap.size (.slice A' (1 + n) c') (splitL a zs) ∧ Below w.heap.size w w' := by
  have sb := sumI_bd zs
  obtain ⟨S, hS⟩ : ∃ S, Hid (sumI zs = S) := ⟨_, Lib.hid rfl⟩
  rw [hS.out] at sb
  have HE : Hid (splitL a zs = ((a - S) % 113) :: zs) := Lib.hid (by rw [splitL, hS.out])
  have HLIT := Lib.hid (lit_int0 w ((a - S) % 113))
  have HRD : Hid (Rd (w.alloc (.cells #[.int .i64 ((a - S) % 113)] 3)) w.heap.size 1 A n (cI zs)) := Lib.hid (h.below ((Below.refl _ _).alloc (Nat.le_refl _) _))
  have H := Lib.hid h
  have HN := Lib.hid hN
  clear h hN
  go_enter Try.func74, Try.ntmps74
  go_wp2_with fail
  refine (i_totalM _ _ _ _ _ H.out HN.out (by omega)).mono ?_
  rintro e w' ⟨rfl, rfl⟩
  rw [hS.out]
  go_wp2_with fail
  refine (i_minus _ _ _ a0 a1 sb.1 sb.2).mono ?_
  rintro e w' ⟨rfl, rfl⟩
  go_wp2_with (at_builtin
               refine wpList_append_rd2 rfl (.tmp 11) (.tmp 12) 99 22 3 rfl w.heap.size 3 _ 1 8 Try.underlying99 Try.underlying22 info_int rfl (by decide) (.slice (some ⟨w.heap.size, 0, none⟩) 1 1) 1 [.int .i64 ((a - S) % 113)] rfl HLIT.out _ A n c (cI zs) rfl HRD.out (cI_one _) (by unfold maxLen; omega) (by omega) (by simp) ?_
               intro v5 w5 hown hgr hat
               have HO5 : Hid (∃ A c, v5 = .slice A (1 + n) c ∧ OwIntS w5 w.heap.size w5.heap.size (.slice A (1 + n) c) (splitL a zs)) := Lib.hid (by rw [HE.out]; exact own_fin (ys := ((a - S) % 113) :: zs) hown (by omega))
               have HB5 : Hid (Below w.heap.size w w5) := Lib.hid (below_grown ((Below.refl _ _).alloc (Nat.le_refl _) _) hgr (fun g e => by simp [Value.ownBlock] at e; omega) (by simp))
               clear hown hgr hat)
  obtain ⟨A5, c5, rfl, ho5⟩ := HO5.out
  go_ret
  exact ⟨_, _, rfl, ho5, HB5.out⟩

set_option maxHeartbeats 2000000 in
theorem i_plusM (A A' : Option Addr) (n c n' c' : Nat) (xs ys : List Int) (w : World) (h : Rd w w.heap.size 1 A n (cI xs)) (h' : Rd w w.heap.size 1 A' n' (cI ys)) (hN : Nums xs) (hM : Nums ys) (hn : n ≤ 7) (hnn : n' = n) :
    Calls Try.prog 106 #[.slice A n c, .slice A' n' c'] w fun e w' => ∃ A3 c3, e = .returned (.slice A3 n c3) ∧ OwIntS w' w.heap.size w'.heap.size (.slice A3 n c3) (mixL xs ys 1) ∧ Below w.heap.size w w' := by
  subst hnn
  have hmk := fun W => run_make1 (P := Try.prog) Try.underlying99 info_int rfl n' (by omega) (by omega) W
  have hlen : Hid (xs.length = n') := Lib.hid h.len
  have H := Lib.hid h
  have H' := Lib.hid h'
  have HN := Lib.hid hN
  have HM := Lib.hid hM
  clear h h' hN hM
  go_enter Try.func106, Try.ntmps106
  go_wp2
  go_loopw [13] (fun i wr => ∃ k : Nat, k ≤ n' ∧ i = .int .i64 k ∧ Hid (Ow wr w.heap.size (w.heap.size + 1) 3 1 (some ⟨w.heap.size, 0, none⟩) n' n' (cI ((mixL xs ys 1).take k ++ List.replicate (n' - k) 0))) ∧ Hid (Below w.heap.size w wr)) (fun i _ => n' - (intOf i).toNat)
  case atStart => exact ⟨0, Nat.zero_le _, rfl, Lib.hid (by rw [List.take_zero, List.nil_append, Nat.sub_zero, ← cI_zeros]; exact Ow.zeros _ _ _ _), Lib.hid ((Below.refl _ _).alloc (Nat.le_refl _) _)⟩
  case round =>
    obtain ⟨k, hk, rfl, HO, HB⟩ := hrel
    by_cases hlt : k < n'
    · obtain ⟨a, x, rfl, hab, hx0, HX⟩ := H.out.intAt hlt
      obtain ⟨a', y, rfl, hab', hy0, HY⟩ := H'.out.intAt hlt
      have hx := (HB.out.cell (p := a.add k) (by rw [add_block]; exact hab)).trans hx0
      have hy := (HB.out.cell (p := a'.add k) (by rw [add_block]; exact hab')).trans hy0
      have x0 : 0 ≤ x := by rw [HX.out]; exact (HN.out k).1
      have x1 : x ≤ 112 := by rw [HX.out]; exact (HN.out k).2
      have y0 : 0 ≤ y := by rw [HY.out]; exact (HM.out k).1
      have y1 : y ≤ 112 := by rw [HY.out]; exact (HM.out k).2
      have hd : wr.cell? ⟨w.heap.size, k, none⟩ = some (.int .i64 (((mixL xs ys 1).take k ++ List.replicate (n' - k) 0).getD k 0)) := HO.out.cellAt (cI_get _ _ (by simp [mixL_length]; have := hlen.out; omega))
      have hf := HO.out.free (by omega) k
      have HO2 := Lib.hid (HO.out.set k (.int .i64 ((mixL xs ys 1).getD k 0)))
      rw [cI_set, copy_step (by rw [mixL_length, hlen.out]) hlt, mixL_get _ _ _ _ (by have := hlen.out; omega), ← HX.out, ← HY.out, Int.mul_one] at HO2
      have HB2 := Lib.hid (HB.out.setCell (p := ⟨w.heap.size, k, none⟩) (Nat.le_refl _) (.int .i64 ((x + y) % 113)))
      clear hx0 hy0 HO HB
      go_wp2_with (first | (go_at_call 107; refine (i_plus _ _ _ x0 x1 y0 y1).mono ?_; rintro e w' ⟨rfl, rfl⟩) | go_in)
      go_roundw
      case rel => exact ⟨k + 1, by omega, by go_num, HO2, HB2⟩
      case measure => simp [intOf] <;> omega
    · have hkn : k = n' := by omega
      have HO2 : Hid (OwIntS wr w.heap.size wr.heap.size (.slice (some ⟨w.heap.size, 0, none⟩) n' n') (mixL xs ys 1)) := Lib.hid (by
        have := HO.out
        rw [hkn, List.take_of_length_le (by rw [mixL_length, hlen.out]; omega), Nat.sub_self, List.replicate_zero, List.append_nil] at this
        exact ⟨by rw [mixL_length, hlen.out]; omega, _, _, _, rfl, own_wide this⟩)
      clear HO hkn
      go_wp2
      go_ret
      exact ⟨_, _, rfl, HO2.out, HB.out⟩

set_option maxHeartbeats 2000000 in
theorem i_timesM (A : Option Addr) (n c : Nat) (xs : List Int) (t : Int) (w : World) (h : Rd w w.heap.size 1 A n (cI xs)) (hN : Nums xs) (hn : n ≤ 7) (t0 : 0 ≤ t) (t1 : t ≤ 112) :
    Calls Try.prog 109 #[.slice A n c, .int .i64 t] w fun e w' => ∃ A3 c3, e = .returned (.slice A3 n c3) ∧ OwIntS w' w.heap.size w'.heap.size (.slice A3 n c3) (scaL xs t) ∧ Below w.heap.size w w' := by
  have hmk := fun W => run_make1 (P := Try.prog) Try.underlying99 info_int rfl n (by omega) (by omega) W
  have hlen : Hid (xs.length = n) := Lib.hid h.len
  have H := Lib.hid h
  have HN := Lib.hid hN
  clear h hN
  go_enter Try.func109, Try.ntmps109
  go_wp2
  go_loopw [13] (fun i wr => ∃ k : Nat, k ≤ n ∧ i = .int .i64 k ∧ Hid (Ow wr w.heap.size (w.heap.size + 1) 3 1 (some ⟨w.heap.size, 0, none⟩) n n (cI ((scaL xs t).take k ++ List.replicate (n - k) 0))) ∧ Hid (Below w.heap.size w wr)) (fun i _ => n - (intOf i).toNat)
  case atStart => exact ⟨0, Nat.zero_le _, rfl, Lib.hid (by rw [List.take_zero, List.nil_append, Nat.sub_zero, ← cI_zeros]; exact Ow.zeros _ _ _ _), Lib.hid ((Below.refl _ _).alloc (Nat.le_refl _) _)⟩
  case round =>
    obtain ⟨k, hk, rfl, HO, HB⟩ := hrel
    by_cases hlt : k < n
    · obtain ⟨a, x, rfl, hab, hx0, HX⟩ := H.out.intAt hlt
      have hx := (HB.out.cell (p := a.add k) (by rw [add_block]; exact hab)).trans hx0
      have x0 : 0 ≤ x := by rw [HX.out]; exact (HN.out k).1
      have x1 : x ≤ 112 := by rw [HX.out]; exact (HN.out k).2
      have hd : wr.cell? ⟨w.heap.size, k, none⟩ = some (.int .i64 (((scaL xs t).take k ++ List.replicate (n - k) 0).getD k 0)) := HO.out.cellAt (cI_get _ _ (by simp [scaL_length]; have := hlen.out; omega))
      have hf := HO.out.free (by omega) k
      have HO2 := Lib.hid (HO.out.set k (.int .i64 ((scaL xs t).getD k 0)))
      rw [cI_set, copy_step (by rw [scaL_length, hlen.out]) hlt, scaL_get _ _ _ (by have := hlen.out; omega), ← HX.out] at HO2
      have HB2 := Lib.hid (HB.out.setCell (p := ⟨w.heap.size, k, none⟩) (Nat.le_refl _) (.int .i64 (x * t % 113)))
      clear hx0 HO HB
      go_wp2_with (first | (go_at_call 66; refine (i_times _ _ _ x0 x1 t0 t1).mono ?_; rintro e w' ⟨rfl, rfl⟩) | go_in)
      go_roundw
      case rel => exact ⟨k + 1, by omega, by go_num, HO2, HB2⟩
      case measure => simp [intOf] <;> omega
    · have hkn : k = n := by omega
      have HO2 : Hid (OwIntS wr w.heap.size wr.heap.size (.slice (some ⟨w.heap.size, 0, none⟩) n n) (scaL xs t)) := Lib.hid (by
        have := HO.out
        rw [hkn, List.take_of_length_le (by rw [scaL_length, hlen.out]; omega), Nat.sub_self, List.replicate_zero, List.append_nil] at this
        exact ⟨by rw [scaL_length, hlen.out]; omega, _, _, _, rfl, own_wide this⟩)
      clear HO hkn
      go_wp2
      go_ret
      exact ⟨_, _, rfl, HO2.out, HB.out⟩

theorem i_marks (a b : Value) (w : World) :
    Calls Try.prog 78 #[.agg #[a, b]] w fun e w' => e = .returned b ∧ Below w.heap.size w w' := by
  go_enter Try.func78, Try.ntmps78
  go_wp2
  go_ret
  exact ⟨rfl, (Below.refl _ _).alloc (Nat.le_refl _) _⟩
end Go.Proofs.Ytpejigfndkdhcaa

/- Whether an index lies in a list's length. -/
namespace Go.Proofs.Ytpejigfndkdhcaa
open Go.RowKit
set_option maxRecDepth 100000

set_option maxHeartbeats 1000000 in
theorem i_indexOk (i n : Int) (w : World) :
    Calls Try.prog 84 #[.int .i64 i, .int .i64 n] w fun e w' => e = .returned (.bool (inB i 0 (n - 1))) ∧ w = w' := by
  by_cases h1 : 0 ≤ i
  · by_cases h2 : i < n
    · have HF : Hid (inB i 0 (n - 1) = true) := Lib.hid (inB_t ⟨h1, by omega⟩)
      go_enter Try.func84, Try.ntmps84
      go_wp2
      go_ret
      exact ⟨ret_bool HF.out.symm, rfl⟩
    · have HF : Hid (inB i 0 (n - 1) = false) := Lib.hid (inB_f (by omega))
      go_enter Try.func84, Try.ntmps84
      go_wp2
      go_ret
      exact ⟨ret_bool HF.out.symm, rfl⟩
  · have HF : Hid (inB i 0 (n - 1) = false) := Lib.hid (inB_f (by omega))
    have q : i < 0 := by omega
    go_enter Try.func84, Try.ntmps84
    go_wp2
    go_ret
    exact ⟨ret_bool HF.out.symm, rfl⟩
end Go.Proofs.Ytpejigfndkdhcaa

/- Chapter 2: PolyAt. -/
namespace Go.Proofs.Ytpejigfndkdhcaa
open Go.RowKit

def polyAtB (zs : List Int) (x : Int) : Bool := polyB zs && numB x
def polyAtV (zs : List Int) (x : Int) : Int := if polyAtB zs x = true then atI zs x else 0
theorem ret_ib2 {k : IntKind} {a b : Int} {c d : Bool} (h : a = b) (h2 : c = d) : Ending.returned (.tuple #[.int k a, .bool c]) = .returned (.tuple #[.int k b, .bool d]) := by rw [h, h2]
theorem polyAt_no {zs : List Int} {x : Int} (h : polyAtB zs x = false) : (0 : Int) = polyAtV zs x := by simp [polyAtV, h]
theorem polyAt_yes {zs : List Int} {x : Int} (h : polyAtB zs x = true) : atI zs x = polyAtV zs x := by simp [polyAtV, h]

end Go.Proofs.Ytpejigfndkdhcaa

/- Chapter 11: counts and indexes; DealOk, ChoiceAsk, ChoicePlace, ChoiceTake of both sides. Made by tools/gen11/basics.py. -/
namespace Go.Proofs.Ytpejigfndkdhcaa
open Go.RowKit
set_option maxRecDepth 100000

def placeB (n c a : Int) : Bool := inB n 2 8 && (inB c 0 (n - 1) && inB a 0 (n - 1))
def placeV (n c a : Int) : Int := if placeB n c a = true then (c + a) % n else -1
def dealB (d : List Int × Int) : Bool := inB d.1.length 2 8 && (numsB d.1 && inB d.2 0 (d.1.length - 1))
def askB (d : List Int × Int) (c : Int) : Bool := dealB d && inB c 0 (d.1.length - 1)
def askV (d : List Int × Int) (c : Int) : Int := if askB d c = true then (d.2 - c) % d.1.length else 0
def takeB (xs : List Int) (c m : Int) : Bool := inB xs.length 2 8 && (numsB xs && (inB c 0 (xs.length - 1) && numB m))
def takeV (xs : List Int) (c m : Int) : Int := if takeB xs c m = true then (xs.getD c.toNat 0 - m) % 113 else 0
theorem emod_bd (a : Int) {n : Int} (h : 0 < n) : 0 ≤ a % n ∧ a % n < n := ⟨Int.emod_nonneg _ (by omega), Int.emod_lt_of_pos _ h⟩
theorem minus_mod (p c : Int) {n : Int} : (p + n - c) % n = (p - c) % n := by
  rw [show p + n - c = (p - c) + n by omega, Int.add_emod_right]

set_option maxHeartbeats 1000000 in
theorem i_choiceCount (n : Int) (w : World) :
    Calls Try.prog 91 #[.int .i64 n] w fun e w' => e = .returned (.bool (inB n 2 8)) ∧ w = w' := by
  by_cases h1 : 2 ≤ n
  · by_cases h2 : n ≤ 8
    · have HF := Lib.hid (inB_t (And.intro h1 h2))
      go_enter Try.func91, Try.ntmps91
      go_wp2
      go_ret
      exact ⟨ret_bool HF.out.symm, rfl⟩
    · have HF : Hid (inB n 2 8 = false) := Lib.hid (inB_f (by omega))
      have q : 8 < n := by omega
      go_enter Try.func91, Try.ntmps91
      go_wp2
      go_ret
      exact ⟨ret_bool HF.out.symm, rfl⟩
  · have HF : Hid (inB n 2 8 = false) := Lib.hid (inB_f (by omega))
    have q : n < 2 := by omega
    go_enter Try.func91, Try.ntmps91
    go_wp2
    go_ret
    exact ⟨ret_bool HF.out.symm, rfl⟩
set_option maxHeartbeats 1000000 in
theorem i_indexPlus (i b n : Int) (w : World) (h0 : 0 ≤ i ∧ i < n) (h1 : 0 ≤ b ∧ b < n) (h2 : n ≤ 8) :
    Calls Try.prog 88 #[.int .i64 i, .int .i64 b, .int .i64 n] w fun e w' => e = .returned (.int .i64 ((i + b) % n)) ∧ w = w' := by
  have bd := emod_bd (i + b) (show 0 < n by omega)
  have q0 : (n == 0) = false := by rw [beq_eq_false_iff_ne]; omega
  have q1 : IntKind.i64.wrap (i + b) = i + b := IntWalk.i64_in _ (by omega)
  have q2 : (i + b).tmod n = (i + b) % n := Int.tmod_eq_emod_of_nonneg (by omega)
  have q3 : IntKind.i64.wrap ((i + b) % n) = (i + b) % n := IntWalk.i64_in _ (by omega)
  have q4 : ¬ n = 0 := by omega
  go_enter Try.func88, Try.ntmps88
  go_wp2
  go_ret
  exact ⟨rfl, rfl⟩
set_option maxHeartbeats 1000000 in
theorem i_indexMinus (i b n : Int) (w : World) (h0 : 0 ≤ i ∧ i < n) (h1 : 0 ≤ b ∧ b < n) (h2 : n ≤ 8) :
    Calls Try.prog 94 #[.int .i64 i, .int .i64 b, .int .i64 n] w fun e w' => e = .returned (.int .i64 ((i - b) % n)) ∧ w = w' := by
  have HR := Lib.hid (minus_mod i b (n := n))
  have bd := emod_bd (i + n - b) (show 0 < n by omega)
  have q0 : (n == 0) = false := by rw [beq_eq_false_iff_ne]; omega
  have q1 : IntKind.i64.wrap (i + n) = i + n := IntWalk.i64_in _ (by omega)
  have q5 : IntKind.i64.wrap (i + n - b) = i + n - b := IntWalk.i64_in _ (by omega)
  have q2 : (i + n - b).tmod n = (i + n - b) % n := Int.tmod_eq_emod_of_nonneg (by omega)
  have q3 : IntKind.i64.wrap ((i + n - b) % n) = (i + n - b) % n := IntWalk.i64_in _ (by omega)
  have q4 : ¬ n = 0 := by omega
  go_enter Try.func94, Try.ntmps94
  go_wp2
  go_ret
  exact ⟨ret_i HR.out, rfl⟩

set_option maxHeartbeats 2000000 in
theorem s_DealOk (A : Option Addr) (n c : Nat) (z : Int) (ds : List Int) (w : World) (h : Rd w w.heap.size 1 A n (cI ds)) (hn : n ≤ 1048576) :
    Calls Try.prog 95 #[.agg #[.slice A n c, .int .i64 z]] w fun e w' => e = .returned (.bool (dealB (ds, z))) ∧ Below w.heap.size w w' := by
  have hl := h.len
  have HB0 : Hid (Below w.heap.size w (w.alloc (.cells #[.slice A n c, .int .i64 z] 52))) := Lib.hid ((Below.refl _ _).alloc (Nat.le_refl _) _)
  have H : Hid (Rd (w.alloc (.cells #[.slice A n c, .int .i64 z] 52)) (w.alloc (.cells #[.slice A n c, .int .i64 z] 52)).heap.size 1 A n (cI ds)) := Lib.hid ((h.below HB0.out).more HB0.out.size)
  have HL := Lib.hid hl
  clear h hl
  cases e1 : inB (n : Int) 2 8
  · have HF : Hid (dealB (ds, z) = false) := Lib.hid (by simp [dealB, HL.out, e1])
    go_enter Try.func95, Try.ntmps95
    go_wp2_with fail
    refine (s_l6In _ _ _ _).mono ?_
    rintro e w' ⟨rfl, rfl⟩
    rw [e1]
    go_wp2
    go_ret
    exact ⟨ret_bool HF.out.symm, HB0.out⟩
  obtain ⟨n2, n8⟩ := inB_iff.1 e1
  have im : IntKind.i64.wrap ((n : Int) - 1) = (n : Int) - 1 := IntWalk.i64_in _ (by omega)
  cases e2 : numsB ds
  · have HF : Hid (dealB (ds, z) = false) := Lib.hid (by simp [dealB, e2])
    go_enter Try.func95, Try.ntmps95
    go_wp2_with fail
    refine (s_l6In _ _ _ _).mono ?_
    rintro e w' ⟨rfl, rfl⟩
    rw [e1]
    go_wp2_with fail
    refine (s_l1In _ _ _ _ _ H.out hn).mono ?_
    rintro e w' ⟨rfl, rfl⟩
    rw [e2]
    go_wp2
    go_ret
    exact ⟨ret_bool HF.out.symm, HB0.out⟩
  have HF : Hid (dealB (ds, z) = inB z 0 ((n : Int) - 1)) := Lib.hid (by simp [dealB, HL.out, e1, e2])
  go_enter Try.func95, Try.ntmps95
  go_wp2_with fail
  refine (s_l6In _ _ _ _).mono ?_
  rintro e w' ⟨rfl, rfl⟩
  rw [e1]
  go_wp2_with fail
  refine (s_l1In _ _ _ _ _ H.out hn).mono ?_
  rintro e w' ⟨rfl, rfl⟩
  rw [e2]
  go_wp2_with fail
  refine (s_l6In _ _ _ _).mono ?_
  rintro e w' ⟨rfl, rfl⟩
  go_wp2
  go_ret
  exact ⟨ret_bool HF.out.symm, HB0.out⟩
theorem X_s_DealOk (v : Value) (d : List Int × Int) (w : World) (h : RdDeal w w.heap.size v d) (hs : szDeal d ≤ 1048576) :
    Calls Try.prog 95 #[v] w fun e w' => e = .returned (.bool (dealB d)) ∧ Below w.heap.size w w' := by
  obtain ⟨A, n, c, rfl, B, k, q, hv, _, hr⟩ := h
  injection hv with h1 h2 h3
  subst h1 h2 h3
  have hl := hr.len
  exact s_DealOk A n c d.2 d.1 w hr (by unfold szDeal szIntS at hs; omega)

set_option maxHeartbeats 2000000 in
theorem s_ChoiceAsk (A : Option Addr) (n c : Nat) (z : Int) (ds : List Int) (ch : Int) (w : World) (h : Rd w w.heap.size 1 A n (cI ds)) (hn : n ≤ 1048576) :
    Calls Try.prog 41 #[.agg #[.slice A n c, .int .i64 z], .int .i64 ch] w fun e w' => e = .returned (.tuple #[.int .i64 (askV (ds, z) ch), .bool (askB (ds, z) ch)]) ∧ Below w.heap.size w w' := by
  have hl := h.len
  have HB0 : Hid (Below w.heap.size w (w.alloc (.cells #[.slice A n c, .int .i64 z] 52))) := Lib.hid ((Below.refl _ _).alloc (Nat.le_refl _) _)
  have HX0 : Hid (Bx (w.alloc (.cells #[.slice A n c, .int .i64 z] 52)) w.heap.size #[.slice A n c, .int .i64 z] 52) := Lib.hid (Bx.new _ _ _)
  have H : Hid (Rd (w.alloc (.cells #[.slice A n c, .int .i64 z] 52)) (w.alloc (.cells #[.slice A n c, .int .i64 z] 52)).heap.size 1 A n (cI ds)) := Lib.hid ((h.below HB0.out).more HB0.out.size)
  have HL := Lib.hid hl
  clear h hl
  go_enter Try.func41, Try.ntmps41
  go_wp2_with fail
  refine (s_DealOk A n c z ds _ H.out hn).mono ?_
  rintro e w1 ⟨rfl, hb⟩
  have HX1 := Lib.hid (HX0.out.below hb HX0.out.lt)
  have HB1 : Hid (Below w.heap.size w w1) := Lib.hid (HB0.out.trans (hb.mono HB0.out.size))
  clear hb
  cases e1 : dealB (ds, z)
  · have HF : Hid (askV (ds, z) ch = 0 ∧ askB (ds, z) ch = false) := Lib.hid (by simp [askV, askB, e1])
    go_wp2
    go_ret2
    exact ⟨ret_ib2 HF.out.1.symm HF.out.2.symm, HB1.out⟩
  have hd := e1
  simp only [dealB, Bool.and_eq_true, inB_iff] at hd
  obtain ⟨⟨n2, n8⟩, _, z0, z1⟩ := hd
  rw [HL.out] at n2 n8 z1
  have im : IntKind.i64.wrap ((n : Int) - 1) = (n : Int) - 1 := IntWalk.i64_in _ (by omega)
  go_wp2_with fail
  refine (s_l6In _ _ _ _).mono ?_
  rintro e w' ⟨rfl, rfl⟩
  cases e2 : inB ch 0 ((n : Int) - 1)
  · have HF : Hid (askV (ds, z) ch = 0 ∧ askB (ds, z) ch = false) := Lib.hid (by simp [askV, askB, HL.out, e2])
    go_wp2
    go_ret2
    exact ⟨ret_ib2 HF.out.1.symm HF.out.2.symm, HB1.out⟩
  have HF : Hid (askV (ds, z) ch = (z - ch) % n ∧ askB (ds, z) ch = true) := Lib.hid (by have h1 : askB (ds, z) ch = true := (by simp only [askB, e1, Bool.true_and]; rw [HL.out]; exact e2); exact ⟨by unfold askV; rw [if_pos h1, HL.out], h1⟩)
  obtain ⟨c0, c1⟩ := inB_iff.1 e2
  have b1 : w1.cell? ⟨w.heap.size, 1, none⟩ = some (.int .i64 z) := HX1.out.cell 1
  have bd := emod_bd (z - ch + n) (show 0 < (n : Int) by omega)
  have q1 : IntKind.i64.wrap (z - ch) = z - ch := IntWalk.i64_in _ (by omega)
  have q5 : IntKind.i64.wrap (z - ch + n) = z - ch + n := IntWalk.i64_in _ (by omega)
  have q2 : (z - ch + n).tmod n = (z - ch + n) % n := Int.tmod_eq_emod_of_nonneg (by omega)
  have q3 : IntKind.i64.wrap ((z - ch + n) % n) = (z - ch + n) % n := IntWalk.i64_in _ (by omega)
  have q4 : ¬ (n : Int) = 0 := by omega
  have q6 : ¬ n = 0 := by omega
  clear e1 e2
  go_wp2
  go_ret2
  exact ⟨ret_ib2 HF.out.1.symm HF.out.2.symm, HB1.out⟩
theorem X_s_ChoiceAsk (v : Value) (d : List Int × Int) (ch : Int) (w : World) (h : RdDeal w w.heap.size v d) (hs : szDeal d ≤ 1048576) :
    Calls Try.prog 41 #[v, .int .i64 ch] w fun e w' => e = .returned (.tuple #[.int .i64 (askV d ch), .bool (askB d ch)]) ∧ Below w.heap.size w w' := by
  obtain ⟨A, n, c, rfl, B, k, q, hv, _, hr⟩ := h
  injection hv with h1 h2 h3
  subst h1 h2 h3
  have hl := hr.len
  exact s_ChoiceAsk A n c d.2 d.1 ch w hr (by unfold szDeal szIntS at hs; omega)

set_option maxHeartbeats 2000000 in
theorem i_DealOk (A : Option Addr) (n c : Nat) (z : Int) (ds : List Int) (w : World) (h : Rd w w.heap.size 1 A n (cI ds)) (hn : n ≤ 1048576) :
    Calls Try.prog 83 #[.agg #[.slice A n c, .int .i64 z]] w fun e w' => e = .returned (.bool (dealB (ds, z))) ∧ Below w.heap.size w w' := by
  have hl := h.len
  have HB0 : Hid (Below w.heap.size w (w.alloc (.cells #[.slice A n c, .int .i64 z] 52))) := Lib.hid ((Below.refl _ _).alloc (Nat.le_refl _) _)
  have H : Hid (Rd (w.alloc (.cells #[.slice A n c, .int .i64 z] 52)) (w.alloc (.cells #[.slice A n c, .int .i64 z] 52)).heap.size 1 A n (cI ds)) := Lib.hid ((h.below HB0.out).more HB0.out.size)
  have HL := Lib.hid hl
  clear h hl
  cases e1 : inB (n : Int) 2 8
  · have HF : Hid (dealB (ds, z) = false) := Lib.hid (by simp [dealB, HL.out, e1])
    go_enter Try.func83, Try.ntmps83
    go_wp2_with fail
    refine (i_choiceCount _ _).mono ?_
    rintro e w' ⟨rfl, rfl⟩
    rw [e1]
    go_wp2
    go_ret
    exact ⟨ret_bool HF.out.symm, HB0.out⟩
  obtain ⟨n2, n8⟩ := inB_iff.1 e1
  have im : IntKind.i64.wrap ((n : Int) - 1) = (n : Int) - 1 := IntWalk.i64_in _ (by omega)
  cases e2 : numsB ds
  · have HF : Hid (dealB (ds, z) = false) := Lib.hid (by simp [dealB, e2])
    go_enter Try.func83, Try.ntmps83
    go_wp2_with fail
    refine (i_choiceCount _ _).mono ?_
    rintro e w' ⟨rfl, rfl⟩
    rw [e1]
    go_wp2_with fail
    refine (i_numbersOk _ _ _ _ _ H.out hn).mono ?_
    rintro e w' ⟨rfl, rfl⟩
    rw [e2]
    go_wp2
    go_ret
    exact ⟨ret_bool HF.out.symm, HB0.out⟩
  have HF : Hid (dealB (ds, z) = inB z 0 ((n : Int) - 1)) := Lib.hid (by simp [dealB, HL.out, e1, e2])
  go_enter Try.func83, Try.ntmps83
  go_wp2_with fail
  refine (i_choiceCount _ _).mono ?_
  rintro e w' ⟨rfl, rfl⟩
  rw [e1]
  go_wp2_with fail
  refine (i_numbersOk _ _ _ _ _ H.out hn).mono ?_
  rintro e w' ⟨rfl, rfl⟩
  rw [e2]
  go_wp2_with fail
  refine (i_indexOk _ _ _).mono ?_
  rintro e w' ⟨rfl, rfl⟩
  go_wp2
  go_ret
  exact ⟨ret_bool HF.out.symm, HB0.out⟩
theorem X_i_DealOk (v : Value) (d : List Int × Int) (w : World) (h : RdDeal w w.heap.size v d) (hs : szDeal d ≤ 1048576) :
    Calls Try.prog 83 #[v] w fun e w' => e = .returned (.bool (dealB d)) ∧ Below w.heap.size w w' := by
  obtain ⟨A, n, c, rfl, B, k, q, hv, _, hr⟩ := h
  injection hv with h1 h2 h3
  subst h1 h2 h3
  have hl := hr.len
  exact i_DealOk A n c d.2 d.1 w hr (by unfold szDeal szIntS at hs; omega)

set_option maxHeartbeats 2000000 in
theorem i_ChoiceAsk (A : Option Addr) (n c : Nat) (z : Int) (ds : List Int) (ch : Int) (w : World) (h : Rd w w.heap.size 1 A n (cI ds)) (hn : n ≤ 1048576) :
    Calls Try.prog 40 #[.agg #[.slice A n c, .int .i64 z], .int .i64 ch] w fun e w' => e = .returned (.tuple #[.int .i64 (askV (ds, z) ch), .bool (askB (ds, z) ch)]) ∧ Below w.heap.size w w' := by
  have hl := h.len
  have HB0 : Hid (Below w.heap.size w (w.alloc (.cells #[.slice A n c, .int .i64 z] 52))) := Lib.hid ((Below.refl _ _).alloc (Nat.le_refl _) _)
  have HX0 : Hid (Bx (w.alloc (.cells #[.slice A n c, .int .i64 z] 52)) w.heap.size #[.slice A n c, .int .i64 z] 52) := Lib.hid (Bx.new _ _ _)
  have H : Hid (Rd (w.alloc (.cells #[.slice A n c, .int .i64 z] 52)) (w.alloc (.cells #[.slice A n c, .int .i64 z] 52)).heap.size 1 A n (cI ds)) := Lib.hid ((h.below HB0.out).more HB0.out.size)
  have HL := Lib.hid hl
  clear h hl
  go_enter Try.func40, Try.ntmps40
  go_wp2_with fail
  refine (i_DealOk A n c z ds _ H.out hn).mono ?_
  rintro e w1 ⟨rfl, hb⟩
  have HX1 := Lib.hid (HX0.out.below hb HX0.out.lt)
  have HB1 : Hid (Below w.heap.size w w1) := Lib.hid (HB0.out.trans (hb.mono HB0.out.size))
  clear hb
  cases e1 : dealB (ds, z)
  · have HF : Hid (askV (ds, z) ch = 0 ∧ askB (ds, z) ch = false) := Lib.hid (by simp [askV, askB, e1])
    go_wp2
    go_ret2
    exact ⟨ret_ib2 HF.out.1.symm HF.out.2.symm, HB1.out⟩
  have hd := e1
  simp only [dealB, Bool.and_eq_true, inB_iff] at hd
  obtain ⟨⟨n2, n8⟩, _, z0, z1⟩ := hd
  rw [HL.out] at n2 n8 z1
  have im : IntKind.i64.wrap ((n : Int) - 1) = (n : Int) - 1 := IntWalk.i64_in _ (by omega)
  go_wp2_with fail
  refine (i_indexOk _ _ _).mono ?_
  rintro e w' ⟨rfl, rfl⟩
  cases e2 : inB ch 0 ((n : Int) - 1)
  · have HF : Hid (askV (ds, z) ch = 0 ∧ askB (ds, z) ch = false) := Lib.hid (by simp [askV, askB, HL.out, e2])
    go_wp2
    go_ret2
    exact ⟨ret_ib2 HF.out.1.symm HF.out.2.symm, HB1.out⟩
  have HF : Hid (askV (ds, z) ch = (z - ch) % n ∧ askB (ds, z) ch = true) := Lib.hid (by have h1 : askB (ds, z) ch = true := (by simp only [askB, e1, Bool.true_and]; rw [HL.out]; exact e2); exact ⟨by unfold askV; rw [if_pos h1, HL.out], h1⟩)
  obtain ⟨c0, c1⟩ := inB_iff.1 e2
  have b1 : w1.cell? ⟨w.heap.size, 1, none⟩ = some (.int .i64 z) := HX1.out.cell 1
  clear e1 e2
  go_wp2_with fail
  refine (i_indexMinus _ _ _ _ ⟨z0, by omega⟩ ⟨c0, by omega⟩ n8).mono ?_
  rintro e w' ⟨rfl, rfl⟩
  go_wp2
  go_ret2
  exact ⟨ret_ib2 HF.out.1.symm HF.out.2.symm, HB1.out⟩
theorem X_i_ChoiceAsk (v : Value) (d : List Int × Int) (ch : Int) (w : World) (h : RdDeal w w.heap.size v d) (hs : szDeal d ≤ 1048576) :
    Calls Try.prog 40 #[v, .int .i64 ch] w fun e w' => e = .returned (.tuple #[.int .i64 (askV d ch), .bool (askB d ch)]) ∧ Below w.heap.size w w' := by
  obtain ⟨A, n, c, rfl, B, k, q, hv, _, hr⟩ := h
  injection hv with h1 h2 h3
  subst h1 h2 h3
  have hl := hr.len
  exact i_ChoiceAsk A n c d.2 d.1 ch w hr (by unfold szDeal szIntS at hs; omega)
end Go.Proofs.Ytpejigfndkdhcaa

/- Chapter 11: masks on things: the list of it; ChoiceAnswer of the model. -/
namespace Go.Proofs.Ytpejigfndkdhcaa
open Go.RowKit
set_option maxRecDepth 100000

def mapE (op : Int → Int → Int) (xs : List Int) (ms : Nat → Int) (k : Nat) : Int := op (xs.getD k 0) (ms k) % 113
def mapK (op : Int → Int → Int) (xs : List Int) (ms : Nat → Int) : Nat → List Int
  | 0 => []
  | k + 1 => mapK op xs ms k ++ [mapE op xs ms k]
theorem mapK_length (op : Int → Int → Int) (xs : List Int) (ms : Nat → Int) (k : Nat) : (mapK op xs ms k).length = k := by
  induction k with
  | zero => rfl
  | succ k ih => simp [mapK, ih]
/-- the mask of a thing -/
def atM (ds : List Int) (a : Int) (n : Nat) (k : Nat) : Int := ds.getD (((k : Int) + a) % n).toNat 0
def thingsB (d : List Int × Int) (xs : List Int) : Bool := dealB d && (decide (xs.length = d.1.length) && numsB xs)
def R_ChoiceAnswer_1 (d : List Int × Int) (xs : List Int) (a : Int) : Bool := thingsB d xs && inB a 0 (d.1.length - 1)
def R_ChoiceAnswer_0 (d : List Int × Int) (xs : List Int) (a : Int) : List Int :=
  if R_ChoiceAnswer_1 d xs a = true then mapK (fun x y => x + y) xs (atM d.1 a d.1.length) d.1.length else []

set_option maxHeartbeats 2000000 in
theorem s_l11Answer (A A' : Option Addr) (n c n' c' : Nat) (ds xs : List Int) (t : Int) (w : World) (h : Rd w w.heap.size 1 A n (cI ds)) (h' : Rd w w.heap.size 1 A' n' (cI xs)) (hN : Nums ds) (hM : Nums xs) (hn : n ≤ 8) (hnn : n' = n) (t0 : 0 ≤ t) (t1 : t < n) :
    Calls Try.prog 90 #[.slice A n c, .slice A' n' c', .int .i64 t] w fun e w' => ∃ A3 c3, e = .returned (.slice A3 n c3) ∧ OwIntS w' w.heap.size w'.heap.size (.slice A3 n c3) (mapK (fun x y => x + y) xs (atM ds t n) n) ∧ Below w.heap.size w w' := by
  subst hnn
  have H := Lib.hid h
  have H' := Lib.hid h'
  have HN := Lib.hid hN
  have HM := Lib.hid hM
  clear h h' hN hM
  obtain ⟨L, hL⟩ : ∃ L, mapK (fun x y => x + y) xs (atM ds t n') = L := ⟨_, rfl⟩
  have HL := Lib.hid hL
  rw [hL]
  clear hL
  have H0 : Hid ((w.alloc (.cells #[] 3)).ownsRow w.heap.size 3 1 (.slice (some ⟨w.heap.size, 0, none⟩) 0 0) 0 (cI (L 0))) := Lib.hid (by rw [← HL.out]; exact own_empty w _ 1)
  have HB0 : Hid (Below w.heap.size w (w.alloc (.cells #[] 3))) := Lib.hid ((Below.refl _ _).alloc (Nat.le_refl _) _)
  go_enter Try.func90, Try.ntmps90
  go_wp2
  go_loopw [7, 8] (fun out i wr => ∃ (k : Nat) (Ao : Option Addr) (co : Nat), k ≤ n' ∧ i = .int .i64 k ∧ out = .slice Ao k co ∧ Hid (wr.ownsRow w.heap.size 3 1 (.slice Ao k co) k (cI (L k))) ∧ Hid (Below w.heap.size w wr)) (fun _ i _ => n' - (intOf i).toNat)
  case atStart => exact ⟨0, _, 0, Nat.zero_le _, rfl, rfl, H0, HB0⟩
  case round =>
    clear H0 HB0
    obtain ⟨k, Ao, co, hk, rfl, rfl, HO, HB⟩ := hrel
    by_cases hlt : k < n'
    · obtain ⟨bd0, bd1⟩ := emod_bd ((k : Int) + t) (show 0 < (n' : Int) by omega)
      obtain ⟨j, hj⟩ : ∃ j : Nat, ((k : Int) + t) % n' = (j : Int) := ⟨(((k : Int) + t) % n').toNat, by omega⟩
      have hjn : j < n' := by omega
      obtain ⟨a, x, rfl, hab, hx0, HX⟩ := H'.out.intAt hlt
      obtain ⟨a', y, rfl, hab', hy0, HY⟩ := H.out.intAt hjn
      have hx := (HB.out.cell (p := a.add k) (by rw [add_block]; exact hab)).trans hx0
      have hy := (HB.out.cell (p := a'.add j) (by rw [add_block]; exact hab')).trans hy0
      have HX0 := Lib.hid hx0
      have HY0 := Lib.hid hy0
      clear hx0 hy0
      have x0 : 0 ≤ x := by rw [HX.out]; exact (HM.out k).1
      have x1 : x ≤ 112 := by rw [HX.out]; exact (HM.out k).2
      have y0 : 0 ≤ y := by rw [HY.out]; exact (HN.out j).1
      have y1 : y ≤ 112 := by rw [HY.out]; exact (HN.out j).2
      have HE : Hid (L (k + 1) = L k ++ [(x + y) % 113]) := Lib.hid (by rw [← HL.out, mapK, mapE, atM, hj, Int.toNat_natCast, ← HX.out, ← HY.out])
      have i0 : (0 : Int) ≤ (k : Int) := by omega
      have i1 : (k : Int) < (n' : Int) := by omega
      have j0 : (0 : Int) ≤ (j : Int) := by omega
      have j1 : (j : Int) < (n' : Int) := by omega
      have q0 : ¬ (n' : Int) = 0 := by omega
      have q4 : ¬ n' = 0 := by omega
      have q1 : IntKind.i64.wrap ((k : Int) + t) = (k : Int) + t := IntWalk.i64_in _ (by omega)
      have q2 : ((k : Int) + t).tmod n' = (j : Int) := by rw [Int.tmod_eq_emod_of_nonneg (by omega)]; exact hj
      have q3 : IntKind.i64.wrap (j : Int) = (j : Int) := IntWalk.i64_in _ (by omega)
      have iw2 : IntKind.i64.wrap (x + y) = x + y := IntWalk.i64_in _ (by omega)
      have im : (x + y).tmod 113 = (x + y) % 113 := Int.tmod_eq_emod_of_nonneg (by omega)
      clear hj bd0 bd1
      go_wp2
      go_region_held3 (fun w' => w'.cell? (a.add k) = some (.int .i64 x) ∧ w'.cell? (a'.add j) = some (.int .i64 y)) (go_keep) (first
        | (refine step_int (w := w) (wr := wr) (p := (x + y) % 113) rfl (.tmp 16) (.tmp 32) rfl rfl rfl HO.out HB.out ?hW ?hl (by omega) ?_
           case hW => first | exact (Below.refl _ _).alloc (Nat.le_refl _) _ | exact below_drew ((Below.refl _ _).alloc (Nat.le_refl _) _) | exact (below_drew (Below.refl _ _)).alloc (Nat.le_refl _) _
           case hl => exact heap_alloc_new _ _
           intro A3 c3 w3 h6 h7
           have hx3 := (h7.out.cell (p := a.add k) (by rw [add_block]; exact hab)).trans HX0.out
           have hy3 := (h7.out.cell (p := a'.add j) (by rw [add_block]; exact hab')).trans HY0.out))
      all_goals (
        have HO2 : Hid (w3.ownsRow w.heap.size 3 1 (.slice A3 (k + 1) c3) (k + 1) (cI (L (k + 1)))) := Lib.hid (by
          rw [HE.out]; exact h6.out)
        clear h6 hx3 hy3 iw2 im q1 q2 q3
        go_wp2
        go_roundw
        case rel => exact ⟨k + 1, A3, c3, by omega, by go_num, rfl, HO2, h7⟩
        case measure => simp [intOf] <;> omega)
    · have hkn : k = n' := by omega
      subst hkn
      have HOF : Hid (OwIntS wr w.heap.size wr.heap.size (.slice Ao k co) (L k)) := Lib.hid (by
        obtain ⟨A, c, he, ho⟩ := own_fin HO.out (by omega)
        rw [he]; exact ho)
      go_wp2
      go_ret
      exact ⟨_, _, rfl, HOF.out, HB.out⟩

set_option maxHeartbeats 2000000 in
theorem s_l11Things (A : Option Addr) (n c : Nat) (z : Int) (ds : List Int) (A' : Option Addr) (n' c' : Nat) (xs : List Int) (w : World) (h : Rd w w.heap.size 1 A n (cI ds)) (hn : n ≤ 1048576) (h' : Rd w w.heap.size 1 A' n' (cI xs)) (hn' : n' ≤ 1048576) :
    Calls Try.prog 89 #[.agg #[.slice A n c, .int .i64 z], .slice A' n' c'] w fun e w' => e = .returned (.bool (thingsB (ds, z) xs)) ∧ Below w.heap.size w w' := by
  have hl := h.len
  have hl' := h'.len
  have HB0 : Hid (Below w.heap.size w (w.alloc (.cells #[.slice A n c, .int .i64 z] 52))) := Lib.hid ((Below.refl _ _).alloc (Nat.le_refl _) _)
  have HX0 : Hid (Bx (w.alloc (.cells #[.slice A n c, .int .i64 z] 52)) w.heap.size #[.slice A n c, .int .i64 z] 52) := Lib.hid (Bx.new _ _ _)
  have H : Hid (Rd (w.alloc (.cells #[.slice A n c, .int .i64 z] 52)) (w.alloc (.cells #[.slice A n c, .int .i64 z] 52)).heap.size 1 A n (cI ds)) := Lib.hid ((h.below HB0.out).more HB0.out.size)
  have HR := Lib.hid h'
  have HL := Lib.hid hl
  have HL' := Lib.hid hl'
  clear h hl h' hl'
  go_enter Try.func89, Try.ntmps89
  go_wp2_with fail
  refine (s_DealOk A n c z ds _ H.out hn).mono ?_
  rintro e w1 ⟨rfl, hb⟩
  have HX1 := Lib.hid (HX0.out.below hb HX0.out.lt)
  have HB1 : Hid (Below w.heap.size w w1) := Lib.hid (HB0.out.trans (hb.mono HB0.out.size))
  clear hb
  cases e1 : dealB (ds, z)
  · have HF : Hid (thingsB (ds, z) xs = false) := Lib.hid (by simp [thingsB, e1])
    go_wp2
    go_ret
    exact ⟨ret_bool HF.out.symm, HB1.out⟩
  have b0 : w1.cell? ⟨w.heap.size, 0, none⟩ = some (.slice A n c) := HX1.out.cell 0
  by_cases hnn : n' = n
  · subst hnn
    have HF : Hid (thingsB (ds, z) xs = numsB xs) := Lib.hid (by simp [thingsB, e1, HL.out, HL'.out])
    clear e1
    go_wp2_with fail
    refine (s_l1In _ _ _ _ _ ((HR.out.below HB1.out).more HB1.out.size) hn').mono ?_
    rintro e w' ⟨rfl, rfl⟩
    go_wp2
    go_ret
    exact ⟨ret_bool HF.out.symm, HB1.out⟩
  · have q0 : ((n' : Int) == (n : Int)) = false := by rw [beq_eq_false_iff_ne]; omega
    have q1 : ¬ (n' : Int) = (n : Int) := by omega
    have HF : Hid (thingsB (ds, z) xs = false) := Lib.hid (by simp [thingsB, e1, HL.out, HL'.out, hnn])
    clear e1
    go_wp2
    go_ret
    exact ⟨ret_bool HF.out.symm, HB1.out⟩

set_option maxHeartbeats 2000000 in
theorem s_ChoiceAnswer (A : Option Addr) (n c : Nat) (z : Int) (ds : List Int) (A' : Option Addr) (n' c' : Nat) (xs : List Int) (t : Int) (w : World) (h : Rd w w.heap.size 1 A n (cI ds)) (hn : n ≤ 1048576) (h' : Rd w w.heap.size 1 A' n' (cI xs)) (hn' : n' ≤ 1048576) :
    Calls Try.prog 36 #[.agg #[.slice A n c, .int .i64 z], .slice A' n' c', .int .i64 t] w fun e w' => ∃ g, e = .returned (.tuple #[g, .bool (R_ChoiceAnswer_1 (ds, z) xs t)]) ∧ OwIntS w' w.heap.size w'.heap.size g (R_ChoiceAnswer_0 (ds, z) xs t) ∧ Below w.heap.size w w' := by
  have hl := h.len
  have hl' := h'.len
  have HB0 : Hid (Below w.heap.size w (w.alloc (.cells #[.slice A n c, .int .i64 z] 52))) := Lib.hid ((Below.refl _ _).alloc (Nat.le_refl _) _)
  have HX0 : Hid (Bx (w.alloc (.cells #[.slice A n c, .int .i64 z] 52)) w.heap.size #[.slice A n c, .int .i64 z] 52) := Lib.hid (Bx.new _ _ _)
  have HD := Lib.hid h
  have HR := Lib.hid h'
  have HL := Lib.hid hl
  have HL' := Lib.hid hl'
  clear h hl h' hl'
  go_enter Try.func36, Try.ntmps36
  go_wp2_with fail
  refine (s_l11Things A n c z ds A' n' c' xs _ ((HD.out.below HB0.out).more HB0.out.size) hn ((HR.out.below HB0.out).more HB0.out.size) hn').mono ?_
  rintro e w1 ⟨rfl, hb⟩
  have HX1 := Lib.hid (HX0.out.below hb HX0.out.lt)
  have HB1 : Hid (Below w.heap.size w w1) := Lib.hid (HB0.out.trans (hb.mono HB0.out.size))
  clear hb
  cases e1 : thingsB (ds, z) xs
  · have HF : Hid (R_ChoiceAnswer_1 (ds, z) xs t = false) := Lib.hid (by simp [R_ChoiceAnswer_1, e1])
    have HE : Hid (R_ChoiceAnswer_0 (ds, z) xs t = []) := Lib.hid (by simp [R_ChoiceAnswer_0, HF.out])
    go_wp2
    go_ret2
    refine ⟨_, ret_vb HF.out.symm, ?_, HB1.out⟩
    rw [HE.out]; exact OwIntS.nil_ _ _ _
  have hd := e1
  simp only [thingsB, dealB, Bool.and_eq_true, inB_iff, decide_eq_true_eq] at hd
  obtain ⟨⟨⟨n2, n8⟩, hds, z0, z1⟩, hll, hxs⟩ := hd
  rw [HL.out, HL'.out] at hll
  rw [HL.out] at n2 n8 z1
  subst hll
  have im : IntKind.i64.wrap ((n' : Int) - 1) = (n' : Int) - 1 := IntWalk.i64_in _ (by omega)
  go_wp2_with fail
  refine (s_l6In _ _ _ _).mono ?_
  rintro e w' ⟨rfl, rfl⟩
  cases e2 : inB t 0 ((n' : Int) - 1)
  · have HF : Hid (R_ChoiceAnswer_1 (ds, z) xs t = false) := Lib.hid (by simp [R_ChoiceAnswer_1, HL.out, e2])
    have HE : Hid (R_ChoiceAnswer_0 (ds, z) xs t = []) := Lib.hid (by simp [R_ChoiceAnswer_0, HF.out])
    go_wp2
    go_ret2
    refine ⟨_, ret_vb HF.out.symm, ?_, HB1.out⟩
    rw [HE.out]; exact OwIntS.nil_ _ _ _
  have HF : Hid (R_ChoiceAnswer_1 (ds, z) xs t = true) := Lib.hid (by simp [R_ChoiceAnswer_1, e1, HL.out, e2])
  have HE : Hid (R_ChoiceAnswer_0 (ds, z) xs t = mapK (fun x y => x + y) xs (atM ds t n') n') := Lib.hid (by rw [R_ChoiceAnswer_0, if_pos HF.out, HL.out])
  obtain ⟨t0, t1⟩ := inB_iff.1 e2
  have b0 : w1.cell? ⟨w.heap.size, 0, none⟩ = some (.slice A n' c) := HX1.out.cell 0
  have HNd := Lib.hid (nums_of_B hds)
  have HNx := Lib.hid (nums_of_B hxs)
  clear e1 e2 hds hxs
  go_wp2_with fail
  refine (s_l11Answer A A' n' c n' c' ds xs t w1 ((HD.out.below HB1.out).more HB1.out.size) ((HR.out.below HB1.out).more HB1.out.size) HNd.out HNx.out (by omega) rfl t0 (by omega)).mono ?_
  rintro e w2 ⟨A3, c3, rfl, ho, hb⟩
  have HO : Hid (OwIntS w2 w.heap.size w2.heap.size (.slice A3 n' c3) (R_ChoiceAnswer_0 (ds, z) xs t)) := Lib.hid (by rw [HE.out]; exact ho.widen HB1.out.size (Nat.le_refl _))
  have HB2 : Hid (Below w.heap.size w w2) := Lib.hid (HB1.out.trans (hb.mono HB1.out.size))
  clear ho hb
  go_wp2
  go_ret2
  exact ⟨_, ret_vb HF.out.symm, HO.out, HB2.out⟩
theorem X_s_ChoiceAnswer (v v' : Value) (d : List Int × Int) (xs : List Int) (t : Int) (w : World) (h : RdDeal w w.heap.size v d) (h' : RdIntS w w.heap.size v' xs) (hs : szDeal d ≤ 1048576) (hs' : szIntS xs ≤ 1048576) :
    Calls Try.prog 36 #[v, v', .int .i64 t] w fun e w' => ∃ g, e = .returned (.tuple #[g, .bool (R_ChoiceAnswer_1 d xs t)]) ∧ OwIntS w' w.heap.size w'.heap.size g (R_ChoiceAnswer_0 d xs t) ∧ Below w.heap.size w w' := by
  obtain ⟨A, n, c, rfl, B, k, q, hv, _, hr⟩ := h
  injection hv with h1 h2 h3
  subst h1 h2 h3
  obtain ⟨A', n', c', rfl, _, r⟩ := h'
  have hl := hr.len
  exact s_ChoiceAnswer A n c d.2 d.1 A' n' c' xs t w hr (by unfold szDeal szIntS at hs; omega) r (by have := r.len; unfold szIntS at hs'; omega)
end Go.Proofs.Ytpejigfndkdhcaa

/- Chapter 11: putting masks on and off; ChoiceTake of both sides. Made by tools/gen11/take.py. -/
namespace Go.Proofs.Ytpejigfndkdhcaa
open Go.RowKit
set_option maxRecDepth 100000

set_option maxHeartbeats 1000000 in
theorem i_puttingOn (m : Int) (w : World) :
    Calls Try.prog 87 #[.int .i64 m] w fun e w' => ∃ b, e = .returned (.func (.func 115) #[] #[.pointer (some ⟨b, 0, none⟩)]) ∧ Hid (w.heap.size = b) ∧ Bx w' b #[.int .i64 m] 3 ∧ w' = w.alloc (.cells #[.int .i64 m] 3) := by
  go_enter Try.func87, Try.ntmps87
  go_wp2
  go_ret
  exact ⟨w.heap.size, rfl, Lib.hid rfl, Bx.new _ _ _, rfl⟩
set_option maxHeartbeats 1000000 in
theorem i_puttingOn1 (a m : Int) (b : Nat) (w : World) (hc : w.cell? ⟨b, 0, none⟩ = some (.int .i64 m)) (h1 : 0 ≤ a) (h2 : a ≤ 112) (h3 : 0 ≤ m) (h4 : m ≤ 112) :
    Calls Try.prog 115 #[.int .i64 a, .pointer (some ⟨b, 0, none⟩)] w fun e w' => e = .returned (.int .i64 ((a + m) % 113)) ∧ w = w' := by
  go_enter Try.func115, Try.ntmps115
  go_wp2_with fail
  refine (i_plus _ _ _ h1 h2 h3 h4).mono ?_
  rintro e w' ⟨rfl, rfl⟩
  go_wp2
  go_ret
  exact ⟨rfl, rfl⟩
set_option maxHeartbeats 1000000 in
theorem i_takingOff (m : Int) (w : World) :
    Calls Try.prog 92 #[.int .i64 m] w fun e w' => ∃ b, e = .returned (.func (.func 116) #[] #[.pointer (some ⟨b, 0, none⟩)]) ∧ Hid (w.heap.size = b) ∧ Bx w' b #[.int .i64 m] 3 ∧ w' = w.alloc (.cells #[.int .i64 m] 3) := by
  go_enter Try.func92, Try.ntmps92
  go_wp2
  go_ret
  exact ⟨w.heap.size, rfl, Lib.hid rfl, Bx.new _ _ _, rfl⟩
set_option maxHeartbeats 1000000 in
theorem i_takingOff1 (a m : Int) (b : Nat) (w : World) (hc : w.cell? ⟨b, 0, none⟩ = some (.int .i64 m)) (h1 : 0 ≤ a) (h2 : a ≤ 112) (h3 : 0 ≤ m) (h4 : m ≤ 112) :
    Calls Try.prog 116 #[.int .i64 a, .pointer (some ⟨b, 0, none⟩)] w fun e w' => e = .returned (.int .i64 ((a - m) % 113)) ∧ w = w' := by
  go_enter Try.func116, Try.ntmps116
  go_wp2_with fail
  refine (i_minus _ _ _ h1 h2 h3 h4).mono ?_
  rintro e w' ⟨rfl, rfl⟩
  go_wp2
  go_ret
  exact ⟨rfl, rfl⟩
set_option maxHeartbeats 4000000 in
theorem i_ChoiceTake (A : Option Addr) (n c : Nat) (xs : List Int) (ch m : Int) (w : World) (h : Rd w w.heap.size 1 A n (cI xs)) (hn : n ≤ 1048576) :
    Calls Try.prog 38 #[.slice A n c, .int .i64 ch, .int .i64 m] w fun e w' => e = .returned (.tuple #[.int .i64 (takeV xs ch m), .bool (takeB xs ch m)]) ∧ Below w.heap.size w w' := by
  have HL := Lib.hid h.len
  have HR := Lib.hid h
  clear h
  cases e1 : inB (n : Int) 2 8
  · have HF : Hid (takeV xs ch m = 0 ∧ takeB xs ch m = false) := Lib.hid (by simp [takeV, takeB, HL.out, e1])
    go_enter Try.func38, Try.ntmps38
    go_wp2_with fail
    refine (i_choiceCount _ _).mono ?_
    rintro e w' ⟨rfl, rfl⟩
    rw [e1]
    go_wp2
    go_ret2
    exact ⟨ret_ib2 HF.out.1.symm HF.out.2.symm, Below.refl _ _⟩
  obtain ⟨n2, n8⟩ := inB_iff.1 e1
  have im : IntKind.i64.wrap ((n : Int) - 1) = (n : Int) - 1 := IntWalk.i64_in _ (by omega)
  cases e2 : numsB xs
  · have HF : Hid (takeV xs ch m = 0 ∧ takeB xs ch m = false) := Lib.hid (by simp [takeV, takeB, HL.out, e1, e2])
    go_enter Try.func38, Try.ntmps38
    go_wp2_with fail
    refine (i_choiceCount _ _).mono ?_
    rintro e w' ⟨rfl, rfl⟩
    rw [e1]
    go_wp2_with fail
    refine (i_numbersOk _ _ _ _ _ HR.out hn).mono ?_
    rintro e w' ⟨rfl, rfl⟩
    rw [e2]
    go_wp2
    go_ret2
    exact ⟨ret_ib2 HF.out.1.symm HF.out.2.symm, Below.refl _ _⟩
  cases e3 : inB ch 0 ((n : Int) - 1)
  · have HF : Hid (takeV xs ch m = 0 ∧ takeB xs ch m = false) := Lib.hid (by simp [takeV, takeB, HL.out, e1, e2, e3])
    go_enter Try.func38, Try.ntmps38
    go_wp2_with fail
    refine (i_choiceCount _ _).mono ?_
    rintro e w' ⟨rfl, rfl⟩
    rw [e1]
    go_wp2_with fail
    refine (i_numbersOk _ _ _ _ _ HR.out hn).mono ?_
    rintro e w' ⟨rfl, rfl⟩
    rw [e2]
    go_wp2_with fail
    refine (i_indexOk _ _ _).mono ?_
    rintro e w' ⟨rfl, rfl⟩
    rw [e3]
    go_wp2
    go_ret2
    exact ⟨ret_ib2 HF.out.1.symm HF.out.2.symm, Below.refl _ _⟩
  cases e4 : numB m
  · have HF : Hid (takeV xs ch m = 0 ∧ takeB xs ch m = false) := Lib.hid (by simp [takeV, takeB, HL.out, e1, e2, e3, e4])
    go_enter Try.func38, Try.ntmps38
    go_wp2_with fail
    refine (i_choiceCount _ _).mono ?_
    rintro e w' ⟨rfl, rfl⟩
    rw [e1]
    go_wp2_with fail
    refine (i_numbersOk _ _ _ _ _ HR.out hn).mono ?_
    rintro e w' ⟨rfl, rfl⟩
    rw [e2]
    go_wp2_with fail
    refine (i_indexOk _ _ _).mono ?_
    rintro e w' ⟨rfl, rfl⟩
    rw [e3]
    go_wp2_with fail
    refine (i_NumOk _ _).mono ?_
    rintro e w' ⟨rfl, rfl⟩
    rw [e4]
    go_wp2
    go_ret2
    exact ⟨ret_ib2 HF.out.1.symm HF.out.2.symm, Below.refl _ _⟩
  have HB : Hid (takeB xs ch m = true) := Lib.hid (by simp [takeB, HL.out, e1, e2, e3, e4])
  obtain ⟨c0, c1⟩ := inB_iff.1 e3
  obtain ⟨m0, m1⟩ := (numB_iff m).1 e4
  obtain ⟨k, hk⟩ : ∃ k : Nat, ch = (k : Int) := ⟨ch.toNat, by omega⟩
  have HV : Hid (takeV xs ch m = (xs.getD k 0 - m) % 113) := Lib.hid (by unfold takeV; rw [if_pos HB.out, hk]; rfl)
  subst hk
  have hkn : k < n := by omega
  obtain ⟨a, z, rfl, ab, ac, HZ⟩ := HR.out.intAt hkn
  rw [← HZ.out] at HV
  have hz := nums_of_B e2 k
  rw [← HZ.out] at hz
  obtain ⟨z0, z1⟩ := hz
  have i1 : (k : Int) < (n : Int) := by omega
  go_enter Try.func38, Try.ntmps38
  go_wp2_with fail
  refine (i_choiceCount _ _).mono ?_
  rintro e w' ⟨rfl, rfl⟩
  rw [e1]
  go_wp2_with fail
  refine (i_numbersOk _ _ _ _ _ HR.out hn).mono ?_
  rintro e w' ⟨rfl, rfl⟩
  rw [e2]
  go_wp2_with fail
  refine (i_indexOk _ _ _).mono ?_
  rintro e w' ⟨rfl, rfl⟩
  rw [e3]
  go_wp2_with fail
  refine (i_NumOk _ _).mono ?_
  rintro e w' ⟨rfl, rfl⟩
  rw [e4]
  go_wp2
  clear e1 e2 e3 e4 c0 c1
  have hb := Below.refl w.heap.size w
  have hal : ∀ o, Below w.heap.size w (w.alloc o) ∧ (w.alloc o).cell? (a.add k) = some (.int .i64 z) := fun o => ⟨hb.alloc (Nat.le_refl _) o, ((hb.alloc (Nat.le_refl _) o).cell (p := a.add k) (by rw [add_block]; exact ab)).trans ac⟩
  have stq0 : True := trivial
  go_region_held3 (fun w' => Below w.heap.size w w' ∧ w'.cell? (a.add k) = some (.int .i64 z))
    (first | exact ⟨hb, ac⟩ | exact ⟨hb.drew, ac⟩ | exact hal _ | exact ⟨(hal _).1.drew, (hal _).2⟩)
    (first
      | (have stq1 := stq0
         clear stq0
         go_at_call 92
         refine (i_takingOff _ _).mono ?_
         rintro e w1 ⟨b, rfl, zb, hx, hw1⟩
         have hs1 : Below w.heap.size w w1 ∧ w1.cell? (a.add k) = some (.int .i64 z) := by rw [hw1]; first | exact hal _ | exact ⟨(hal _).1.drew, (hal _).2⟩
         replace hb := hs1.1
         replace ac := hs1.2
         have hx0 : w1.cell? ⟨b, 0, none⟩ = some (.int .i64 m) := hx.cell 0
         clear hal hs1 hw1 zb
         have hal : True := trivial)
      | (have stq2 := stq1
         clear stq1
         go_at_call 116
         refine (i_takingOff1 _ _ _ _ hx0 z0 z1 m0 m1).mono ?_
         rintro e w2 ⟨rfl, rfl⟩))
  have HB2 := Lib.hid hb
  clear hb
  go_wp2
  go_ret2
  exact ⟨ret_ib2 HV.out.symm HB.out.symm, HB2.out⟩
theorem X_i_ChoiceTake (v : Value) (xs : List Int) (ch m : Int) (w : World) (h : RdIntS w w.heap.size v xs) (hs : szIntS xs ≤ 1048576) :
    Calls Try.prog 38 #[v, .int .i64 ch, .int .i64 m] w fun e w' => e = .returned (.tuple #[.int .i64 (takeV xs ch m), .bool (takeB xs ch m)]) ∧ Below w.heap.size w w' := by
  obtain ⟨A, n, c, rfl, _, r⟩ := h
  exact i_ChoiceTake A n c xs ch m w r (by have := r.len; unfold szIntS at hs; omega)

end Go.Proofs.Ytpejigfndkdhcaa

/- Chapter 11: the program's masked, over any two closures; ChoiceAnswer's closure. -/
namespace Go.Proofs.Ytpejigfndkdhcaa
open Go.RowKit
set_option maxRecDepth 100000

theorem map_step (op : Int → Int → Int) (xs : List Int) (ms : Nat → Int) {k n : Nat} (hk : k < n) : (mapK op xs ms k ++ List.replicate (n - k) 0).set k (mapE op xs ms k) = mapK op xs ms (k + 1) ++ List.replicate (n - (k + 1)) 0 := by
  have hl := mapK_length op xs ms k
  rw [List.set_append_right _ _ (by omega), hl, Nat.sub_self, show n - k = (n - (k + 1)) + 1 by omega, List.replicate_succ, List.set_cons_zero, mapK, List.append_assoc, List.singleton_append]

set_option maxHeartbeats 4000000 in
theorem i_masked (F G : FuncId) (caps : Array Value) (op : Int → Int → Int) (ms : Nat → Int) (A : Option Addr) (n c : Nat) (xs : List Int) (w : World) (h : Rd w w.heap.size 1 A n (cI xs)) (hN : Nums xs) (hm : ∀ k, 0 ≤ ms k ∧ ms k ≤ 112) (hn : n ≤ 8)
    (eg : ∀ args W, (callFunc F args).run Try.prog W = .ok (.enter F args) W) (eg2 : ∀ args W, (callFunc G args).run Try.prog W = .ok (.enter G args) W)
    (hS : ∀ W (k : Nat), Below w.heap.size w W → k < n → Calls Try.prog F (#[.int .i64 k] ++ caps) W fun e W' => ∃ b, e = .returned (.func (.func G) #[] #[.pointer (some ⟨b, 0, none⟩)]) ∧ W'.cell? ⟨b, 0, none⟩ = some (.int .i64 (ms k)) ∧ Below W.heap.size W W')
    (hG : ∀ (a m : Int) (b : Nat) (W : World), W.cell? ⟨b, 0, none⟩ = some (.int .i64 m) → 0 ≤ a → a ≤ 112 → 0 ≤ m → m ≤ 112 → Calls Try.prog G #[.int .i64 a, .pointer (some ⟨b, 0, none⟩)] W fun e W' => e = .returned (.int .i64 (op a m % 113)) ∧ W = W') :
    Calls Try.prog 85 #[.slice A n c, .func (.func F) #[] caps] w fun e w' => ∃ A' c', e = .returned (.slice A' n c') ∧ OwIntS w' w.heap.size w'.heap.size (.slice A' n c') (mapK op xs ms n) ∧ Below w.heap.size w w' := by
  have HX := Lib.hid h
  have HN := Lib.hid hN
  have HM := Lib.hid hm
  have HS1 := Lib.hid hS
  have HG1 := Lib.hid hG
  clear h hN hm hS hG
  have hmk := fun W => run_make1 (P := Try.prog) Try.underlying22 info_int rfl n (by omega) (by omega) W
  have HO0 : Hid (Ow (w.alloc (.cells (Array.replicate n (.int .i64 0)) 3)) w.heap.size (w.heap.size + 1) 3 1 (some ⟨w.heap.size, 0, none⟩) n n (cI (mapK op xs ms 0 ++ List.replicate (n - 0) 0))) := Lib.hid (by
    have := Ow.zeros w (.int .i64 0) 3 n
    rw [cI_zeros] at this; exact this)
  have HB0 : Hid (Below w.heap.size w (w.alloc (.cells (Array.replicate n (.int .i64 0)) 3))) := Lib.hid ((Below.refl _ _).alloc (Nat.le_refl _) _)
  have HZ0 : Hid (w.heap.size < (w.alloc (.cells (Array.replicate n (.int .i64 0)) 3)).heap.size) := Lib.hid (by simp)
  go_enter Try.func85, Try.ntmps85
  go_wp2
  go_loopw [13] (fun i wr => ∃ k : Nat, k ≤ n ∧ i = .int .i64 k ∧ Hid (Ow wr w.heap.size (w.heap.size + 1) 3 1 (some ⟨w.heap.size, 0, none⟩) n n (cI (mapK op xs ms k ++ List.replicate (n - k) 0))) ∧ Hid (Below w.heap.size w wr) ∧ Hid (w.heap.size < wr.heap.size)) (fun i _ => n - (intOf i).toNat)
  case atStart => exact ⟨0, Nat.zero_le _, rfl, HO0, HB0, HZ0⟩
  case round =>
    clear HO0 HB0 HZ0
    obtain ⟨k, hk, rfl, HO, HB, HZ⟩ := hrel
    by_cases hlt : k < n
    · obtain ⟨a, x, rfl, hab, hx0, HP⟩ := HX.out.intAt hlt
      have hx := (HB.out.cell (p := a.add k) (by rw [add_block]; exact hab)).trans hx0
      obtain ⟨x0, x1⟩ := HN.out k
      rw [← HP.out] at x0 x1
      obtain ⟨y, hy⟩ : ∃ y, ms k = y := ⟨_, rfl⟩
      obtain ⟨y0, y1⟩ := HM.out k
      rw [hy] at y0 y1
      have HE : Hid (mapE op xs ms k = op x y % 113) := Lib.hid (by rw [mapE, hy, ← HP.out])
      have HY := Lib.hid hy
      obtain ⟨v, hv⟩ : ∃ v, op x y % 113 = v := ⟨_, rfl⟩
      have HV := Lib.hid hv
      clear hy hv hx0
      have i0 : (0 : Int) ≤ (k : Int) := by omega
      have i1 : (k : Int) < (n : Int) := by omega
      go_wp2_with fail
      refine (HS1.out wr k HB.out hlt).mono ?_
      rintro e w1 ⟨b, rfl, hc, hb⟩
      rw [HY.out] at hc
      have HO1 := Lib.hid (HO.out.below hb (by have := HZ.out; omega))
      have HB1 := Lib.hid (HB.out.trans (hb.mono HB.out.size))
      have HZ1 : Hid (w.heap.size < w1.heap.size) := Lib.hid (by have := HZ.out; have := hb.size; omega)
      clear HO HB HZ hb hx
      go_wp2_with fail
      refine (HG1.out x y b w1 hc x0 x1 y0 y1).mono ?_
      rintro e w2 ⟨rfl, rfl⟩
      rw [HV.out]
      obtain ⟨v0, hv0⟩ : ∃ v, w1.cell? ⟨w.heap.size, k, none⟩ = some v := ⟨_, HO1.out.cellAt (List.getElem?_eq_getElem (by have := HO1.out.1; omega))⟩
      have hf := HO1.out.free (by omega) k
      have HO2 := Lib.hid (HO1.out.set k (.int .i64 v))
      have HET : Hid ((mapK op xs ms k ++ List.replicate (n - k) 0).set k v = mapK op xs ms (k + 1) ++ List.replicate (n - (k + 1)) 0) := Lib.hid (by rw [← map_step op xs ms hlt, HE.out, HV.out])
      rw [cI_set, HET.out] at HO2
      have HB2 := Lib.hid (HB1.out.setCell (p := ⟨w.heap.size, k, none⟩) (by simp) (.int .i64 v))
      have HZ2 : Hid (w.heap.size < (w1.setCell ⟨w.heap.size, k, none⟩ (.int .i64 v)).heap.size) := Lib.hid (by rw [World.size_setCell]; exact HZ1.out)
      clear HO1 HB1 HZ1 HE HET hc HV HY
      go_wp2
      go_roundw
      case rel => exact ⟨k + 1, by omega, by go_num, HO2, HB2, HZ2⟩
      case measure => simp [intOf] <;> omega
    · have hkn : k = n := by omega
      have HOF : Hid (OwIntS wr w.heap.size wr.heap.size (.slice (some ⟨w.heap.size, 0, none⟩) n n) (mapK op xs ms n)) := Lib.hid (by
        have := HO.out
        rw [hkn, Nat.sub_self, List.replicate_zero, List.append_nil] at this
        exact ⟨by rw [mapK_length]; omega, _, _, _, rfl, this.widen (Nat.le_refl _) HZ.out⟩)
      clear HO hkn
      go_wp2
      go_ret
      exact ⟨_, _, rfl, HOF.out, HB.out⟩

set_option maxHeartbeats 4000000 in
theorem i_answer1 (k : Nat) (b1 b2 b3 : Nat) (A : Option Addr) (n c : Nat) (ds : List Int) (t : Int) (w : World) (h1 : w.cell? ⟨b1, 0, none⟩ = some (.slice A n c)) (h2 : w.cell? ⟨b2, 0, none⟩ = some (.int .i64 t)) (h3 : w.cell? ⟨b3, 0, none⟩ = some (.int .i64 n))
    (l1 : b1 < w.heap.size) (l2 : b2 < w.heap.size) (l3 : b3 < w.heap.size) (H : Rd w w.heap.size 1 A n (cI ds)) (hk : k < n) (hn : n ≤ 8) (t0 : 0 ≤ t) (t1 : t < n) :
    Calls Try.prog 86 #[.int .i64 k, .pointer (some ⟨b1, 0, none⟩), .pointer (some ⟨b2, 0, none⟩), .pointer (some ⟨b3, 0, none⟩)] w fun e w' => ∃ b, e = .returned (.func (.func 115) #[] #[.pointer (some ⟨b, 0, none⟩)]) ∧ w'.cell? ⟨b, 0, none⟩ = some (.int .i64 (atM ds t n k)) ∧ Below w.heap.size w w' := by
  obtain ⟨bd0, bd1⟩ := emod_bd ((k : Int) + t) (show 0 < (n : Int) by omega)
  obtain ⟨j, hj⟩ : ∃ j : Nat, ((k : Int) + t) % n = (j : Int) := ⟨(((k : Int) + t) % n).toNat, by omega⟩
  have hjn : j < n := by omega
  obtain ⟨a, y, rfl, hab, hy, HY⟩ := H.intAt hjn
  have HE : Hid (atM ds t n k = y) := Lib.hid (by rw [atM, hj, Int.toNat_natCast, ← HY.out])
  rw [HE.out]
  have HJ := Lib.hid hj
  have j0 : (0 : Int) ≤ (j : Int) := by omega
  have j1 : (j : Int) < (n : Int) := by omega
  have hb := Below.refl w.heap.size w
  have hal : ∀ o, Below w.heap.size w (w.alloc o) ∧ (w.alloc o).cell? ⟨b1, 0, none⟩ = some (.slice (some a) n c) ∧ (w.alloc o).cell? ⟨b2, 0, none⟩ = some (.int .i64 t) ∧ (w.alloc o).cell? ⟨b3, 0, none⟩ = some (.int .i64 n) ∧ (w.alloc o).cell? (a.add j) = some (.int .i64 y) := fun o =>
    have hB := hb.alloc (Nat.le_refl _) o
    ⟨hB, (hB.cell (p := ⟨b1, 0, none⟩) l1).trans h1, (hB.cell (p := ⟨b2, 0, none⟩) l2).trans h2, (hB.cell (p := ⟨b3, 0, none⟩) l3).trans h3, (hB.cell (p := a.add j) (by rw [add_block]; exact hab)).trans hy⟩
  clear hj bd0 bd1 H HE HY
  go_enter Try.func86, Try.ntmps86
  go_wp2
  go_region_held3 (fun w' => Below w.heap.size w w' ∧ w'.cell? ⟨b1, 0, none⟩ = some (.slice (some a) n c) ∧ w'.cell? ⟨b2, 0, none⟩ = some (.int .i64 t) ∧ w'.cell? ⟨b3, 0, none⟩ = some (.int .i64 n) ∧ w'.cell? (a.add j) = some (.int .i64 y))
    (first | exact ⟨hb, h1, h2, h3, hy⟩ | exact ⟨hb.drew, h1, h2, h3, hy⟩ | exact hal _ | exact ⟨(hal _).1.drew, (hal _).2⟩)
    (first
      | (go_at_call 88
         refine (i_indexPlus _ _ _ _ ⟨by omega, by omega⟩ ⟨t0, t1⟩ (by omega)).mono ?_
         rintro e w2 ⟨rfl, rfl⟩
         rw [HJ.out])
      | (go_at_call 87
         refine (i_puttingOn _ _).mono ?_
         rintro e w1 ⟨b, rfl, zb, hx, hw1⟩
         have hs1 : Below w.heap.size w w1 ∧ w1.cell? ⟨b1, 0, none⟩ = some (.slice (some a) n c) ∧ w1.cell? ⟨b2, 0, none⟩ = some (.int .i64 t) ∧ w1.cell? ⟨b3, 0, none⟩ = some (.int .i64 n) ∧ w1.cell? (a.add j) = some (.int .i64 y) := by rw [hw1]; first | exact hal _ | exact ⟨(hal _).1.drew, (hal _).2⟩
         obtain ⟨hb, h1, h2, h3, hy⟩ := hs1
         have hx0 : w1.cell? ⟨b, 0, none⟩ = some (.int .i64 y) := hx.cell 0
         clear hal hw1 zb
         have hal : True := trivial))
  have HB2 := Lib.hid hb
  have HX2 := Lib.hid hx0
  clear hb hx0
  go_wp2
  go_ret
  exact ⟨b, rfl, HX2.out, HB2.out⟩
end Go.Proofs.Ytpejigfndkdhcaa

/- Chapter 11: the closures of ChoiceMasks. Made by tools/gen11/masks1.py. -/
namespace Go.Proofs.Ytpejigfndkdhcaa
open Go.RowKit
set_option maxRecDepth 100000

/-- the thing at a place -/
def atT (xs : List Int) (a : Int) (n : Nat) (k : Nat) : Int := xs.getD (((k : Int) - a) % n).toNat 0
theorem atT_bd {xs : List Int} (h : Nums xs) (t : Int) (n k : Nat) : 0 ≤ atT xs t n k ∧ atT xs t n k ≤ 112 := h _

end Go.Proofs.Ytpejigfndkdhcaa

/- Chapter 11: the program's ChoiceAnswer. -/
namespace Go.Proofs.Ytpejigfndkdhcaa
open Go.RowKit
set_option maxRecDepth 100000

theorem eg_answer1 (args : Array Value) (W : World) : (callFunc 86 args).run Try.prog W = .ok (.enter 86 args) W := by kernel_rfl
theorem eg_putting1 (args : Array Value) (W : World) : (callFunc 115 args).run Try.prog W = .ok (.enter 115 args) W := by kernel_rfl
theorem atM_bd {ds : List Int} (h : Nums ds) (t : Int) (n k : Nat) : 0 ≤ atM ds t n k ∧ atM ds t n k ≤ 112 := h _
theorem i_dealOk_of (A : Option Addr) (n c : Nat) (z : Int) (ds : List Int) {w W : World} (h : Rd w w.heap.size 1 A n (cI ds)) (hn : n ≤ 1048576) (hb : Below w.heap.size w W) :
    Calls Try.prog 83 #[.agg #[.slice A n c, .int .i64 z]] W fun e w' => e = .returned (.bool (dealB (ds, z))) ∧ Below W.heap.size W w' := i_DealOk A n c z ds W ((h.below hb).more hb.size) hn

set_option maxHeartbeats 4000000 in
theorem i_ChoiceAnswer (A : Option Addr) (n c : Nat) (z : Int) (ds : List Int) (A' : Option Addr) (n' c' : Nat) (xs : List Int) (t : Int) (w : World) (h : Rd w w.heap.size 1 A n (cI ds)) (hn : n ≤ 1048576) (h' : Rd w w.heap.size 1 A' n' (cI xs)) (hn' : n' ≤ 1048576) :
    Calls Try.prog 35 #[.agg #[.slice A n c, .int .i64 z], .slice A' n' c', .int .i64 t] w fun e w' => ∃ g, e = .returned (.tuple #[g, .bool (R_ChoiceAnswer_1 (ds, z) xs t)]) ∧ OwIntS w' w.heap.size w'.heap.size g (R_ChoiceAnswer_0 (ds, z) xs t) ∧ Below w.heap.size w w' := by
  have HD := Lib.hid h
  have HR := Lib.hid h'
  have HL := Lib.hid h.len
  have HL' := Lib.hid h'.len
  clear h h'
  obtain ⟨W3, hW⟩ : ∃ W, Hid (((w.alloc (.cells #[.slice A n c, .int .i64 z] 52)).alloc (.cells #[.int .i64 t] 3)).alloc (.cells #[.int .i64 n] 3) = W) := ⟨_, Lib.hid rfl⟩
  have HB0 : Hid (Below w.heap.size w W3) := Lib.hid (by rw [← hW.out]; exact (((Below.refl _ _).alloc (Nat.le_refl _) _).alloc (by simp) _).alloc (by simp only [World.size_alloc]; omega) _)
  have HX0 : Hid (Bx W3 w.heap.size #[.slice A n c, .int .i64 z] 52) := Lib.hid (by rw [← hW.out]; exact ((Bx.new _ _ _).alloc _).alloc _)
  have HT0 : Hid (Bx W3 (w.heap.size + 1) #[.int .i64 t] 3) := Lib.hid (by
    rw [← hW.out]; have := (Bx.new (w.alloc (.cells #[.slice A n c, .int .i64 z] 52)) #[.int .i64 t] 3).alloc (.cells #[.int .i64 n] 3); rwa [World.size_alloc] at this)
  have HN0 : Hid (Bx W3 (w.heap.size + 1 + 1) #[.int .i64 n] 3) := Lib.hid (by
    rw [← hW.out]; have := Bx.new ((w.alloc (.cells #[.slice A n c, .int .i64 z] 52)).alloc (.cells #[.int .i64 t] 3)) #[.int .i64 n] 3; rwa [World.size_alloc, World.size_alloc] at this)
  go_enter Try.func35, Try.ntmps35
  go_wp2_with fail
  rw [hW.out]
  clear hW
  refine (i_dealOk_of A n c z ds HD.out hn HB0.out).mono ?_
  rintro e w1 ⟨rfl, hb⟩
  have HX1 := Lib.hid (HX0.out.below hb HX0.out.lt)
  have HT1 := Lib.hid (HT0.out.below hb HT0.out.lt)
  have HN1 := Lib.hid (HN0.out.below hb HN0.out.lt)
  have HB1 : Hid (Below w.heap.size w w1) := Lib.hid (HB0.out.trans (hb.mono HB0.out.size))
  clear hb HX0 HT0 HN0 HB0
  have c0 : w1.cell? ⟨w.heap.size, 0, none⟩ = some (.slice A n c) := HX1.out.cell 0
  have c1 : w1.cell? ⟨w.heap.size + 1, 0, none⟩ = some (.int .i64 t) := HT1.out.cell 0
  have c2 : w1.cell? ⟨w.heap.size + 1 + 1, 0, none⟩ = some (.int .i64 n) := HN1.out.cell 0
  cases e1 : dealB (ds, z)
  · have HF : Hid (R_ChoiceAnswer_1 (ds, z) xs t = false) := Lib.hid (by simp [R_ChoiceAnswer_1, thingsB, e1])
    have HE : Hid (R_ChoiceAnswer_0 (ds, z) xs t = []) := Lib.hid (by simp [R_ChoiceAnswer_0, HF.out])
    go_wp2
    go_ret2
    refine ⟨_, ret_vb HF.out.symm, ?_, HB1.out⟩
    rw [HE.out]; exact OwIntS.nil_ _ _ _
  have HT : Hid (thingsB (ds, z) xs = (decide ((n' : Int) = n) && numsB xs)) := Lib.hid (by simp only [thingsB, e1, HL.out, HL'.out, Bool.true_and, Int.ofNat_inj])
  go_wp2_with fail
  refine (i_manyNumbers _ _ _ _ _ _ ((HR.out.below HB1.out).more HB1.out.size) hn').mono ?_
  rintro e w' ⟨rfl, rfl⟩
  cases e2 : (decide ((n' : Int) = n) && numsB xs)
  · have HF : Hid (R_ChoiceAnswer_1 (ds, z) xs t = false) := Lib.hid (by simp only [R_ChoiceAnswer_1, HT.out, e2, Bool.false_and])
    have HE : Hid (R_ChoiceAnswer_0 (ds, z) xs t = []) := Lib.hid (by simp [R_ChoiceAnswer_0, HF.out])
    go_wp2
    go_ret2
    refine ⟨_, ret_vb HF.out.symm, ?_, HB1.out⟩
    rw [HE.out]; exact OwIntS.nil_ _ _ _
  have HT2 := Lib.hid (HT.out.trans e2)
  simp only [Bool.and_eq_true, decide_eq_true_eq] at e2
  obtain ⟨hnn, hxs⟩ := e2
  simp only [dealB, Bool.and_eq_true, inB_iff] at e1
  obtain ⟨⟨n2, n8⟩, hds, z0, z1⟩ := e1
  rw [HL.out] at n2 n8 z1
  have HNd := Lib.hid (nums_of_B hds)
  have HNx := Lib.hid (nums_of_B hxs)
  clear HT hds hxs
  obtain rfl : n = n' := by omega
  clear hnn
  go_wp2_with fail
  refine (i_indexOk _ _ _).mono ?_
  rintro e w' ⟨rfl, rfl⟩
  cases e3 : inB t 0 ((n : Int) - 1)
  · have HF : Hid (R_ChoiceAnswer_1 (ds, z) xs t = false) := Lib.hid (by simp [R_ChoiceAnswer_1, HL.out, e3])
    have HE : Hid (R_ChoiceAnswer_0 (ds, z) xs t = []) := Lib.hid (by simp [R_ChoiceAnswer_0, HF.out])
    go_wp2
    go_ret2
    refine ⟨_, ret_vb HF.out.symm, ?_, HB1.out⟩
    rw [HE.out]; exact OwIntS.nil_ _ _ _
  have HF : Hid (R_ChoiceAnswer_1 (ds, z) xs t = true) := Lib.hid (by simp [R_ChoiceAnswer_1, HT2.out, HL.out, e3])
  have HE : Hid (R_ChoiceAnswer_0 (ds, z) xs t = mapK (fun x y => x + y) xs (atM ds t n) n) := Lib.hid (by rw [R_ChoiceAnswer_0, if_pos HF.out, HL.out])
  obtain ⟨t0, t1⟩ := inB_iff.1 e3
  have HC := Lib.hid c0
  have HC1 := Lib.hid c1
  have HC2 := Lib.hid c2
  have hS : ∀ W (k : Nat), Below w1.heap.size w1 W → k < n → Calls Try.prog 86 (#[.int .i64 k] ++ #[.pointer (some ⟨w.heap.size, 0, none⟩), .pointer (some ⟨w.heap.size + 1, 0, none⟩), .pointer (some ⟨w.heap.size + 1 + 1, 0, none⟩)]) W fun e W' => ∃ b, e = .returned (.func (.func 115) #[] #[.pointer (some ⟨b, 0, none⟩)]) ∧ W'.cell? ⟨b, 0, none⟩ = some (.int .i64 (atM ds t n k)) ∧ Below W.heap.size W W' := fun W k hb hk =>
    i_answer1 k _ _ _ A n c ds t W ((hb.cell (p := ⟨w.heap.size, 0, none⟩) HX1.out.lt).trans HC.out) ((hb.cell (p := ⟨w.heap.size + 1, 0, none⟩) HT1.out.lt).trans HC1.out) ((hb.cell (p := ⟨w.heap.size + 1 + 1, 0, none⟩) HN1.out.lt).trans HC2.out)
      (Nat.lt_of_lt_of_le HX1.out.lt hb.size) (Nat.lt_of_lt_of_le HT1.out.lt hb.size) (Nat.lt_of_lt_of_le HN1.out.lt hb.size) ((((HD.out.below HB1.out).more HB1.out.size).below hb).more hb.size) hk (by omega) t0 (by omega)
  have HS := Lib.hid hS
  clear hS e3 c0 c1 c2
  go_wp2_with fail
  refine (i_masked 86 115 _ (fun x y => x + y) (atM ds t n) A' n c' xs w1 ((HR.out.below HB1.out).more HB1.out.size) HNx.out (fun k => atM_bd HNd.out t n k) (by omega) eg_answer1 eg_putting1 HS.out (fun a m b W hc a0 a1 m0 m1 => i_puttingOn1 a m b W hc a0 a1 m0 m1)).mono ?_
  rintro e w2 ⟨A3, c3, rfl, ho, hb⟩
  have HO : Hid (OwIntS w2 w.heap.size w2.heap.size (.slice A3 n c3) (R_ChoiceAnswer_0 (ds, z) xs t)) := Lib.hid (by rw [HE.out]; exact ho.widen HB1.out.size (Nat.le_refl _))
  have HB2 : Hid (Below w.heap.size w w2) := Lib.hid (HB1.out.trans (hb.mono HB1.out.size))
  clear ho hb
  go_wp2
  go_ret2
  exact ⟨_, ret_vb HF.out.symm, HO.out, HB2.out⟩
theorem X_i_ChoiceAnswer (v v' : Value) (d : List Int × Int) (xs : List Int) (t : Int) (w : World) (h : RdDeal w w.heap.size v d) (h' : RdIntS w w.heap.size v' xs) (hs : szDeal d ≤ 1048576) (hs' : szIntS xs ≤ 1048576) :
    Calls Try.prog 35 #[v, v', .int .i64 t] w fun e w' => ∃ g, e = .returned (.tuple #[g, .bool (R_ChoiceAnswer_1 d xs t)]) ∧ OwIntS w' w.heap.size w'.heap.size g (R_ChoiceAnswer_0 d xs t) ∧ Below w.heap.size w w' := by
  obtain ⟨A, n, c, rfl, B, k, q, hv, _, hr⟩ := h
  injection hv with h1 h2 h3
  subst h1 h2 h3
  obtain ⟨A', n', c', rfl, _, r⟩ := h'
  have hl := hr.len
  exact i_ChoiceAnswer A n c d.2 d.1 A' n' c' xs t w hr (by unfold szDeal szIntS at hs; omega) r (by have := r.len; unfold szIntS at hs'; omega)
end Go.Proofs.Ytpejigfndkdhcaa

/- Chapter 11: the program's ChoiceMasks. -/
namespace Go.Proofs.Ytpejigfndkdhcaa
open Go.RowKit
set_option maxRecDepth 100000

def sameB (xs ys : List Int) (c : Int) : Bool := decide (xs.getD c.toNat 0 = ys.getD c.toNat 0)
def R_ChoiceMasks_1 (d : List Int × Int) (c : Int) (xs ys : List Int) : Bool := askB d c && (thingsB d xs && (thingsB d ys && sameB xs ys c))
def R_ChoiceMasks_0 (d : List Int × Int) (c : Int) (xs ys : List Int) : List Int :=
  if R_ChoiceMasks_1 d c xs ys = true then mapK (fun x y => x - y) (mapK (fun x y => x + y) d.1 (atT xs (askV d c) d.1.length) d.1.length) (atT ys (askV d c) d.1.length) d.1.length else []
theorem eg_taking1 (args : Array Value) (W : World) : (callFunc 116 args).run Try.prog W = .ok (.enter 116 args) W := by kernel_rfl
theorem mapK_nums (op : Int → Int → Int) (xs : List Int) (ms : Nat → Int) (k : Nat) : Nums (mapK op xs ms k) := by
  induction k with
  | zero => intro j; simp [mapK]
  | succ k ih =>
    intro j
    have hl := mapK_length op xs ms k
    rw [mapK]
    by_cases h : j < k
    · rw [List.getD_eq_getElem?_getD, List.getElem?_append_left (by omega), ← List.getD_eq_getElem?_getD]; exact ih j
    · rw [List.getD_eq_getElem?_getD, List.getElem?_append_right (by omega), ← List.getD_eq_getElem?_getD, hl]
      cases hj : j - k with
      | zero => simp only [List.getD_cons_zero, mapE]; omega
      | succ m => simp

end Go.Proofs.Ytpejigfndkdhcaa

/- Chapter 11: the model's ChoiceMasks. -/
namespace Go.Proofs.Ytpejigfndkdhcaa
open Go.RowKit
set_option maxRecDepth 100000

theorem set_map {n : Nat} (f g : Nat → Int) {k : Nat} (h : ∀ j, j < n → j ≠ k → g j = f j) : ((List.range n).map f).set k (g k) = (List.range n).map g := by
  apply List.ext_getElem
  · simp
  · intro i h1 h2
    simp only [List.length_set, List.length_map, List.length_range] at h1
    rw [List.getElem_set]
    by_cases e : k = i
    · subst e; simp
    · rw [if_neg e]; simp [h i h1 (fun q => e q.symm)]
theorem mapK_map (op : Int → Int → Int) (xs : List Int) (ms : Nat → Int) (k : Nat) : mapK op xs ms k = (List.range k).map (mapE op xs ms) := by
  induction k with
  | zero => rfl
  | succ k ih => rw [mapK, ih, List.range_succ, List.map_append]; rfl
theorem mapK_at (op : Int → Int → Int) (xs : List Int) (ms : Nat → Int) {k n : Nat} (h : k < n) : (mapK op xs ms n).getD k 0 = mapE op xs ms k := by
  rw [mapK_map, List.getD_eq_getElem?_getD, List.getElem?_map, List.getElem?_range h]; rfl
theorem turn1 {n k v : Int} (hk : 0 ≤ k) (hn : k < n) : ((k + v) % n - v) % n = k := by
  have := Int.emod_add_emod (k + v) n (-v)
  rw [show (k + v) % n - v = (k + v) % n + -v by omega, this, show k + v + -v = k by omega, Int.emod_eq_of_lt hk hn]
theorem turn2 {n j v : Int} (hj : 0 ≤ j) (hn : j < n) : ((j - v) % n + v) % n = j := by
  rw [Int.emod_add_emod, show j - v + v = j by omega, Int.emod_eq_of_lt hj hn]
def valM (ds xs ys : List Int) (v : Int) (n : Nat) : Nat → Int := mapE (fun x y => x - y) (mapK (fun x y => x + y) ds (atT xs v n) n) (atT ys v n)
def turnL (ds xs ys : List Int) (v : Int) (n k : Nat) : List Int := (List.range n).map fun (j : Nat) => if ((j : Int) - v) % n < (k : Int) then valM ds xs ys v n j else 0
theorem turnL_zero (ds xs ys : List Int) (v : Int) (n : Nat) : turnL ds xs ys v n 0 = List.replicate n 0 := by
  rw [turnL]
  apply List.ext_getElem
  · simp
  · intro i h1 h2
    simp only [List.length_replicate] at h2
    have := Int.emod_nonneg ((i : Int) - v) (show (n : Int) ≠ 0 by omega)
    simp; omega
theorem turnL_all (ds xs ys : List Int) (v : Int) (n : Nat) : turnL ds xs ys v n n = mapK (fun x y => x - y) (mapK (fun x y => x + y) ds (atT xs v n) n) (atT ys v n) n := by
  rw [turnL, mapK_map _ _ (atT ys v n)]
  apply List.ext_getElem
  · simp
  · intro i h1 h2
    simp only [List.length_map, List.length_range] at h2
    have := Int.emod_lt_of_pos ((i : Int) - v) (show (0 : Int) < n by omega)
    simp only [List.getElem_map, List.getElem_range]
    rw [if_pos this]; rfl
theorem turnL_step (ds xs ys : List Int) (v : Int) {n k j : Nat} (hk : k < n) (hj : ((k : Int) + v) % n = (j : Int)) :
    (turnL ds xs ys v n k).set j ((ds.getD j 0 + (xs.getD k 0 - ys.getD k 0) % 113) % 113) = turnL ds xs ys v n (k + 1) := by
  have t1 := turn1 (n := n) (k := k) (v := v) (by omega) (by omega)
  rw [hj] at t1
  have jn : j < n := by have := Int.emod_lt_of_pos ((k : Int) + v) (show (0 : Int) < n by omega); omega
  have hv : (ds.getD j 0 + (xs.getD k 0 - ys.getD k 0) % 113) % 113 = (fun i : Nat => if ((i : Int) - v) % n < (k + 1 : Nat) then valM ds xs ys v n i else 0) j := by
    show _ = if ((j : Int) - v) % n < (k + 1 : Nat) then valM ds xs ys v n j else 0
    rw [t1, if_pos (by omega), valM, mapE, mapK_at _ _ _ jn, mapE, atT, atT, t1, Int.toNat_natCast]
    omega
  rw [hv, turnL]
  refine set_map (fun j : Nat => if ((j : Int) - v) % n < (k : Int) then valM ds xs ys v n j else 0) (fun i : Nat => if ((i : Int) - v) % n < ((k + 1 : Nat) : Int) then valM ds xs ys v n i else 0) (k := j) fun i hi hne => ?_
  show (if ((i : Int) - v) % n < ((k + 1 : Nat) : Int) then valM ds xs ys v n i else 0) = (if ((i : Int) - v) % n < (k : Int) then valM ds xs ys v n i else 0)
  have t2 := turn2 (n := n) (j := i) (v := v) (by omega) (by omega)
  have hne2 : ((i : Int) - v) % n ≠ k := fun q => hne (by rw [q, hj] at t2; omega)
  by_cases h : ((i : Int) - v) % n < (k : Int)
  · rw [if_pos h, if_pos (by omega)]
  · rw [if_neg h, if_neg (by omega)]
end Go.Proofs.Ytpejigfndkdhcaa

/- Chapter 11: what P63, P67 say. No word of a program. -/
namespace Go.Proofs.Ytpejigfndkdhcaa
open Go.RowKit
set_option maxRecDepth 100000

theorem answer_take {d xs : List Int} {pl t : Int} {i : Nat} (h : R_ChoiceAnswer_1 (d, pl) xs t = true) (hi : i < xs.length) :
    takeB (R_ChoiceAnswer_0 (d, pl) xs t) i (d.getD (((i : Int) + t) % xs.length).toNat 0) = true ∧ takeV (R_ChoiceAnswer_0 (d, pl) xs t) i (d.getD (((i : Int) + t) % xs.length).toNat 0) = xs.getD i 0 := by
  have hh := h
  unfold R_ChoiceAnswer_1 thingsB dealB at hh
  simp only [Bool.and_eq_true, decide_eq_true_eq, inB_iff] at hh
  obtain ⟨⟨⟨⟨n2, n8⟩, hd, p0, p1⟩, hl, hx⟩, t0, t1⟩ := hh
  have e : R_ChoiceAnswer_0 (d, pl) xs t = mapK (fun x y => x + y) xs (atM d t d.length) d.length := by unfold R_ChoiceAnswer_0; rw [if_pos h]
  rw [e, hl]
  have hi2 : i < d.length := by omega
  have ge : (mapK (fun x y => x + y) xs (atM d t d.length) d.length).getD i 0 = (xs.getD i 0 + d.getD (((i : Int) + t) % d.length).toNat 0) % 113 := by
    rw [mapK_at _ _ _ hi2]; rfl
  have hM := nums_of_B hd (((i : Int) + t) % d.length).toNat
  have hX := nums_of_B hx i
  generalize d.getD (((i : Int) + t) % d.length).toNat 0 = m at *
  have hB : takeB (mapK (fun x y => x + y) xs (atM d t d.length) d.length) i m = true := by
    unfold takeB
    rw [mapK_length, inB_t ⟨n2, n8⟩, inB_t ⟨by omega, by omega⟩, (numB_iff m).2 hM]
    have : numsB (mapK (fun x y => x + y) xs (atM d t d.length) d.length) = true := by
      rw [mapK_map]
      unfold numsB
      rw [List.all_eq_true]
      intro z hz
      obtain ⟨j, _, rfl⟩ := List.mem_map.1 hz
      exact (numB_iff _).2 (by unfold mapE; omega)
    rw [this]; rfl
  refine ⟨hB, ?_⟩
  unfold takeV
  rw [if_pos hB, Int.toNat_natCast, ge]
  omega
theorem choice_whole {d a : List Int} {pl : Int} {k : Int} (hB : askB (d, pl) k = true) (hl : a.length = d.length) (ha : numsB a = true) :
    R_ChoiceAnswer_1 (d, pl) a (askV (d, pl) k) = true ∧ takeB (R_ChoiceAnswer_0 (d, pl) a (askV (d, pl) k)) k (d.getD pl.toNat 0) = true ∧ takeV (R_ChoiceAnswer_0 (d, pl) a (askV (d, pl) k)) k (d.getD pl.toNat 0) = a.getD k.toNat 0 ∧ (0 ≤ pl ∧ pl < d.length) ∧ (0 ≤ k ∧ k < d.length) := by
  have hh := hB
  unfold askB dealB at hh
  simp only [Bool.and_eq_true, inB_iff] at hh
  obtain ⟨⟨⟨n2, n8⟩, hd, p0, p1⟩, k0, k1⟩ := hh
  have hv : askV (d, pl) k = (pl - k) % d.length := by unfold askV; rw [if_pos hB]
  have bd := emod_bd (pl - k) (show 0 < (d.length : Int) by omega)
  have h1 : R_ChoiceAnswer_1 (d, pl) a (askV (d, pl) k) = true := by
    unfold R_ChoiceAnswer_1 thingsB dealB
    rw [hv, inB_t ⟨n2, n8⟩, hd, inB_t ⟨p0, p1⟩, decide_eq_true hl, ha, inB_t ⟨bd.1, by show _ ≤ (d.length : Int) - 1; omega⟩]; rfl
  obtain ⟨j, rfl⟩ := Int.eq_ofNat_of_zero_le k0
  have hj : j < a.length := by omega
  have ht := answer_take h1 hj
  have e : ((j : Int) + askV (d, pl) j) % (a.length : Int) = pl := by
    rw [hv, hl, Int.add_comm]
    exact turn2 p0 (by omega)
  rw [e] at ht
  exact ⟨h1, ht.1, by rw [ht.2]; rfl, ⟨p0, by omega⟩, ⟨by omega, by omega⟩⟩
end Go.Proofs.Ytpejigfndkdhcaa

/- Comparisons of lists in the plain laws. Made by tools/plain/p10.py. -/
namespace Go.Proofs.Ytpejigfndkdhcaa
open Go.RowKit
set_option maxRecDepth 100000
set_option maxHeartbeats 400000 in
theorem u_uvIntsQ2 (A A' : Option Addr) (n c c' : Nat) (d : List Int) (w : World) (h : Rd w w.heap.size 1 A n (cI d)) (h' : Rd w w.heap.size 1 A' n (cI d)) (hn : n ≤ 1048576) :
    Calls Try.prog 37 #[.slice A n c, .slice A' n c'] w fun e w' => e = .returned (.bool true) ∧ ∃ m, w' = w.drewN m := by
  have H := Lib.hid h
  have H' := Lib.hid h'
  clear h h'
  go_enter Try.func37, Try.ntmps37
  go_wp2
  go_loopw [5] (fun i wr => ∃ k m : Nat, k ≤ n ∧ i = .int .i64 k ∧ wr = w.drewN m) (fun i _ => n - (intOf i).toNat)
  case atStart => exact ⟨0, 0, Nat.zero_le _, rfl, rfl⟩
  case round =>
    obtain ⟨k, m, hk, rfl, rfl⟩ := hrel
    by_cases hlt : k < n
    · obtain ⟨a, x, rfl, hab, hx, HP⟩ := H.out.intAt hlt
      obtain ⟨a', x', rfl, hab', hx', HP'⟩ := H'.out.intAt hlt
      obtain rfl : x' = x := by rw [HP.out, HP'.out]
      have i0 : (0 : Int) ≤ (k : Int) := by omega
      have i1 : (k : Int) < (n : Int) := by omega
      clear HP HP'
      go_wp2
      go_quiet (fail)
      go_wp2
      go_roundw
      case rel => exact ⟨k + 1, _, by omega, by go_num, rfl⟩
      case measure => simp [intOf] <;> omega
    · go_wp2
      go_ret
      exact ⟨rfl, _, rfl⟩

theorem U_uvInts2 (hi hi' : Nat) (v v' : Value) (d : List Int) (w : World) (h : RdIntS w hi v d) (h' : RdIntS w hi' v' d) (hh : hi ≤ w.heap.size) (hh' : hi' ≤ w.heap.size) (hs : szIntS d ≤ 1048576) :
    Calls Try.prog 37 #[v, v'] w fun e w' => e = .returned (.bool true) ∧ Below w.heap.size w w' := by
  obtain ⟨A, n, c, rfl, _, r⟩ := h
  obtain ⟨A', n', c', rfl, _, r'⟩ := h'
  have hl := r.len
  have hl' := r'.len
  obtain rfl : n' = n := by omega
  unfold szIntS at hs
  exact (u_uvIntsQ2 A A' _ c c' d w (r.more hh) (r'.more hh') (by omega)).mono fun _ _ ⟨he, m, hm⟩ => ⟨he, by rw [hm]; exact below_drewN (Below.refl _ _) _⟩
theorem rdI_d {w : World} {v : Value} {d : List Int} (h : RdIntS w w.heap.size v d) : RdIntS w.drew w.drew.heap.size v d := h.below (below_drewN (Below.refl _ _) 1)
end Go.Proofs.Ytpejigfndkdhcaa

/- P53, P67: the laws' walks. Made by tools/plain/p10.py. -/
namespace Go.Proofs.Ytpejigfndkdhcaa
open Go.RowKit
set_option maxRecDepth 100000

set_option maxHeartbeats 4000000 in
theorem P63_walk (A : Option Addr) (n c : Nat) (bs : List Int) (w : World) (h : Rd w w.heap.size 1 A n (cU bs)) (hby : Byt bs) (hc : n ≤ c) (hm : n ≤ 9223372036854775807) :
    Calls Try.prog 8 #[.slice A n c] w fun e w' => e = .returned (.bool true) ∧ Below w.heap.size w w' := by
  by_cases hn : n ≤ 1048576
  · have h3 : ¬ ((1048576 : Int) < (n : Int)) := by omega
    have H := Lib.hid h
    clear h
    go_enter Try.func8, Try.ntmps8
    go_wp2_with fail
    refine (d_DrawChoiceAnswer _ _ _ _ _ H.out hby hn hc).mono ?_
    rintro e w1 ⟨Am, nm, cm, pl, d, va, a, t, rfl, h_d, h_a, ⟨t0, t1⟩, hb⟩
    have z1 : w.heap.size ≤ w1.heap.size := hb.size
    have HB := Lib.hid hb
    have HO_d := Lib.hid h_d
    have HO_a := Lib.hid h_a
    clear hb h_d h_a
    go_wp2_with fail
    obtain ⟨w2, hW2⟩ : ∃ W, Hid (w1.alloc (.cells #[.slice Am nm cm, .int .i64 pl] 52) = W) := ⟨_, Lib.hid rfl⟩
    try rw [hW2.out]
    have z2 : w1.heap.size < w2.heap.size := by rw [← hW2.out, World.size_alloc]; omega
    have ha2 : Below w1.heap.size w1 w2 := by rw [← hW2.out]; exact (Below.refl _ _).alloc (Nat.le_refl _) _
    replace HO_d := Lib.hid (HO_d.out.below ha2 (by omega))
    replace HO_a := Lib.hid (HO_a.out.below ha2 (by omega))
    have HX_x : Hid (Bx w2 w1.heap.size #[.slice Am nm cm, .int .i64 pl] 52) := Lib.hid (by rw [← hW2.out]; exact Bx.new _ _ _)
    replace HB := Lib.hid (HB.out.trans (ha2.mono (by omega)))
    clear ha2 hW2
    refine (X_i_ChoiceAnswer _ _ (d, pl) a t _ ⟨_, _, _, rfl, HO_d.out.rd.more (by omega)⟩ (HO_a.out.rd.more (by omega)) (show szDeal (d, pl) ≤ 1048576 from HO_d.out.small) HO_a.out.small).mono ?_
    rintro e w3 ⟨vg, rfl, h_g, hb⟩
    have z3 : w2.heap.size ≤ w3.heap.size := hb.size
    replace HO_d := Lib.hid (HO_d.out.below hb (by omega))
    replace HO_a := Lib.hid (HO_a.out.below hb (by omega))
    replace HX_x := Lib.hid (HX_x.out.below hb HX_x.out.lt)
    replace HB := Lib.hid (HB.out.trans (hb.mono (by omega)))
    have HO_g := Lib.hid h_g
    clear hb h_g
    have fc4 : w3.cell? ⟨w1.heap.size, 0, none⟩ = some (.slice Am nm cm) := HX_x.out.cell 0
    have fc5 : w3.cell? ⟨w1.heap.size, 1, none⟩ = some (.int .i64 pl) := HX_x.out.cell 1
    go_wp2_with fail
    clear fc4 fc5
    refine (X_s_ChoiceAnswer _ _ (d, pl) a t _ ⟨_, _, _, rfl, HO_d.out.rd.more (by omega)⟩ (HO_a.out.rd.more (by omega)) (show szDeal (d, pl) ≤ 1048576 from HO_d.out.small) HO_a.out.small).mono ?_
    rintro e w6 ⟨vk, rfl, h_k, hb⟩
    have z6 : w3.heap.size ≤ w6.heap.size := hb.size
    replace HO_d := Lib.hid (HO_d.out.below hb (by omega))
    replace HO_a := Lib.hid (HO_a.out.below hb (by omega))
    replace HO_g := Lib.hid (HO_g.out.below hb (by omega))
    replace HX_x := Lib.hid (HX_x.out.below hb HX_x.out.lt)
    replace HB := Lib.hid (HB.out.trans (hb.mono (by omega)))
    have HO_k := Lib.hid h_k
    clear hb h_k
    have fc7 : w6.cell? ⟨w1.heap.size, 0, none⟩ = some (.slice Am nm cm) := HX_x.out.cell 0
    have fc8 : w6.cell? ⟨w1.heap.size, 1, none⟩ = some (.int .i64 pl) := HX_x.out.cell 1
    go_wp2_with fail
    clear fc7 fc8
    refine (U_uvInts2 _ _ _ _ _ _ HO_g.out.rd HO_k.out.rd (by omega) (by omega) HO_g.out.small).mono ?_
    rintro e w9 ⟨rfl, hb⟩
    have z9 : w6.heap.size ≤ w9.heap.size := hb.size
    replace HO_d := Lib.hid (HO_d.out.below hb (by omega))
    replace HO_a := Lib.hid (HO_a.out.below hb (by omega))
    replace HO_g := Lib.hid (HO_g.out.below hb (by omega))
    replace HO_k := Lib.hid (HO_k.out.below hb (by omega))
    replace HX_x := Lib.hid (HX_x.out.below hb HX_x.out.lt)
    replace HB := Lib.hid (HB.out.trans (hb.mono (by omega)))
    clear hb
    cases hB : R_ChoiceAnswer_1 (d, pl) a t
    · have fc10 : w9.cell? ⟨w1.heap.size, 0, none⟩ = some (.slice Am nm cm) := HX_x.out.cell 0
      have fc11 : w9.cell? ⟨w1.heap.size, 1, none⟩ = some (.int .i64 pl) := HX_x.out.cell 1
      go_wp2
      go_ret
      exact ⟨rfl, HB.out⟩
    have HQ := Lib.hid (fun (i : Nat) (hi : i < a.length) => answer_take hB hi)
    have hh := hB
    unfold R_ChoiceAnswer_1 thingsB dealB at hh
    simp only [Bool.and_eq_true, decide_eq_true_eq, inB_iff] at hh
    obtain ⟨⟨⟨⟨n2, n8⟩, _, p0, p1⟩, hl, hx⟩, t2, t3⟩ := hh
    have hgl : (R_ChoiceAnswer_0 (d, pl) a t).length = d.length := by unfold R_ChoiceAnswer_0; rw [if_pos hB, mapK_length]
    obtain ⟨_, A1, n1, c1, e1, od⟩ := HO_d.out
    injection e1 with g1 g2 g3
    subst g1 g2 g3
    have hdl := od.len
    have HRD := Lib.hid (od.rd.more (show _ ≤ w9.heap.size by omega))
    obtain ⟨_, A2, na, c2, e2, oa⟩ := HO_a.out
    subst e2
    have hna := oa.len
    have HRA := Lib.hid (oa.rd.more (show _ ≤ w9.heap.size by omega))
    obtain ⟨_, A3, ng, c3, e3, og⟩ := HO_g.out
    subst e3
    have hng := og.len
    obtain rfl : na = nm := by omega
    obtain rfl : ng = na := by omega
    clear od oa og hB hx
    have HBZ := Lib.hid (Below.refl w9.heap.size w9)
    have fl0 : w9.cell? ⟨w1.heap.size, 0, none⟩ = some (.slice Am ng cm) := HX_x.out.cell 0
    have fl1 : w9.cell? ⟨w1.heap.size, 1, none⟩ = some (.int .i64 pl) := HX_x.out.cell 1
    go_wp2
    clear fl0 fl1
    go_loopw [11] (fun i wr => ∃ k : Nat, k ≤ ng ∧ i = .int .i64 k ∧ Hid (Below w9.heap.size w9 wr)) (fun i _ => ng - (intOf i).toNat)
    case atStart => exact ⟨0, Nat.zero_le _, rfl, HBZ⟩
    case round =>
      clear HBZ
      obtain ⟨k, hk, rfl, HBB⟩ := hrel
      by_cases hlt : k < ng
      · have bd := emod_bd ((k : Int) + t) (show 0 < (ng : Int) by omega)
        obtain ⟨j, hj⟩ : ∃ j : Nat, ((k : Int) + t) % ng = (j : Int) := ⟨(((k : Int) + t) % ng).toNat, by omega⟩
        have hjn : j < ng := by omega
        obtain ⟨am, m, hAm, ham, hcm0, HM⟩ := HRD.out.intAt hjn
        subst hAm
        obtain ⟨aa, x, hAa, haa, hcx0, HXx⟩ := HRA.out.intAt hlt
        subst hAa
        have hcm := (HBB.out.cell (p := am.add j) (by rw [add_block]; exact ham)).trans hcm0
        have hq := HQ.out k (by omega)
        rw [show (a.length : Int) = (ng : Int) by omega, hj, Int.toNat_natCast, ← HM.out, ← HXx.out] at hq
        have HQ2 := Lib.hid hq
        have hcx := (HBB.out.cell (p := aa.add k) (by rw [add_block]; exact haa)).trans hcx0
        have HCX := Lib.hid hcx
        have HCX0 := Lib.hid hcx0
        have hxx := HX_x.out.below HBB.out HX_x.out.lt
        have zw := HBB.out.size
        have HRG : Hid (RdIntS wr wr.heap.size (.slice A3 ng c3) (R_ChoiceAnswer_0 (d, pl) a t)) := Lib.hid ((HO_g.out.rd.more (by omega)).below HBB.out |>.more zw)
        have f0 : wr.cell? ⟨w1.heap.size, 0, none⟩ = some (.slice (some am) ng cm) := hxx.cell 0
        have f1 : wr.cell? ⟨w1.heap.size, 1, none⟩ = some (.int .i64 pl) := hxx.cell 1
        have j0 : (0 : Int) ≤ (j : Int) := by omega
        have j1 : (j : Int) < (ng : Int) := by omega
        have i0 : (0 : Int) ≤ (k : Int) := by omega
        have i1 : (k : Int) < (ng : Int) := by omega
        have nz : ((ng : Int) == 0) = false := by rw [beq_eq_false_iff_ne]; omega
        have nz2 : ¬ (ng : Int) = 0 := by omega
        have nz3 : ¬ ng = 0 := by omega
        have iw : IntKind.i64.wrap ((k : Int) + t) = (k : Int) + t := IntWalk.i64_in _ (by omega)
        have im : ((k : Int) + t).tmod (ng : Int) = (j : Int) := by rw [Int.tmod_eq_emod_of_nonneg (by omega)]; exact hj
        have iz : IntKind.i64.wrap (j : Int) = (j : Int) := IntWalk.i64_in _ (by omega)
        have SMG := HO_g.out.small
        clear hq hcx hcx0 hcm0 bd hj HM HXx hxx
        have stq0 : True := trivial
        go_wp2
        go_region_held3 (fun w' => w'.cell? ⟨w1.heap.size, 0, none⟩ = some (.slice (some am) ng cm) ∧ w'.cell? (am.add j) = some (.int .i64 m))
          (first | exact ⟨f0, hcm⟩ | go_keep)
          (first
           | (have stq1 := stq0
              clear stq0
              go_at_call 38
              refine (X_i_ChoiceTake _ (R_ChoiceAnswer_0 (d, pl) a t) (k : Int) m _ (rdI_d HRG.out) SMG).mono ?_
              rintro e u1 ⟨rfl, hb⟩
              rw [HQ2.out.1, HQ2.out.2]
              replace f0 : u1.cell? ⟨w1.heap.size, 0, none⟩ = some (.slice (some am) ng cm) := (hb.cell (p := ⟨w1.heap.size, 0, none⟩) (show w1.heap.size < wr.heap.size by omega)).trans f0
              replace hcm : u1.cell? (am.add j) = some (.int .i64 m) := (hb.cell (p := am.add j) (by rw [add_block]; exact Nat.lt_of_lt_of_le ham zw)).trans hcm))
        all_goals
          have hbd : Below wr.heap.size wr u1 := (below_drewN (Below.refl _ _) 1).trans hb
          have HB2 : Hid (Below w9.heap.size w9 u1) := Lib.hid (HBB.out.trans (hbd.mono zw))
          have hcx := (HB2.out.cell (p := aa.add k) (by rw [add_block]; exact haa)).trans HCX0.out
          clear f0 f1 hcm hb hbd iw im iz
          go_wp2
          go_roundw
          case rel => exact ⟨k + 1, by omega, by go_num, HB2⟩
          case measure => simp [intOf] <;> omega
      · obtain rfl : k = ng := by omega
        have HBF := Lib.hid (HB.out.trans (HBB.out.mono (by omega)))
        go_wp2
        go_ret
        exact ⟨rfl, HBF.out⟩
  · have h3 : (1048576 : Int) < (n : Int) := by omega
    go_enter Try.func8, Try.ntmps8
    go_wp2
    go_ret
    exact ⟨rfl, Below.refl _ _⟩
end Go.Proofs.Ytpejigfndkdhcaa

/- An argument of type []byte, opened. -/
namespace Go.Proofs.Ytpejigfndkdhcaa
open Go.RowKit
set_option maxRecDepth 100000

section
open Go.ChangeShapes Go.WideShapes Go.ChangeAt Go.RowKit
/-- an argument of type []byte: a list of bytes that reads -/
theorem open_byteS {H : Type} {enc : TypeId × Value → H} {P : Program} {w : World} {b0 : Nat} {t e : TypeId} {r : Reach} {v : Value} {d : DataW H} {ps : List MemPlace} (ht : P.underlying t = some (.slice e)) (he : P.underlying e = some (.int .u8)) (hc : P.cellsOf e = 1)
    (hv : Value.okWide P w r b0 t v) (h : DataW.Trod enc P w 0 (fun _ => true) true t v d ps) :
    ∃ A n c zs, v = .slice A n c ∧ n ≤ 9223372036854775807 ∧ n ≤ c ∧ Rd w w.heap.size 1 A n (cU zs) ∧ Byt zs := by
  obtain ⟨A, n, c, rfl⟩ : ∃ A n c, v = .slice A n c := by
    cases v <;> simp [Value.okWide, ht, Cell.okWide, Cell.ok] at hv
    exact ⟨_, _, _, rfl⟩
  obtain ⟨fuel, hf⟩ := h
  rcases open_ints ht he hc hf with ⟨hn, _⟩ | ⟨a, len, cap, zs, hs, _, hlc, hm, hlen, _, hcell, hwz⟩
  · simp [Value.cells] at hn
    obtain ⟨rfl, rfl, rfl⟩ := hn
    exact ⟨_, _, _, [], rfl, by omega, Nat.le_refl _, ⟨by simp [cU], fun h => by omega⟩, fun j => by simp⟩
  · simp [Value.cells] at hs
    obtain ⟨rfl, rfl, rfl⟩ := hs
    simp only [if_true] at hlen
    unfold maxLen at hm
    have hby : Byt zs := fun j => by
      by_cases hj : j < zs.length
      · have hw := hwz zs[j] (List.getElem_mem hj)
        simp only [Lit.wf, IntKind.min, IntKind.max, IntKind.signed, IntKind.bits, Bool.and_eq_true] at hw
        simp [hj]
        simp at hw
        omega
      · simp [List.getElem?_eq_none (show zs.length ≤ j by omega)]
    refine ⟨_, _, _, zs.take n, rfl, by omega, by omega, ⟨by rw [cU_length, List.length_take]; omega, fun hn => ⟨a, rfl, ?_, fun j u hu => ?_⟩⟩, hby.take _⟩
    · have := hcell 0 (by omega)
      exact World.block_lt_of_cell? (a := a.add 0) _ this
    · have hj : j < n := by
        have := (List.getElem?_eq_some_iff.1 hu).1
        rw [cU_length, List.length_take] at this; omega
      simp only [cU, List.map_take, List.getElem?_take, if_pos hj, List.getElem?_map, List.getElem?_eq_getElem (show j < zs.length by omega), Option.map_some, Option.some.injEq] at hu
      rw [← hu, hcell j (by omega)]
      simp [show j < zs.length by omega]
end
end Go.Proofs.Ytpejigfndkdhcaa
