/- Chapter 2: division in the program. -/
import Derived.Test.YtpdkkfbnfjfmhaaMath2b
namespace Go.Proofs.Ytpdkkfbnfjfmhaa
open Go.RowKit
set_option maxRecDepth 100000

/-- t steps of a division, from the greatest power on: what is left, and the quotient -/
def divK (zs ys : List Int) (inv : Int) (N : Nat) : Nat → List Int × List Int
  | 0 => (zs, List.replicate N 0)
  | t + 1 =>
    let p := divK zs ys inv N t
    let by_ := p.1.getD (N - 1 - t + ys.length - 1) 0 * inv % 113
    (addAtK p.1 (N - 1 - t) ys ((0 - by_) % 113) ys.length, p.2.set (N - 1 - t) by_)
theorem divK_length1 (zs ys : List Int) (inv : Int) (N t : Nat) : (divK zs ys inv N t).1.length = zs.length := by
  induction t with
  | zero => rfl
  | succ t ih => simp only [divK, addAtK_length, ih]
theorem divK_length2 (zs ys : List Int) (inv : Int) (N t : Nat) : (divK zs ys inv N t).2.length = N := by
  induction t with
  | zero => simp [divK]
  | succ t ih => simp only [divK, List.length_set, ih]
theorem divK_nums1 {zs : List Int} (hz : Nums zs) (ys : List Int) (inv : Int) (N t : Nat) : Nums (divK zs ys inv N t).1 := by
  induction t with
  | zero => exact hz
  | succ t ih => exact nums_addAtK ih _ _ _ _
theorem divK_nums2 (zs ys : List Int) (inv : Int) (N t : Nat) : Nums (divK zs ys inv N t).2 := by
  induction t with
  | zero => exact nums_zeros N
  | succ t ih => exact nums_set ih _ _ (by omega) (by omega)
def divN (zs ys : List Int) : Nat := zs.length + 1 - ys.length
def divInv (ys : List Int) : Int := powI (ys.getD (ys.length - 1) 0) 111 113
def divQ (zs ys : List Int) : List Int := trimL (divK zs ys (divInv ys) (divN zs ys) (divN zs ys)).2
def divR (zs ys : List Int) : List Int := trimL (divK zs ys (divInv ys) (divN zs ys) (divN zs ys)).1
theorem pad_self {zs : List Int} {n : Nat} (h : zs.length = n) : padL zs n = zs := by simp [padL, h]

set_option maxHeartbeats 2000000 in
theorem i_divide (A A' : Option Addr) (n c n' c' : Nat) (zs ys : List Int) (w : World) (h : Rd w w.heap.size 1 A n (cI zs)) (h' : Rd w w.heap.size 1 A' n' (cI ys)) (hz : Nums zs) (hy : Nums ys)
    (hn : n ≤ 100000) (hn' : n' ≤ 100000) (h0 : 0 < n') :
    Calls Try.prog 40 #[.slice A n c, .slice A' n' c'] w fun e w' => ∃ v1 v2 mid, e = .returned (.tuple #[v1, v2]) ∧ w.heap.size ≤ mid ∧ mid ≤ w'.heap.size ∧ OwIntS w' w.heap.size mid v1 (divQ zs ys) ∧ OwIntS w' mid w'.heap.size v2 (divR zs ys) ∧ Below w.heap.size w w' := by
  have hl := Lib.hid h.len
  have hl' := Lib.hid h'.len
  have H := Lib.hid h
  have H' := Lib.hid h'
  have HZ := Lib.hid hz
  have HY := Lib.hid hy
  clear h h' hz hy
  obtain ⟨l, rfl⟩ : ∃ l, n' = l + 1 := ⟨n' - 1, by omega⟩
  obtain ⟨a', y, rfl, hab', hcy, HQ'⟩ := H'.out.intAt (show l < l + 1 by omega)
  have y0 : 0 ≤ y := by rw [HQ'.out]; exact (HY.out l).1
  have y1 : y ≤ 112 := by rw [HQ'.out]; exact (HY.out l).2
  obtain ⟨N, hN⟩ : ∃ N, N = n - l := ⟨_, rfl⟩
  have N1 : N ≤ n := by omega
  have N2 : N + l ≤ n ∨ N = 0 := by omega
  obtain ⟨inv, hinv⟩ : ∃ inv, inv = powI y 111 113 := ⟨_, rfl⟩
  have v0 : 0 ≤ inv := by rw [hinv]; exact powI_lo _ _ _
  have v1 : inv ≤ 112 := by rw [hinv]; exact powI_hi _ _ _ (by omega)
  have HN : Hid (divN zs ys = N) := Lib.hid (by unfold divN; have := hl.out; have := hl'.out; omega)
  have HI : Hid (divInv ys = inv) := Lib.hid (by unfold divInv; rw [hl'.out, hinv, HQ'.out]; rfl)
  have Hinv := Lib.hid hinv
  have hmk := fun W => run_make1 (P := Try.prog) Try.underlying42 info_int rfl N (by omega) (by omega) W
  have e1 : ((l + 1 : Nat) : Int) - 1 = (l : Int) := by omega
  by_cases hc : l ≤ n
  · have e2 : (N : Int) = (n : Int) - (l : Int) := by omega
    have hmk2 : ∀ W, (Instr.makeSlice 42 (.int .i64 ((n : Int) - (l : Int))) (.int .i64 ((n : Int) - (l : Int)))).run Try.prog W = .ok (.slice (some ⟨W.heap.size, 0, none⟩) N N) (W.alloc (.cells (Array.replicate N (.int .i64 0)) 3)) := fun W => by rw [← e2]; exact hmk W
    clear hmk hN hinv e2
    go_enter Try.func40, Try.ntmps40
    go_wp2_with fail
    refine (i_inverse _ _ y0 y1).mono ?_
    rintro e w' ⟨rfl, rfl⟩
    rw [← Hinv.out]
    have HW0 : Hid (Below w.heap.size w (w.alloc (.cells (Array.replicate N (.int .i64 0)) 3))) := Lib.hid ((Below.refl _ _).alloc (Nat.le_refl _) _)
    have HOq : Hid (Ow (w.alloc (.cells (Array.replicate N (.int .i64 0)) 3)) w.heap.size (w.heap.size + 1) 3 1 (some ⟨w.heap.size, 0, none⟩) N N (cI (List.replicate N 0))) := Lib.hid (by rw [← cI_zeros]; exact Ow.zeros _ _ _ _)
    go_wp2_with fail
    refine (i_padded _ _ _ n _ _ ((H.out.below HW0.out).more (by simp)) (Nat.le_refl _) (by omega)).mono ?_
    rintro e w1 ⟨rfl, ho, hb, hz⟩
    simp only [World.size_alloc] at ho hb hz
    have HOr : Hid (Ow w1 (w.heap.size + 1) (w.heap.size + 2) 3 1 (some ⟨w.heap.size + 1, 0, none⟩) n n (cI zs)) := Lib.hid (by rw [pad_self hl.out] at ho; exact ho)
    have HB : Hid (Below w.heap.size w w1) := Lib.hid (HW0.out.trans (hb.mono (by omega)))
    have HOq1 := Lib.hid (HOq.out.below hb (Nat.le_refl _))
    have HS : Hid (w.heap.size + 2 ≤ w1.heap.size) := Lib.hid (by omega)
    clear ho hb hz HOq HW0
    simp only [World.size_alloc]
    go_wp2
    go_loopw [10] (fun i wr => ∃ k : Int, -1 ≤ k ∧ k < N ∧ i = .int .i64 k ∧ Hid (Ow wr w.heap.size (w.heap.size + 1) 3 1 (some ⟨w.heap.size, 0, none⟩) N N (cI (divK zs ys inv N (N - (k + 1).toNat)).2)) ∧ Hid (Ow wr (w.heap.size + 1) (w.heap.size + 2) 3 1 (some ⟨w.heap.size + 1, 0, none⟩) n n (cI (divK zs ys inv N (N - (k + 1).toNat)).1)) ∧ Hid (Below w.heap.size w wr) ∧ Hid (w.heap.size + 2 ≤ wr.heap.size)) (fun i _ => (intOf i + 1).toNat)
    case atStart => exact ⟨(N : Int) - 1, by omega, by omega, rfl, Lib.hid (by rw [show N - (((N : Int) - 1) + 1 : Int).toNat = 0 by omega]; exact HOq1.out), Lib.hid (by rw [show N - (((N : Int) - 1) + 1 : Int).toNat = 0 by omega]; exact HOr.out), HB, HS⟩
    case round =>
      clear HOq1 HOr HB HS
      obtain ⟨k, k0, k1, rfl, HQ, HR, HB, HS⟩ := hrel
      by_cases hlt : 0 ≤ k
      · obtain ⟨j, rfl⟩ := Int.eq_ofNat_of_zero_le hlt
        have hj : j < N := by omega
        rw [show ((j : Int) + 1).toNat = j + 1 by omega] at HQ HR
        obtain ⟨t, ht⟩ : ∃ t, t = N - (j + 1) := ⟨_, rfl⟩
        rw [← ht] at HQ HR
        have Ht : Hid (N - 1 - t = j) := Lib.hid (by omega)
        have Ht2 : Hid (N - j = t + 1) := Lib.hid (by omega)
        clear ht
        obtain ⟨r, hcr, HX⟩ := HR.out.intAt (show j + l < n by omega)
        have r0 : 0 ≤ r := by rw [HX.out]; exact (divK_nums1 HZ.out ys inv N t (j + l)).1
        have r1 : r ≤ 112 := by rw [HX.out]; exact (divK_nums1 HZ.out ys inv N t (j + l)).2
        have i0 : (0 : Int) ≤ (j : Int) + (l : Int) := by omega
        have i1 : (j : Int) + (l : Int) < (n : Int) := by omega
        obtain ⟨q, hq⟩ : ∃ q, q = r * inv % 113 := ⟨_, rfl⟩
        have q0 : 0 ≤ q := by omega
        have q1 : q ≤ 112 := by omega
        have Hq := Lib.hid hq
        clear hq
        obtain ⟨qo, hcq, _⟩ := HQ.out.intAt hj
        have hfq := HQ.out.free (by omega) j
        go_wp2_with fail
        refine (i_times _ _ _ r0 r1 v0 v1).mono ?_
        rintro e w' ⟨rfl, rfl⟩
        rw [← Hq.out]
        have HQ2 : Hid (Ow (wr.setCell ⟨w.heap.size, j, none⟩ (.int .i64 q)) w.heap.size (w.heap.size + 1) 3 1 (some ⟨w.heap.size, 0, none⟩) N N (cI (divK zs ys inv N (t + 1)).2)) := Lib.hid (by
          have := HQ.out.set j (.int .i64 q)
          rw [cI_set] at this
          simp only [divK]
          rw [Ht.out, hl'.out, show j + (l + 1) - 1 = j + l by omega, ← HX.out, ← Hq.out]; exact this)
        have HR2 : Hid (Ow (wr.setCell ⟨w.heap.size, j, none⟩ (.int .i64 q)) (w.heap.size + 1) (w.heap.size + 2) 3 1 (some ⟨w.heap.size + 1, 0, none⟩) n n (cI (divK zs ys inv N t).1)) := Lib.hid (HR.out.kept (((Kept.refl w.heap.size (w.heap.size + 1) wr).setCell (p := ⟨w.heap.size, j, none⟩) (Nat.le_refl _) (Nat.lt_succ_self _) _)) (by exact HS.out) (.inl (Nat.le_refl _)))
        have HB2 : Hid (Below w.heap.size w (wr.setCell ⟨w.heap.size, j, none⟩ (.int .i64 q))) := Lib.hid (HB.out.setCell (p := ⟨w.heap.size, j, none⟩) (Nat.le_refl _) _)
        have HS2 : Hid (w.heap.size + 2 ≤ (wr.setCell ⟨w.heap.size, j, none⟩ (.int .i64 q)).heap.size) := Lib.hid (by rw [World.size_setCell]; exact HS.out)
        clear HQ HR HB HS
        go_wp2_with fail
        refine (i_minus 0 _ _ (by omega) (by omega) q0 q1).mono ?_
        rintro e w' ⟨rfl, rfl⟩
        obtain ⟨x, hx⟩ : ∃ x, x = (0 - q) % 113 := ⟨_, rfl⟩
        have x0 : 0 ≤ x := by omega
        have x1 : x ≤ 112 := by omega
        have Hx := Lib.hid hx
        rw [← hx]
        clear hx
        go_wp2_with fail
        refine (i_addAt _ _ _ _ _ _ _ _ j _ _ _ _ HR2.out ((H'.out.below HB2.out).more (by omega)) (divK_nums1 HZ.out ys inv N t) HY.out HS2.out (by omega) (by omega) x0 x1).mono ?_
        rintro e w2 ⟨rfl, ho2, hk2, hs2⟩
        have HR3 : Hid (Ow w2 (w.heap.size + 1) (w.heap.size + 2) 3 1 (some ⟨w.heap.size + 1, 0, none⟩) n n (cI (divK zs ys inv N (t + 1)).1)) := Lib.hid (by
          simp only [divK]
          rw [Ht.out, hl'.out, show j + (l + 1) - 1 = j + l by omega, ← HX.out, ← Hq.out, ← Hx.out]; exact ho2)
        have HQ3 := Lib.hid (HQ2.out.kept hk2 (by have := HS2.out; omega) (.inr (Nat.le_refl _)))
        have HB3 : Hid (Below w.heap.size w w2) := Lib.hid (HB2.out.trans ((hk2.to_below (by have := HS2.out; omega)).mono (by omega)))
        have HS3 : Hid (w.heap.size + 2 ≤ w2.heap.size) := Lib.hid (by rw [hs2]; exact HS2.out)
        clear ho2 hk2 hs2 HQ2 HR2 HB2 HS2
        go_wp2
        go_roundw
        case rel => exact ⟨(j : Int) - 1, by omega, by omega, rfl, Lib.hid (by rw [show ((j : Int) - 1 + 1).toNat = j by omega, Ht2.out]; exact HQ3.out), Lib.hid (by rw [show ((j : Int) - 1 + 1).toNat = j by omega, Ht2.out]; exact HR3.out), HB3, HS3⟩
        case measure => simp [intOf] <;> omega
      · have HQ2 := HQ.out
        have HR2 := HR.out
        rw [show N - (k + 1).toNat = N by omega] at HQ2 HR2
        have HQ3 := Lib.hid HQ2
        have HR3 := Lib.hid HR2
        clear HQ2 HR2 HQ HR
        go_wp2_with fail
        refine (i_trimmed _ _ _ _ _ _ _ HQ3.out (by omega)).mono ?_
        rintro e w' ⟨v1, rfl, ho1, rfl⟩
        have HT1 := Lib.hid ho1
        clear ho1
        go_wp2_with fail
        refine (i_trimmed _ _ _ _ _ _ _ HR3.out (by omega)).mono ?_
        rintro e w' ⟨v2, rfl, ho2, rfl⟩
        have HT2 := Lib.hid ho2
        clear ho2
        go_wp2
        go_ret2
        refine ⟨v1, v2, w.heap.size + 1, rfl, by omega, by have := HS.out; omega, ?_, ?_, HB.out⟩
        · unfold divQ; rw [HI.out, HN.out]; exact HT1.out
        · unfold divR; rw [HI.out, HN.out]; exact HT2.out.widen (Nat.le_refl _) HS.out
  · obtain rfl : N = 0 := by omega
    simp only [Int.natCast_zero] at hmk
    clear hN hinv N1 N2
    go_enter Try.func40, Try.ntmps40
    go_wp2_with fail
    refine (i_inverse _ _ y0 y1).mono ?_
    rintro e w' ⟨rfl, rfl⟩
    rw [← Hinv.out]
    have HW0 : Hid (Below w.heap.size w (w.alloc (.cells (Array.replicate 0 (.int .i64 0)) 3))) := Lib.hid ((Below.refl _ _).alloc (Nat.le_refl _) _)
    have HOq : Hid (Ow (w.alloc (.cells (Array.replicate 0 (.int .i64 0)) 3)) w.heap.size (w.heap.size + 1) 3 1 (some ⟨w.heap.size, 0, none⟩) 0 0 (cI (List.replicate 0 0))) := Lib.hid (by rw [← cI_zeros]; exact Ow.zeros _ _ _ _)
    go_wp2_with fail
    refine (i_padded _ _ _ n _ _ ((H.out.below HW0.out).more (by simp)) (Nat.le_refl _) (by omega)).mono ?_
    rintro e w1 ⟨rfl, ho, hb, hz⟩
    simp only [World.size_alloc] at ho hb hz
    have HOr : Hid (Ow w1 (w.heap.size + 1) (w.heap.size + 2) 3 1 (some ⟨w.heap.size + 1, 0, none⟩) n n (cI zs)) := Lib.hid (by rw [pad_self hl.out] at ho; exact ho)
    have HB : Hid (Below w.heap.size w w1) := Lib.hid (HW0.out.trans (hb.mono (by omega)))
    have HOq1 := Lib.hid (HOq.out.below hb (Nat.le_refl _))
    have HS : Hid (w.heap.size + 2 ≤ w1.heap.size) := Lib.hid (by omega)
    clear ho hb hz HOq HW0
    simp only [World.size_alloc]
    go_wp2
    go_loopw [10] (fun i wr => ∃ k : Int, -1 ≤ k ∧ k < 0 ∧ i = .int .i64 k ∧ Hid (Ow wr w.heap.size (w.heap.size + 1) 3 1 (some ⟨w.heap.size, 0, none⟩) 0 0 (cI (divK zs ys inv 0 (0 - (k + 1).toNat)).2)) ∧ Hid (Ow wr (w.heap.size + 1) (w.heap.size + 2) 3 1 (some ⟨w.heap.size + 1, 0, none⟩) n n (cI (divK zs ys inv 0 (0 - (k + 1).toNat)).1)) ∧ Hid (Below w.heap.size w wr) ∧ Hid (w.heap.size + 2 ≤ wr.heap.size)) (fun i _ => (intOf i + 1).toNat)
    case atStart => exact ⟨-1, by omega, by omega, rfl, Lib.hid (by rw [show 0 - ((-1) + 1 : Int).toNat = 0 by omega]; exact HOq1.out), Lib.hid (by rw [show 0 - ((-1) + 1 : Int).toNat = 0 by omega]; exact HOr.out), HB, HS⟩
    case round =>
      clear HOq1 HOr HB HS
      obtain ⟨k, k0, k1, rfl, HQ, HR, HB, HS⟩ := hrel
      have HQ2 := HQ.out
      have HR2 := HR.out
      rw [show 0 - (k + 1).toNat = 0 by omega] at HQ2 HR2
      have HQ3 := Lib.hid HQ2
      have HR3 := Lib.hid HR2
      clear HQ2 HR2 HQ HR
      go_wp2_with fail
      refine (i_trimmed _ _ _ _ _ _ _ HQ3.out (by omega)).mono ?_
      rintro e w' ⟨v1, rfl, ho1, rfl⟩
      have HT1 := Lib.hid ho1
      clear ho1
      go_wp2_with fail
      refine (i_trimmed _ _ _ _ _ _ _ HR3.out (by omega)).mono ?_
      rintro e w' ⟨v2, rfl, ho2, rfl⟩
      have HT2 := Lib.hid ho2
      clear ho2
      go_wp2
      go_ret2
      refine ⟨v1, v2, w.heap.size + 1, rfl, by omega, by have := HS.out; omega, ?_, ?_, HB.out⟩
      · unfold divQ; rw [HI.out, HN.out]; exact HT1.out
      · unfold divR; rw [HI.out, HN.out]; exact HT2.out.widen (Nat.le_refl _) HS.out
end Go.Proofs.Ytpdkkfbnfjfmhaa
