/- Chapter 2: division in the model. Made by gen2j.py. -/
import Derived.Test.YtpdkkfbnfjfmhaaWalk2i
namespace Go.Proofs.Ytpdkkfbnfjfmhaa
open Go.RowKit
set_option maxRecDepth 100000

theorem neg_emod_eq (q : Int) : (0 - q) % 113 = -q - 113 * ((0 - q) / 113) := by omega
theorem sub_is_add (x q y : Int) : (x - q * y) % 113 = (x + y * ((0 - q) % 113)) % 113 := by
  have h : y * ((0 - q) % 113) = -(q * y) - 113 * (y * ((0 - q) / 113)) := by
    rw [neg_emod_eq, Int.mul_sub, Int.mul_neg, Int.mul_comm y q, ← Int.mul_assoc, Int.mul_comm y 113, Int.mul_assoc]
  rw [h]
  generalize y * ((0 - q) / 113) = a
  generalize q * y = b
  omega

theorem lit_open {w1 : World} {B k e : Nat} {v : Value} {ys : List Int} (he : e = 3) (h : w1.ownsRow B e 1 v (0 + k) ([] ++ cI ys)) : ∃ A c, v = .slice A k c ∧ Hid (Ow w1 B w1.heap.size 3 1 A k c (cI ys)) := by
  subst he
  rw [Nat.zero_add, List.nil_append] at h
  obtain ⟨A, c, rfl, ho⟩ := Ow.of_own h
  exact ⟨A, c, rfl, Lib.hid ho⟩

theorem cell_alloc1 {w w1 : World} {a : Addr} {k : Nat} {u : Value} (hb : Below w.heap.size w w1) (ha : a.block < w.heap.size) (hc : w.cell? (a.add k) = some u) (o : Obj) : (w1.alloc o).cell? (a.add k) = some u := by
  rw [World.cell?_alloc_lt _ _ _ (by rw [add_block]; have := hb.size; omega), hb.cell (by rw [add_block]; exact ha)]
  exact hc

set_option maxHeartbeats 4000000 in
theorem s_l2Divide (A A' : Option Addr) (n c n' c' : Nat) (zs ys : List Int) (w : World) (h : Rd w w.heap.size 1 A n (cI zs)) (h' : Rd w w.heap.size 1 A' n' (cI ys)) (hz : Nums zs) (hy : Nums ys)
    (hn : n ≤ 100000) (hn' : n' ≤ 100000) (h0 : 0 < n') (hlast : ys.getD (n' - 1) 0 ≠ 0) :
    Calls Try.prog 39 #[.slice A n c, .slice A' n' c'] w fun e w' => ∃ v1 v2 mid, e = .returned (.tuple #[v1, v2]) ∧ w.heap.size ≤ mid ∧ mid ≤ w'.heap.size ∧ OwIntS w' w.heap.size mid v1 (divQ zs ys) ∧ OwIntS w' mid w'.heap.size v2 (divR zs ys) ∧ Below w.heap.size w w' := by
  have hl := Lib.hid h.len
  have hl' := Lib.hid h'.len
  have H := Lib.hid h
  have H' := Lib.hid h'
  have HZ := Lib.hid hz
  have HY := Lib.hid hy
  clear h h' hz hy
  obtain ⟨l, rfl⟩ : ∃ l, n' = l + 1 := ⟨n' - 1, by omega⟩
  obtain ⟨a', y, rfl, hab', hcy0, HQ'⟩ := H'.out.intAt (show l < l + 1 by omega)
  have y0 : 1 ≤ y := by
    have h1 := (HY.out l).1
    rw [← HQ'.out] at h1
    have h2 : y ≠ 0 := by rw [HQ'.out]; exact hlast
    omega
  have y1 : y ≤ 112 := by rw [HQ'.out]; exact (HY.out l).2
  clear hlast
  obtain ⟨N, hN⟩ : ∃ N, N = n - l := ⟨_, rfl⟩
  have N1 : N ≤ n := by omega
  have N2 : N + l ≤ n ∨ N = 0 := by omega
  obtain ⟨inv, hinv⟩ : ∃ inv, inv = powI y 111 113 := ⟨_, rfl⟩
  have v0 : 0 ≤ inv := by rw [hinv]; exact powI_lo _ _ _
  have v1 : inv ≤ 112 := by rw [hinv]; exact powI_hi _ _ _ (by omega)
  have HN : Hid (divN zs ys = N) := Lib.hid (by unfold divN; have := hl.out; have := hl'.out; omega)
  have HI : Hid (divInv ys = inv) := Lib.hid (by unfold divInv; rw [hl'.out, hinv, HQ'.out]; rfl)
  have Hinv := Lib.hid hinv
  have Hcy0 := Lib.hid hcy0
  clear hcy0 hinv
  have hmk := fun W => run_make1 (P := Try.prog) Try.underlying22 info_int rfl N (by omega) (by omega) W
  have e1 : ((l + 1 : Nat) : Int) - 1 = (l : Int) := by omega
  have HC := Lib.hid (H.out.below ((Below.refl _ _).alloc (Nat.le_refl _) (.cells #[] 3)))
  by_cases hc : l < n
  · have e2 : (N : Int) = (n : Int) - ((l : Int) + 1) + 1 := by omega
    have hb1 : (0 : Int) < (n : Int) - ((l : Int) + 1) + 1 := by omega
    have hmk2 : ∀ W, (Instr.makeSlice 22 (.int .i64 ((n : Int) - ((l : Int) + 1) + 1)) (.int .i64 ((n : Int) - ((l : Int) + 1) + 1))).run Try.prog W = .ok (.slice (some ⟨W.heap.size, 0, none⟩) N N) (W.alloc (.cells (Array.replicate N (.int .i64 0)) 3)) := fun W => by rw [← e2]; exact hmk W
    clear hmk hN e2
    go_enter Try.func39, Try.ntmps39
    go_wp2_with (first | (at_builtin; refine wpList_append_rd rfl (.tmp 11) (.tmp 12) _ rfl w.heap.size 3 _ 1 8 Try.underlying22 info_int rfl (by decide) (.slice (some ⟨w.heap.size, 0, none⟩) 0 0) 0 [] rfl (own_empty _ _ _) w.heap.size A n c (cI zs) rfl HC.out (cI_one _) (by unfold maxLen; omega) (by omega) (by simp) ?_; intro rv w1 hown hg hat; have HB1 := Lib.hid (lit_below hg); obtain ⟨Ar, cr, rfl, HO⟩ := lit_open rfl hown; have hcy := cell_alloc1 HB1.out hab' Hcy0.out (.cells (Array.replicate N (.int .i64 0)) 3); clear hown hg hat))
    have HOq : Hid (Ow (w1.alloc (.cells (Array.replicate N (.int .i64 0)) 3)) w1.heap.size (w1.heap.size + 1) 3 1 (some ⟨w1.heap.size, 0, none⟩) N N (cI (List.replicate N 0))) := Lib.hid (by have := Ow.zeros w1 (.int .i64 0) 3 N; rw [cI_zeros] at this; exact this)
    have HOr : Hid (Ow (w1.alloc (.cells (Array.replicate N (.int .i64 0)) 3)) w.heap.size w1.heap.size 3 1 Ar n cr (cI zs)) := Lib.hid (HO.out.below ((Below.refl _ _).alloc (Nat.le_refl _) _) (Nat.le_refl _))
    have HBa : Hid (Below w.heap.size w (w1.alloc (.cells (Array.replicate N (.int .i64 0)) 3))) := Lib.hid (HB1.out.alloc HB1.out.size _)
    have hs1 : w.heap.size ≤ w1.heap.size := HB1.out.size
    have HSa : Hid (w1.heap.size + 1 ≤ (w1.alloc (.cells (Array.replicate N (.int .i64 0)) 3)).heap.size) := Lib.hid (by simp)
    clear HO HB1
    refine (s_l1Inv _ _ y0 y1).mono ?_
    rintro e w' ⟨rfl, rfl⟩
    rw [← Hinv.out]
    clear hcy
    go_wp2
    go_loopw [9, 10] (fun i _ wr => ∃ k : Int, -1 ≤ k ∧ k < N ∧ i = .int .i64 k ∧ Hid (Ow wr w1.heap.size (w1.heap.size + 1) 3 1 (some ⟨w1.heap.size, 0, none⟩) N N (cI (divK zs ys inv N (N - (k + 1).toNat)).2)) ∧ Hid (Ow wr w.heap.size w1.heap.size 3 1 Ar n cr (cI (divK zs ys inv N (N - (k + 1).toNat)).1)) ∧ Hid (Below w.heap.size w wr) ∧ Hid (w1.heap.size + 1 ≤ wr.heap.size)) (fun i _ _ => (intOf i + 1).toNat)
    case atStart => exact ⟨(N : Int) - 1, by omega, by omega, rfl, Lib.hid (by rw [show N - (((N : Int) - 1) + 1 : Int).toNat = 0 by omega]; exact HOq.out), Lib.hid (by rw [show N - (((N : Int) - 1) + 1 : Int).toNat = 0 by omega]; exact HOr.out), HBa, HSa⟩
    case round =>
      clear HOq HOr HBa HSa
      obtain ⟨k, k0, k1, rfl, HQ, HR, HB, HS⟩ := hrel
      by_cases hlt : 0 ≤ k
      · obtain ⟨j, rfl⟩ := Int.eq_ofNat_of_zero_le hlt
        have hj : j < N := by omega
        rw [show ((j : Int) + 1).toNat = j + 1 by omega] at HQ HR
        obtain ⟨t, ht⟩ : ∃ t, t = N - (j + 1) := ⟨_, rfl⟩
        rw [← ht] at HQ HR
        have Ht : Hid (N - 1 - t = j) := Lib.hid (by omega)
        have Ht2 : Hid (N - j = t + 1) := Lib.hid (by omega)
        clear ht
        obtain ⟨g, _, hA, g1, g2, _, _⟩ := HR.out.lt (show 0 < n by omega)
        subst hA
        obtain ⟨r, hcr, HX⟩ := HR.out.intAt (show j + l < n by omega)
        have r0 : 0 ≤ r := by rw [HX.out]; exact (divK_nums1 HZ.out ys inv N t (j + l)).1
        have r1 : r ≤ 112 := by rw [HX.out]; exact (divK_nums1 HZ.out ys inv N t (j + l)).2
        have i0 : (0 : Int) ≤ (j : Int) + (l : Int) := by omega
        have i1 : (j : Int) + (l : Int) < (n : Int) := by omega
        have ej : (j : Int) + ((l : Int) + 1) - 1 = (j : Int) + (l : Int) := by omega
        have et : ((j : Int) + (l : Int)).toNat = j + l := by omega
        obtain ⟨p0, p1⟩ := mul_bd r inv r0 r1 v0 v1
        obtain ⟨qo, hcq, _⟩ := HQ.out.intAt hj
        have hfq := HQ.out.free (by omega) j
        obtain ⟨wo, rfl⟩ : ∃ wo : World, wo = wr := ⟨_, rfl⟩
        obtain ⟨q, hq⟩ : ∃ q, q = r * inv % 113 := ⟨_, rfl⟩
        have q0 : 0 ≤ q := by omega
        have q1 : q ≤ 112 := by omega
        have Hq := Lib.hid hq
        clear hq
        obtain ⟨x, hx⟩ : ∃ x, x = (0 - q) % 113 := ⟨_, rfl⟩
        have x0 : 0 ≤ x := by omega
        have x1 : x ≤ 112 := by omega
        have Hx := Lib.hid hx
        clear hx
        have HQ2 : Hid (Ow (wo.setCell ⟨w1.heap.size, j, none⟩ (.int .i64 (r * inv % 113))) w1.heap.size (w1.heap.size + 1) 3 1 (some ⟨w1.heap.size, 0, none⟩) N N (cI (divK zs ys inv N (t + 1)).2)) := Lib.hid (by
          have := HQ.out.set j (.int .i64 (r * inv % 113))
          rw [cI_set] at this
          simp only [divK]
          rw [Ht.out, hl'.out, show j + (l + 1) - 1 = j + l by omega, ← HX.out]; exact this)
        have HR2 : Hid (Ow (wo.setCell ⟨w1.heap.size, j, none⟩ (.int .i64 (r * inv % 113))) w.heap.size w1.heap.size 3 1 (some ⟨g, 0, none⟩) n cr (cI (addAtK (divK zs ys inv N t).1 j ys x 0))) := Lib.hid (HR.out.kept ((Kept.refl w1.heap.size (w1.heap.size + 1) wo).setCell (p := ⟨w1.heap.size, j, none⟩) (Nat.le_refl _) (Nat.lt_succ_self _) _) (by have := HS.out; omega) (.inr (Nat.le_refl _)))
        have HB2 : Hid (Below w.heap.size w (wo.setCell ⟨w1.heap.size, j, none⟩ (.int .i64 (r * inv % 113)))) := Lib.hid (HB.out.setCell (p := ⟨w1.heap.size, j, none⟩) hs1 _)
        have HS2 : Hid (w1.heap.size + 1 ≤ (wo.setCell ⟨w1.heap.size, j, none⟩ (.int .i64 (r * inv % 113))).heap.size) := Lib.hid (by rw [World.size_setCell]; exact HS.out)
        clear HQ HR HB HS
        go_wp2
        clear hcr hcq hfq ej et i0 i1
        go_loopw [10] (fun kk wr => ∃ k : Nat, k ≤ l + 1 ∧ kk = .int .i64 k ∧ Hid (Ow wr w1.heap.size (w1.heap.size + 1) 3 1 (some ⟨w1.heap.size, 0, none⟩) N N (cI (divK zs ys inv N (t + 1)).2)) ∧ Hid (Ow wr w.heap.size w1.heap.size 3 1 (some ⟨g, 0, none⟩) n cr (cI (addAtK (divK zs ys inv N t).1 j ys x k))) ∧ Hid (Below w.heap.size w wr) ∧ Hid (w1.heap.size + 1 ≤ wr.heap.size)) (fun kk _ => l + 1 - (intOf kk).toNat)
        case atStart => exact ⟨0, Nat.zero_le _, rfl, HQ2, HR2, HB2, HS2⟩
        case round =>
          clear HQ2 HR2 HB2 HS2
          obtain ⟨k, hk, rfl, HQ, HR, HB, HS⟩ := hrel
          by_cases hlt2 : k < l + 1
          · obtain ⟨a2, b, ha2, hab2, hcb0, HY'⟩ := H'.out.intAt hlt2
            obtain rfl : a' = a2 := by injection ha2
            have hcb := (HB.out.cell (p := a'.add k) (by rw [add_block]; exact hab')).trans hcb0
            have b0 : 0 ≤ b := by rw [HY'.out]; exact (HY.out k).1
            have b1 : b ≤ 112 := by rw [HY'.out]; exact (HY.out k).2
            obtain ⟨u, hcu, HU⟩ := HR.out.intAt (show j + k < n by omega)
            have u0 : 0 ≤ u := by rw [HU.out]; exact (nums_addAtK (divK_nums1 HZ.out ys inv N t) j ys x k (j + k)).1
            have u1 : u ≤ 112 := by rw [HU.out]; exact (nums_addAtK (divK_nums1 HZ.out ys inv N t) j ys x k (j + k)).2
            have hfu := HR.out.free (by omega) (j + k)
            obtain ⟨qv, hcqv, HQV⟩ := HQ.out.intAt hj
            have HQQ : Hid (qv = q) := Lib.hid (by rw [HQV.out]; simp only [divK]; rw [getD_set, divK_length2, if_pos ⟨Ht.out, hj⟩, Ht.out, hl'.out, show j + (l + 1) - 1 = j + l by omega, ← HX.out, ← Hq.out])
            have hcq : wr.cell? ⟨w1.heap.size, j, none⟩ = some (.int .i64 q) := by rw [hcqv, HQQ.out]
            clear hcqv HQV HQQ hcb0
            obtain ⟨p0, p1⟩ := mul_bd q b q0 q1 b0 b1
            have s0 : 0 ≤ q * b % 113 := by omega
            have s1 : q * b % 113 ≤ 112 := by omega
            have HE : Hid ((u - q * b) % 113 = ((addAtK (divK zs ys inv N t).1 j ys x k).getD (j + k) 0 + ys.getD k 0 * x) % 113) := Lib.hid (by rw [← HU.out, ← HY'.out, Hx.out]; exact sub_is_add u q b)
            have HR3 : Hid (Ow (wr.setCell ⟨g, j + k, none⟩ (.int .i64 ((u - q * b) % 113))).drew w.heap.size w1.heap.size 3 1 (some ⟨g, 0, none⟩) n cr (cI (addAtK (divK zs ys inv N t).1 j ys x (k + 1)))) := Lib.hid (by
              have := HR.out.set (j + k) (.int .i64 ((u - q * b) % 113))
              rw [cI_set] at this
              rw [addAtK, ← HE.out]; exact this)
            have HQ3 : Hid (Ow (wr.setCell ⟨g, j + k, none⟩ (.int .i64 ((u - q * b) % 113))).drew w1.heap.size (w1.heap.size + 1) 3 1 (some ⟨w1.heap.size, 0, none⟩) N N (cI (divK zs ys inv N (t + 1)).2)) := Lib.hid (HQ.out.kept ((Kept.refl w.heap.size w1.heap.size wr).setCell (p := ⟨g, j + k, none⟩) g1 g2 (.int .i64 ((u - q * b) % 113))).drew HS.out (.inl (Nat.le_refl _)))
            have HB3 : Hid (Below w.heap.size w (wr.setCell ⟨g, j + k, none⟩ (.int .i64 ((u - q * b) % 113))).drew) := Lib.hid ((HB.out.setCell (p := ⟨g, j + k, none⟩) g1 _).drew)
            have HS3 : Hid (w1.heap.size + 1 ≤ (wr.setCell ⟨g, j + k, none⟩ (.int .i64 ((u - q * b) % 113))).drew.heap.size) := Lib.hid (by rw [World.size_drew, World.size_setCell]; exact HS.out)
            clear HQ HR HB HS
            have i0 : (0 : Int) ≤ (j : Int) + (k : Int) := by omega
            have i1 : (j : Int) + (k : Int) < (n : Int) := by omega
            have i2 : (j : Int) < (N : Int) := by omega
            have i3 : (k : Int) < (l : Int) + 1 := by omega
            have iw : IntKind.i64.wrap ((j : Int) + (k : Int)) = (j : Int) + (k : Int) := IntWalk.i64_in _ (by omega)
            have it : ((j : Int) + (k : Int)).toNat = j + k := by omega
            have im : IntKind.i64.wrap (q * b) = q * b := IntWalk.i64_in _ (by omega)
            have ir : (q * b).tmod 113 = q * b % 113 := Int.tmod_eq_emod_of_nonneg p0
            go_wp2
            go_still_tail 22, (by kernel_rfl)
            still_call (same_ (s_l1Sub _ _ _ u0 u1 s0 s1))
            repeat still_step
            refine wpStill_nil ?_
            change wpList _ _ _ _ _ wr.drew
            clear iw it im ir
            go_wp2
            go_roundw
            case rel => exact ⟨k + 1, by omega, by go_num, HQ3, HR3, HB3, HS3⟩
            case measure => simp [intOf] <;> omega
          · have hkn : k = l + 1 := by omega
            have HR3 : Hid (Ow wr w.heap.size w1.heap.size 3 1 (some ⟨g, 0, none⟩) n cr (cI (divK zs ys inv N (t + 1)).1)) := Lib.hid (by
              have := HR.out; rw [hkn] at this
              simp only [divK]
              rw [Ht.out, hl'.out, show j + (l + 1) - 1 = j + l by omega, ← HX.out, ← Hq.out, ← Hx.out]; exact this)
            clear HR hkn
            go_wp2
            go_roundw
            case rel => exact ⟨(j : Int) - 1, by omega, by omega, rfl, Lib.hid (by rw [show ((j : Int) - 1 + 1).toNat = j by omega, Ht2.out]; exact HQ.out), Lib.hid (by rw [show ((j : Int) - 1 + 1).toNat = j by omega, Ht2.out]; exact HR3.out), HB, HS⟩
            case measure => simp [intOf] <;> omega
      · have HQ2 := HQ.out
        have HR2 := HR.out
        rw [show N - (k + 1).toNat = N by omega] at HQ2 HR2
        have HQ3 := Lib.hid HQ2
        have HR3 := Lib.hid HR2
        clear HQ2 HR2 HQ HR
        go_wp2_with fail
        refine (s_l2Trim _ _ _ _ _ (HQ3.out.rd.more HS.out) (Nat.le_refl _) (by omega)).mono ?_
        rintro e w2 ⟨v1, rfl, ho1, hb1⟩
        have z1 := hb1.size
        have HT1 := Lib.hid ho1
        have HR4 := Lib.hid (HR3.out.below hb1 (by have := HS.out; omega))
        have HB2 : Hid (Below w.heap.size w w2) := Lib.hid (HB.out.trans (hb1.mono HB.out.size))
        have HZ1 : Hid (wr.heap.size ≤ w2.heap.size ∧ w1.heap.size ≤ w2.heap.size ∧ w.heap.size ≤ wr.heap.size) := Lib.hid ⟨z1, by have := HS.out; omega, HB.out.size⟩
        clear ho1 hb1 z1
        go_wp2_with fail
        refine (s_l2Trim _ _ _ _ _ (HR4.out.rd.more HZ1.out.2.1) HR4.out.2.1 (by omega)).mono ?_
        rintro e w3 ⟨v2, rfl, ho2, hb2⟩
        have HT2 := Lib.hid ho2
        have HT1b := Lib.hid (HT1.out.below hb2 (Nat.le_refl _))
        have HB3 : Hid (Below w.heap.size w w3) := Lib.hid (HB2.out.trans (hb2.mono HB2.out.size))
        have HZ2 := Lib.hid hb2.size
        clear ho2 hb2
        go_wp2
        go_ret2
        refine ⟨v1, v2, w2.heap.size, rfl, HB2.out.size, HZ2.out, ?_, ?_, HB3.out⟩
        · unfold divQ; rw [HI.out, HN.out]; exact HT1b.out.widen HB.out.size (Nat.le_refl _)
        · unfold divR; rw [HI.out, HN.out]; exact HT2.out
  · obtain rfl : N = 0 := by omega
    simp only [Int.natCast_zero] at hmk
    have hb1 : (n : Int) - ((l : Int) + 1) + 1 ≤ 0 := by omega
    clear hN N1 N2
    go_enter Try.func39, Try.ntmps39
    go_wp2_with (first | (at_builtin; refine wpList_append_rd rfl (.tmp 11) (.tmp 12) _ rfl w.heap.size 3 _ 1 8 Try.underlying22 info_int rfl (by decide) (.slice (some ⟨w.heap.size, 0, none⟩) 0 0) 0 [] rfl (own_empty _ _ _) w.heap.size A n c (cI zs) rfl HC.out (cI_one _) (by unfold maxLen; omega) (by omega) (by simp) ?_; intro rv w1 hown hg hat; have HB1 := Lib.hid (lit_below hg); obtain ⟨Ar, cr, rfl, HO⟩ := lit_open rfl hown; have hcy := cell_alloc1 HB1.out hab' Hcy0.out (.cells (#[]) 3); clear hown hg hat))
    have HOq : Hid (Ow (w1.alloc (.cells (#[]) 3)) w1.heap.size (w1.heap.size + 1) 3 1 (some ⟨w1.heap.size, 0, none⟩) 0 0 (cI (List.replicate 0 0))) := Lib.hid (by have := Ow.zeros w1 (.int .i64 0) 3 0; rw [cI_zeros] at this; exact this)
    have HOr : Hid (Ow (w1.alloc (.cells (#[]) 3)) w.heap.size w1.heap.size 3 1 Ar n cr (cI zs)) := Lib.hid (HO.out.below ((Below.refl _ _).alloc (Nat.le_refl _) _) (Nat.le_refl _))
    have HBa : Hid (Below w.heap.size w (w1.alloc (.cells (#[]) 3))) := Lib.hid (HB1.out.alloc HB1.out.size _)
    have hs1 : w.heap.size ≤ w1.heap.size := HB1.out.size
    have HSa : Hid (w1.heap.size + 1 ≤ (w1.alloc (.cells (#[]) 3)).heap.size) := Lib.hid (by simp)
    clear HO HB1
    refine (s_l1Inv _ _ y0 y1).mono ?_
    rintro e w' ⟨rfl, rfl⟩
    rw [← Hinv.out]
    clear hcy
    go_wp2
    go_loopw [9, 10] (fun i _ wr => ∃ k : Int, -1 ≤ k ∧ k < 0 ∧ i = .int .i64 k ∧ Hid (Ow wr w1.heap.size (w1.heap.size + 1) 3 1 (some ⟨w1.heap.size, 0, none⟩) 0 0 (cI (divK zs ys inv 0 (0 - (k + 1).toNat)).2)) ∧ Hid (Ow wr w.heap.size w1.heap.size 3 1 Ar n cr (cI (divK zs ys inv 0 (0 - (k + 1).toNat)).1)) ∧ Hid (Below w.heap.size w wr) ∧ Hid (w1.heap.size + 1 ≤ wr.heap.size)) (fun i _ _ => (intOf i + 1).toNat)
    case atStart => exact ⟨-1, by omega, by omega, rfl, Lib.hid (by rw [show 0 - ((-1) + 1 : Int).toNat = 0 by omega]; exact HOq.out), Lib.hid (by rw [show 0 - ((-1) + 1 : Int).toNat = 0 by omega]; exact HOr.out), HBa, HSa⟩
    case round =>
      clear HOq HOr HBa HSa
      obtain ⟨k, k0, k1, rfl, HQ, HR, HB, HS⟩ := hrel
      have HQ2 := HQ.out
      have HR2 := HR.out
      rw [show 0 - (k + 1).toNat = 0 by omega] at HQ2 HR2
      have HQ3 := Lib.hid HQ2
      have HR3 := Lib.hid HR2
      clear HQ2 HR2 HQ HR
      go_wp2_with fail
      refine (s_l2Trim _ _ _ _ _ (HQ3.out.rd.more HS.out) (Nat.le_refl _) (by omega)).mono ?_
      rintro e w2 ⟨v1, rfl, ho1, hb1⟩
      have z1 := hb1.size
      have HT1 := Lib.hid ho1
      have HR4 := Lib.hid (HR3.out.below hb1 (by have := HS.out; omega))
      have HB2 : Hid (Below w.heap.size w w2) := Lib.hid (HB.out.trans (hb1.mono HB.out.size))
      have HZ1 : Hid (wr.heap.size ≤ w2.heap.size ∧ w1.heap.size ≤ w2.heap.size ∧ w.heap.size ≤ wr.heap.size) := Lib.hid ⟨z1, by have := HS.out; omega, HB.out.size⟩
      clear ho1 hb1 z1
      go_wp2_with fail
      refine (s_l2Trim _ _ _ _ _ (HR4.out.rd.more HZ1.out.2.1) HR4.out.2.1 (by omega)).mono ?_
      rintro e w3 ⟨v2, rfl, ho2, hb2⟩
      have HT2 := Lib.hid ho2
      have HT1b := Lib.hid (HT1.out.below hb2 (Nat.le_refl _))
      have HB3 : Hid (Below w.heap.size w w3) := Lib.hid (HB2.out.trans (hb2.mono HB2.out.size))
      have HZ2 := Lib.hid hb2.size
      clear ho2 hb2
      go_wp2
      go_ret2
      refine ⟨v1, v2, w2.heap.size, rfl, HB2.out.size, HZ2.out, ?_, ?_, HB3.out⟩
      · unfold divQ; rw [HI.out, HN.out]; exact HT1b.out.widen HB.out.size (Nat.le_refl _)
      · unfold divR; rw [HI.out, HN.out]; exact HT2.out
end Go.Proofs.Ytpdkkfbnfjfmhaa
