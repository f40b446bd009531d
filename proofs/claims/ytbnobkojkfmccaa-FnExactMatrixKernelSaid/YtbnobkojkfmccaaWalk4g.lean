/- Chapter 3 in the model: MatrixKernel. -/
import Derived.Test.YtbnobkojkfmccaaWalk4f
import Derived.Deep.Cut
namespace Go.Proofs.Ytbnobkojkfmccaa
open Go.RowKit
set_option maxRecDepth 100000

/-- the lists of the columns before c that are not taken -/
def kerK (a : List (List Int)) (m c : Nat) : List (List Int) := (depC (augR a (List.replicate a.length 0) a.length) a.length (m + 1) c).map fun q => kerX (redOf a (List.replicate a.length 0) m).1 (redOf a (List.replicate a.length 0) m).2 m q.toNat (redOf a (List.replicate a.length 0) m).2.length
def R_MatrixKernel_0 (a : List (List Int)) : List (List Int) := if matB a = true then kerK a (a.getD 0 []).length (a.getD 0 []).length else []
theorem kerK_len (a : List (List Int)) (m c : Nat) : (kerK a m c).length = (depC (augR a (List.replicate a.length 0) a.length) a.length (m + 1) c).length := by simp [kerK]
theorem kerK_le (a : List (List Int)) (m c : Nat) : (kerK a m c).length ≤ c := by
  rw [kerK_len]
  have := depC_len (augR a (List.replicate a.length 0) a.length) a.length (m + 1) c
  omega
theorem kerK_row (a : List (List Int)) (m c k : Nat) (h : k < (kerK a m c).length) : ((kerK a m c).getD k []).length = m := by
  unfold kerK
  rw [map_getD _ _ k 0 [] (by rw [kerK_len] at h; exact h)]
  exact kerX_length _ _ _ _ _
theorem kerK_sz (a : List (List Int)) (m c : Nat) (hc : c ≤ 8) (hm : m ≤ 8) : szIntSS (kerK a m c) ≤ 1048576 := by
  have h1 := kerK_le a m c
  have h2 : ∀ k, k ≤ (kerK a m c).length → lensK (kerK a m c) k ≤ k * m := by
    intro k
    induction k with
    | zero => intro _; simp [lensK]
    | succ k ih =>
      intro hk
      rw [lensK, kerK_row a m c k (by omega), Nat.succ_mul]
      have := ih (by omega)
      omega
  have h3 := h2 _ (Nat.le_refl _)
  have h4 : (kerK a m c).length * m ≤ 8 * 8 := Nat.mul_le_mul (by omega) hm
  unfold szIntSS
  omega

set_option maxHeartbeats 4000000 in
theorem X_s_MatrixKernel (v : Value) (a : List (List Int)) (w : World) (h : RdIntSS w w.heap.size v a) (hs : szIntSS a ≤ 1048576) :
    Calls Try.prog 28 #[v] w fun e w' => ∃ g, e = .returned g ∧ OwIntSS w' w.heap.size w'.heap.size g (R_MatrixKernel_0 a) ∧ Below w.heap.size w w' := by
  obtain ⟨A, n, c, vs, rfl, hm, r⟩ := h
  have hn : n ≤ 1048576 := by have := r.2.1; unfold szIntSS at hs; omega
  have HLN : Hid (lensK a n ≤ 1048576) := Lib.hid (by have := r.2.1; unfold szIntSS at hs; rw [← this]; omega)
  have hl := Lib.hid r.2.1
  have H := Lib.hid r
  clear r hs hm
  have HB1 : Hid (Below w.heap.size w (w.alloc (.cells #[] 27))) := Lib.hid ((Below.refl _ _).alloc (Nat.le_refl _) _)
  have HR1 : Hid (RdR (w.alloc (.cells #[] 27)) (w.alloc (.cells #[] 27)).heap.size A n vs a) := Lib.hid ((H.out.keep HB1.out).more (by simp))
  have HN1 : Hid ((w.alloc (.cells #[] 27)).ownsRow w.heap.size 27 1 (.slice (some ⟨w.heap.size, 0, none⟩) 0 0) 0 []) := Lib.hid (own_empty _ _ _)
  cases ha : matB a
  · have HR : Hid (R_MatrixKernel_0 a = []) := Lib.hid (by simp [R_MatrixKernel_0, ha])
    go_enter Try.func28, Try.ntmps28
    go_wp2_with fail
    refine (s_MatrixOk _ _ _ _ _ _ HR1.out hn HLN.out).mono ?_
    rintro e w1 ⟨rfl, hst⟩
    have HS := Lib.hid hst
    clear hst
    rw [ha]
    go_wp2
    go_ret
    refine ⟨_, rfl, ?_, HB1.out.trans (HS.out.below _)⟩
    rw [HR.out]
    refine ⟨by simp [szIntSS, lensK], _, 0, 0, [], rfl, ⟨rfl, Nat.le_refl _, .inl rfl⟩, rfl, fun i hi => absurd hi (by omega), fun i j hi => absurd hi (by omega)⟩
  · have HM0 := Lib.hid (Mat.of ha)
    obtain ⟨m, hmm⟩ : ∃ m, m = (a.getD 0 []).length := ⟨_, rfl⟩
    have HR : Hid (R_MatrixKernel_0 a = kerK a m m) := Lib.hid (by unfold R_MatrixKernel_0; rw [if_pos ha, hmm])
    have HM : Hid (Mat a m) := Lib.hid (by rw [hmm]; exact HM0.out)
    have m8 : m ≤ 8 := HM.out.cols.2
    have n8 : n ≤ 8 := by have := HM.out.rows.2; have := hl.out; omega
    have n1 : 1 ≤ n := by have := HM.out.rows.1; have := hl.out; omega
    have HI := Lib.hid (redOf_inv HM.out (nums_zeros n))
    rw [hl.out] at HI
    have HRO : Hid (redOf a (List.replicate a.length 0) m = redC (augR a (List.replicate n 0) n) n (m + 1) m) := Lib.hid (by unfold redOf; rw [hl.out])
    have hmk := fun W => run_make1 (P := Try.prog) Try.underlying27 info_int rfl n (by omega) (by omega) W
    clear HM0 hmm
    go_enter Try.func28, Try.ntmps28
    go_wp2_with fail
    refine (s_MatrixOk _ _ _ _ _ _ HR1.out hn HLN.out).mono ?_
    rintro e w1 ⟨rfl, hst⟩
    have HS := Lib.hid hst
    have HSZ1 : Hid (w1.heap.size = w.heap.size + 1) := Lib.hid (by rw [hst.sz]; simp)
    clear hst
    rw [ha]
    have HB2 : Hid (Below w.heap.size w (w1.alloc (.cells (Array.replicate n (.int .i64 0)) 3))) := Lib.hid ((HB1.out.trans (HS.out.below _)).alloc (by have := HSZ1.out; omega) _)
    have HR2 : Hid (RdR (w1.alloc (.cells (Array.replicate n (.int .i64 0)) 3)) (w1.alloc (.cells (Array.replicate n (.int .i64 0)) 3)).heap.size A n vs a) := Lib.hid ((H.out.keep HB2.out).more (by have := HSZ1.out; simp; omega))
    have HZ2 : Hid (Rd (w1.alloc (.cells (Array.replicate n (.int .i64 0)) 3)) (w1.alloc (.cells (Array.replicate n (.int .i64 0)) 3)).heap.size 1 (some ⟨w1.heap.size, 0, none⟩) n (cI (List.replicate n 0))) := Lib.hid (by
      rw [← cI_zeros]
      exact (Ow.zeros w1 (.int .i64 0) 3 n).rd.more (by simp))
    have HN2 : Hid ((w1.alloc (.cells (Array.replicate n (.int .i64 0)) 3)).ownsRow w.heap.size 27 1 (.slice (some ⟨w.heap.size, 0, none⟩) 0 0) 0 []) := Lib.hid (by
      obtain ⟨q, hq⟩ := HS.out
      have : w1.ownsRow w.heap.size 27 1 (.slice (some ⟨w.heap.size, 0, none⟩) 0 0) 0 [] := by rw [hq]; exact HN1.out
      exact this.alloc _)
    go_wp2_with fail
    refine (s_l3Reduced _ _ _ _ _ _ _ _ _ _ HR2.out HZ2.out HM.out (nums_zeros n)).mono ?_
    rintro e w3 ⟨Ar, cr, tv, mid, ws, rfl, hz1, hz2, hbl, hor, hot⟩
    obtain ⟨hsT, At, kt, ct, rfl, hot⟩ := hot
    have hsz2 : (w1.alloc (.cells (Array.replicate n (.int .i64 0)) 3)).heap.size = w.heap.size + 2 := by have := HSZ1.out; simp; omega
    rw [hsz2] at hz1 hor
    have HB3 : Hid (Below w.heap.size w w3) := Lib.hid (HB2.out.trans (hbl.mono (by omega)))
    have HN3 : Hid (w3.ownsRow w.heap.size 27 1 (.slice (some ⟨w.heap.size, 0, none⟩) 0 0) 0 []) := Lib.hid (ownsRow_below HN2.out hbl)
    obtain ⟨D, hD⟩ : ∃ D, D = (redC (augR a (List.replicate n 0) n) n (m + 1) m).1 := ⟨_, rfl⟩
    obtain ⟨T, hT⟩ : ∃ T, T = (redC (augR a (List.replicate n 0) n) n (m + 1) m).2 := ⟨_, rfl⟩
    rw [← hD] at hor
    rw [← hT] at hot
    have HTL : Hid (T.length = kt) := Lib.hid hot.len
    have HSHD : Hid (Shp D n (m + 1)) := Lib.hid (by rw [hD, ← HRO.out]; have := HI.out.1; rwa [hl.out] at *)
    have HTB : Hid (kt ≤ n ∧ ∀ i, i < kt → 0 ≤ T.getD i 0 ∧ T.getD i 0 < (m : Int)) := Lib.hid (by
      have h1 := HI.out.2
      rw [← hl.out] at h1
      rw [HRO.out, hl.out, ← hT, HTL.out] at h1
      exact h1)
    have HOR := Lib.hid hor
    have HOT := Lib.hid hot
    have HMID := Lib.hid (And.intro hz1 hz2)
    have HK0 : ∀ cc, Hid (kerK a m (cc + 1) = if pivAt (redC (augR a (List.replicate n 0) n) n (m + 1) cc).1 cc n (n - (redC (augR a (List.replicate n 0) n) n (m + 1) cc).2.length) (redC (augR a (List.replicate n 0) n) n (m + 1) cc).2.length = n then kerK a m cc ++ [kerX D T m cc kt] else kerK a m cc) := fun cc => Lib.hid (by
      unfold kerK
      rw [HRO.out, hl.out, ← hD, ← hT, HTL.out, depC]
      split
      · simp
      · rfl)
    have HNX : ∀ cc, cc < m → Hid ((pivAt (redC (augR a (List.replicate n 0) n) n (m + 1) cc).1 cc n (n - (redC (augR a (List.replicate n 0) n) n (m + 1) cc).2.length) (redC (augR a (List.replicate n 0) n) n (m + 1) cc).2.length = n) ↔ ¬ ((redC (augR a (List.replicate n 0) n) n (m + 1) cc).2.length < kt ∧ T.getD (redC (augR a (List.replicate n 0) n) n (m + 1) cc).2.length 0 = (cc : Int))) := fun cc hcc => Lib.hid (by
      have := redC_next (augR a (List.replicate n 0) n) n (m + 1) cc m hcc
      rw [← hT, HTL.out] at this; exact this)
    have HSTEP : ∀ cc, Hid ((redC (augR a (List.replicate n 0) n) n (m + 1) (cc + 1)).2.length = if pivAt (redC (augR a (List.replicate n 0) n) n (m + 1) cc).1 cc n (n - (redC (augR a (List.replicate n 0) n) n (m + 1) cc).2.length) (redC (augR a (List.replicate n 0) n) n (m + 1) cc).2.length = n then (redC (augR a (List.replicate n 0) n) n (m + 1) cc).2.length else (redC (augR a (List.replicate n 0) n) n (m + 1) cc).2.length + 1) := fun cc => Lib.hid (by
      rw [redC, redStep]
      split
      · rfl
      · simp)
    obtain ⟨HK0, HNX, HSTEP⟩ := (⟨Lib.hid HK0, Lib.hid HNX, Lib.hid HSTEP⟩ : Hid _ ∧ Hid _ ∧ Hid _)
    obtain ⟨hi3, hhi⟩ : ∃ hi3, hi3 = w3.heap.size := ⟨_, rfl⟩
    rw [← hhi] at HMID HOT
    have HZ3 : Hid (hi3 ≤ w3.heap.size) := Lib.hid (by omega)
    have HOUT3 : Hid (w3.ownsRow w.heap.size 27 1 (.slice (some ⟨w.heap.size, 0, none⟩) 0 0) 0 [] ∧ OwR w3 w.heap.size w3.heap.size (some ⟨w.heap.size, 0, none⟩) 0 0 [] (kerK a m 0)) := Lib.hid ⟨HN3.out, ⟨rfl, Nat.le_refl _, .inl rfl⟩, rfl, fun i hi => absurd hi (by omega), fun i j hi => absurd hi (by omega)⟩
    obtain ⟨a0, A0, nm, c0, rfl, hab, hc00, hr0, _, hm0⟩ := H.out.row (show 0 < n by omega)
    have HC0 : Hid (w.cell? a0 = some (.slice A0 nm c0)) := Lib.hid hc00
    obtain rfl : nm = m := by have := HM.out.len 0 (by have := hl.out; omega); omega
    clear hc00 hr0 hm0 hbl hor hot hz1 hz2 hsT HN1 HN2 HN3 HR1 HR2 HZ2 HB1 HB2 HS HSZ1 hsz2 hhi hD hT hmk
    obtain ⟨gr, hgr⟩ : ∃ gr, Ar = some ⟨gr, 0, none⟩ := by
      obtain ⟨g, _, e, _⟩ := HOR.out.1.lt (by omega)
      exact ⟨g, e⟩
    subst hgr
    by_cases hkt0 : 0 < kt
    · obtain ⟨gt, hgt⟩ : ∃ gt, At = some ⟨gt, 0, none⟩ := by
        obtain ⟨g, _, e, _⟩ := HOT.out.lt hkt0
        exact ⟨g, e⟩
      subst hgt
      clear hkt0
      go_wp2
      go_loopw [3, 6, 7, 8, 9] (fun o kv cv _ _ wr => ∃ (cc kk : Nat) (Ao : Option Addr) (ko co : Nat) (os : List Value), cc ≤ nm ∧ cv = .int .i64 cc ∧ kv = .int .i64 kk ∧ o = .slice Ao ko co ∧ Hid ((redC (augR a (List.replicate n 0) n) n (nm + 1) cc).2.length = kk) ∧
        Hid (wr.ownsRow w.heap.size 27 1 (.slice Ao ko co) ko os ∧ OwR wr w.heap.size wr.heap.size Ao ko co os (kerK a nm cc)) ∧ Hid (OwR wr (w.heap.size + 2) mid (some ⟨gr, 0, none⟩) n cr ws D) ∧ Hid (Ow wr mid hi3 3 1 (some ⟨gt, 0, none⟩) kt ct (cI T)) ∧
        Hid (∀ g, Value.ownBlock (.slice Ao ko co) = some g → g = w.heap.size ∨ hi3 ≤ g) ∧ Hid (Below w.heap.size w wr) ∧ Hid (hi3 ≤ wr.heap.size)) (fun _ _ cv _ _ _ => nm - (intOf cv).toNat)
      case atStart => exact ⟨0, 0, _, 0, 0, [], Nat.zero_le _, rfl, rfl, rfl, Lib.hid rfl, HOUT3, HOR, HOT, Lib.hid (fun g e => .inl (by simp [Value.ownBlock] at e; omega)), HB3, HZ3⟩
      case round =>
        clear HOUT3 HOR HOT HB3 HZ3
        obtain ⟨cc, kk, Ao, ko, co, os, hcc, rfl, rfl, rfl, HKK, HOUT, HOR, HOT, HOB, HB, HZ⟩ := hrel
        have hc0 := (HB.out.cell (p := a0) hab).trans HC0.out
        have i20 : (0 : Int) < (n : Int) := by omega
        by_cases hlt : cc < nm
        · have HN2 := Lib.hid (HNX.out cc hlt).out
          rw [HKK.out] at HN2
          have HK2 := Lib.hid (HK0.out cc).out
          rw [HKK.out] at HK2
          have HS2 := Lib.hid (HSTEP.out cc).out
          rw [HKK.out] at HS2
          by_cases htk : kk < kt ∧ T.getD kk 0 = (cc : Int)
          · have hne : ¬ pivAt (redC (augR a (List.replicate n 0) n) n (nm + 1) cc).1 cc n (n - kk) kk = n := fun e => HN2.out.1 e htk
            have HK3 : Hid (kerK a nm (cc + 1) = kerK a nm cc) := Lib.hid (by have := HK2.out; rwa [if_neg hne] at this)
            have HS3 : Hid ((redC (augR a (List.replicate n 0) n) n (nm + 1) (cc + 1)).2.length = kk + 1) := Lib.hid (by have := HS2.out; rwa [if_neg hne] at this)
            first
            | (exfalso; have := htk.1; omega)
            | (obtain ⟨q, hcq, HQ⟩ := HOT.out.intAt htk.1
               have hqe : q = (cc : Int) := HQ.out.trans htk.2
               subst hqe
               have k0 : (0 : Int) ≤ (kk : Int) := by omega
               have k1 : (kk : Int) < (kt : Int) := by have := htk.1; omega
               have hkk9 : kk < 9 := by have := htk.1; have := HTB.out.1; omega
               have HOUT5 : Hid (wr.ownsRow w.heap.size 27 1 (.slice Ao ko co) ko os ∧ OwR wr w.heap.size wr.heap.size Ao ko co os (kerK a nm (cc + 1))) := Lib.hid (by rw [HK3.out]; exact HOUT.out)
               clear HQ htk hne HOUT
               go_wp2
               go_roundw
               case rel => exact ⟨cc + 1, kk + 1, Ao, ko, co, os, by omega, by go_num, by go_num, rfl, HS3, HOUT5, HOR, HOT, HOB, HB, HZ⟩
               case measure => simp [intOf] <;> omega)
          · have hpe : pivAt (redC (augR a (List.replicate n 0) n) n (nm + 1) cc).1 cc n (n - kk) kk = n := HN2.out.2 htk
            have HK3 : Hid (kerK a nm (cc + 1) = kerK a nm cc ++ [kerX D T nm cc kt]) := Lib.hid (by have := HK2.out; rwa [if_pos hpe] at this)
            have HS3 : Hid ((redC (augR a (List.replicate n 0) n) n (nm + 1) (cc + 1)).2.length = kk) := Lib.hid (by have := HS2.out; rwa [if_pos hpe] at this)
            have hko8 : ko ≤ 8 := by have h1 := HOUT.out.2.2.1; have h2 := kerK_le a nm cc; omega
            have hmk2 := fun W => run_make1 (P := Try.prog) Try.underlying27 info_int rfl nm (by omega) (by omega) W
            have k0 : (0 : Int) ≤ (kk : Int) := by omega
            have c0' : (0 : Int) ≤ (cc : Int) := by omega
            have c1' : (cc : Int) < (nm : Int) := by omega
            clear hpe HN2 HK2 HS2
            by_cases hkk : kk < kt
            case' pos =>
              first
              | (exfalso; omega)
              | (obtain ⟨q, hcq, HQ⟩ := HOT.out.intAt hkk
                 have k1 : (kk : Int) < (kt : Int) := by omega
                 have hb : (q == (cc : Int)) = false := by rw [beq_eq_false_iff_ne, HQ.out]; exact fun e => htk ⟨hkk, e⟩
                 clear HQ htk
                 go_upto_region 11 with (fail)
                 clear hcq hb)
            case' neg =>
              have hb : ¬ ((kk : Int) < (kt : Int)) := by omega
              have hb2 : decide ((kk : Int) < (kt : Int)) = false := decide_eq_false hb
              clear htk
              go_upto_region 11 with (fail)
              clear hb hb2
            all_goals (
              obtain ⟨wq, rfl⟩ : ∃ wq : World, wq = wr := ⟨_, rfl⟩
              have HXa : Hid (Ow (wq.alloc (.cells (Array.replicate nm (.int .i64 0)) 3)) wq.heap.size (wq.heap.size + 1) 3 1 (some ⟨wq.heap.size, 0, none⟩) nm nm (cI (List.replicate nm 0))) := Lib.hid (by
                have := Ow.zeros wq (.int .i64 0) 3 nm
                rw [cI_zeros] at this; exact this)
              obtain ⟨y0, hcy0, _⟩ := HXa.out.intAt hlt
              have hfy := HXa.out.free (by omega) cc
              have HX0 : Hid (Ow (wq.alloc (.cells ((Array.replicate nm (Value.int .i64 0)).setIfInBounds cc (.int .i64 1)) 3)) wq.heap.size (wq.heap.size + 1) 3 1 (some ⟨wq.heap.size, 0, none⟩) nm nm (cI (kerX D T nm cc 0))) := Lib.hid (by
                have h1 := Ow.new wq ((Array.replicate nm (Value.int .i64 0)).setIfInBounds cc (.int .i64 1)) 3 1 nm (by simp)
                rw [Array.toList_setIfInBounds, Array.toList_replicate, cI_zeros, cI_set] at h1
                exact h1)
              have HBX : Hid (Below wq.heap.size wq (wq.alloc (.cells ((Array.replicate nm (Value.int .i64 0)).setIfInBounds cc (.int .i64 1)) 3))) := Lib.hid ((Below.refl _ _).alloc (Nat.le_refl _) _)
              clear HXa
              go_wp2
              clear hmk2 hcy0 hfy hc0
              go_loopw [9] (fun iv wr => ∃ i : Nat, i ≤ kt ∧ iv = .int .i64 i ∧ Hid (Ow wr wq.heap.size (wq.heap.size + 1) 3 1 (some ⟨wq.heap.size, 0, none⟩) nm nm (cI (kerX D T nm cc i))) ∧ Hid (Below wq.heap.size wq wr) ∧ Hid (wq.heap.size + 1 ≤ wr.heap.size)) (fun iv _ => kt - (intOf iv).toNat)
              case atStart => exact ⟨0, Nat.zero_le _, rfl, HX0, HBX, Lib.hid (by simp)⟩
              case round =>
                clear HX0 HBX
                obtain ⟨i, hik, rfl, HX, HBX, HZX⟩ := hrel
                by_cases hlti : i < kt
                · first
                  | (exfalso; omega)
                  | (have hin : i < n := by have := HTB.out.1; omega
                     obtain ⟨q, hcq0, HQ⟩ := HOT.out.intAt hlti
                     have hbq := HTB.out.2 i hlti
                     rw [← HQ.out] at hbq
                     obtain ⟨j, rfl⟩ := Int.eq_ofNat_of_zero_le hbq.1
                     have hjm : j < nm := by omega
                     obtain ⟨gt', hgt', hgtl⟩ : ∃ g', g' = gt ∧ g' < hi3 := ⟨gt, rfl, by
                       obtain ⟨g', _, e, _, h2, _⟩ := HOT.out.lt (by omega)
                       injection e with e; injection e with e; subst e; exact h2⟩
                     subst hgt'
                     have hzz := HZ.out
                     have hcq := (HBX.out.cell (p := ⟨gt', i, none⟩) (by dsimp only; omega)).trans hcq0
                     obtain ⟨g, gi, ci, hg, hgl, hgh, hgil, hgih, hcr0, hv, how⟩ := HOR.out.at2 hin (HSHD.out.2 i hin).1 (Nat.succ_pos _)
                     obtain rfl : gr = g := by injection hg with hg; injection hg
                     obtain ⟨z, hcz0, HZQ⟩ := how.intAt (show cc < nm + 1 by omega)
                     have hmh := HMID.out.2
                     have hcr := (HBX.out.cell (p := ⟨gr, i, none⟩) (by dsimp only; omega)).trans hcr0
                     have hcz := (HBX.out.cell (p := ⟨gi, cc, none⟩) (by dsimp only; omega)).trans hcz0
                     have z0 : 0 ≤ z := by rw [HZQ.out]; exact ((HSHD.out.2 i hin).2 cc).1
                     have z1 : z ≤ 112 := by rw [HZQ.out]; exact ((HSHD.out.2 i hin).2 cc).2
                     obtain ⟨y, hcy, _⟩ := HX.out.intAt hjm
                     have hf := HX.out.free (by omega) j
                     have HX2 : Hid (Ow (wr.setCell ⟨wq.heap.size, j, none⟩ (.int .i64 (-z % 113))) wq.heap.size (wq.heap.size + 1) 3 1 (some ⟨wq.heap.size, 0, none⟩) nm nm (cI (kerX D T nm cc (i + 1)))) := Lib.hid (by
                       have := HX.out.set j (.int .i64 (-z % 113))
                       rw [cI_set] at this
                       rw [kerX, ← HQ.out, ← HZQ.out, show ((j : Int)).toNat = j by omega]; exact this)
                     have HBX2 : Hid (Below wq.heap.size wq (wr.setCell ⟨wq.heap.size, j, none⟩ (.int .i64 (-z % 113))).drew) := Lib.hid (below_drew (HBX.out.setCell (p := ⟨wq.heap.size, j, none⟩) (Nat.le_refl _) _))
                     have HZX2 : Hid (wq.heap.size + 1 ≤ (wr.setCell ⟨wq.heap.size, j, none⟩ (.int .i64 (-z % 113))).heap.size) := Lib.hid (by rw [World.size_setCell]; exact HZX.out)
                     clear HX HBX HZX hcq0 hcr0 hcz0 hbq HQ HZQ hv how hg
                     have i0 : (0 : Int) ≤ (i : Int) := by omega
                     have i1 : (i : Int) < (kt : Int) := by omega
                     have i2 : (i : Int) < (n : Int) := by omega
                     have i3 : (0 : Int) ≤ (j : Int) := by omega
                     have i4 : (j : Int) < (nm : Int) := by omega
                     have i5 : (cc : Int) < (nm : Int) + 1 := by omega
                     go_wp2
                     go_still_tail 13, (by kernel_rfl)
                     still_call (same_ (s_l1Sub 0 z _ (by omega) (by omega) z0 z1))
                     repeat still_step
                     refine wpStill_nil ?_
                     change wpList _ _ _ _ _ wr.drew
                     go_wp2
                     go_roundw
                     case rel => exact ⟨i + 1, by omega, by go_num, HX2, HBX2, HZX2⟩
                     case measure => simp [intOf] <;> omega)
                · obtain rfl : i = kt := by omega
                  have HNa : Hid ((wr.alloc (.cells #[.slice (some ⟨wq.heap.size, 0, none⟩) nm nm] 27)).ownsRow w.heap.size 27 1 (.slice Ao ko co) ko os) := Lib.hid ((ownsRow_below HOUT.out.1 HBX.out).alloc _)
                  have HRa : Hid (Rd (wr.alloc (.cells #[.slice (some ⟨wq.heap.size, 0, none⟩) nm nm] 27)) (wr.heap.size + 1) 1 (some ⟨wr.heap.size, 0, none⟩) 1 [.slice (some ⟨wq.heap.size, 0, none⟩) nm nm]) := Lib.hid (by
                    have := (Ow.new wr #[.slice (some ⟨wq.heap.size, 0, none⟩) nm nm] 27 1 1 rfl).rd; exact this)
                  have hbz := HB.out.size
                  have hxz := HBX.out.size
                  have hza : w.heap.size ≤ (wr.alloc (.cells #[.slice (some ⟨wq.heap.size, 0, none⟩) nm nm] 27)).heap.size := by simp; omega
                  have HV2 : Hid (OwIntS wr wq.heap.size wr.heap.size (.slice (some ⟨wq.heap.size, 0, none⟩) nm nm) (kerX D T nm cc i)) := Lib.hid ⟨by rw [kerX_length]; omega, _, _, _, rfl, HX.out.widen (Nat.le_refl _) HZX.out⟩
                  go_wp2_with (at_builtin
                               refine wpList_append_rd rfl (.tmp 73) (.tmp 75) _ rfl w.heap.size 27 _ 1 24 Try.underlying22 info_row rfl (by decide) (.slice Ao ko co) ko os rfl HNa.out _ _ 1 1 [.slice (some ⟨wq.heap.size, 0, none⟩) nm nm] rfl HRa.out (by simp [Value.oneCell']) (by unfold maxLen; omega) (by omega) hza ?_
                               intro v5 w5 hown hgr hat
                               obtain ⟨A5, c5, hv5, HN5, HO5⟩ := grow_rowsO HOUT.out.1 HOUT.out.2 HB.out.size HBX.out HV2.out ((Below.refl _ _).alloc (Nat.le_refl _) _) hown hgr
                               subst hv5
                               have HGR := Lib.hid hgr
                               have HAT := Lib.hid hat
                               have HOUT5 := Lib.hid (And.intro HN5 HO5)
                               clear hown hgr hat HN5 HO5)
                  have hsame : ∀ g, w.heap.size + 2 ≤ g → g < hi3 → w5.heap[g]? = wq.heap[g]? := fun g h1 h2 => by
                    have hz := HZ.out
                    rw [HGR.out.block g (by simp; omega) (fun e => by rcases HOB.out g e.symm with h3 | h3 <;> omega), Below.heap_alloc _ _ _ (by omega), HBX.out.block g (by omega)]
                  have HOR5 := Lib.hid (HOR.out.same (fun g h1 h2 => hsame g h1 (by have := HMID.out.2; omega)))
                  have HOT5 := Lib.hid (HOT.out.same (fun g h1 h2 => hsame g (by have := HMID.out.1; omega) h2))
                  have HOUT6 : Hid (w5.ownsRow w.heap.size 27 1 (.slice A5 (ko + 1) c5) (ko + 1) (os ++ [.slice (some ⟨wq.heap.size, 0, none⟩) nm nm]) ∧ OwR w5 w.heap.size w5.heap.size A5 (ko + 1) c5 (os ++ [.slice (some ⟨wq.heap.size, 0, none⟩) nm nm]) (kerK a nm (cc + 1))) := Lib.hid (by rw [HK3.out]; exact HOUT5.out)
                  have HB5 : Hid (Below w.heap.size w w5) := Lib.hid (HB.out.trans (below_grown ((HBX.out.mono hbz).alloc (by omega) _) HGR.out (own_block HNa.out) hza))
                  have HZ5 : Hid (hi3 ≤ w5.heap.size) := Lib.hid (by have h1 := HGR.out.size; have h2 := HZ.out; simp at h1; omega)
                  have HOB5 : Hid (∀ g, Value.ownBlock (.slice A5 (ko + 1) c5) = some g → g = w.heap.size ∨ hi3 ≤ g) := Lib.hid (fun g e => by
                    rcases HAT.out with h1 | h1
                    · exact HOB.out g (h1.symm.trans e)
                    · rw [h1] at e; injection e with e; have h2 := HZ.out; simp at e; omega)
                  clear HOUT HOR HOT HOB HB HZ HGR HAT HNa HRa HV2 HOUT5 hsame HX HBX HZX HK3 HKK
                  go_roundw
                  case rel => exact ⟨cc + 1, kk, A5, ko + 1, c5, _, by omega, by go_num, rfl, rfl, HS3, HOUT6, HOR5, HOT5, HOB5, HB5, HZ5⟩
                  case measure => simp [intOf] <;> omega)
        · obtain rfl : cc = nm := by omega
          go_wp2
          go_ret
          refine ⟨_, rfl, ?_, HB.out⟩
          rw [HR.out]
          exact ⟨kerK_sz a cc cc (by omega) (by omega), _, _, _, _, rfl, HOUT.out.2⟩
    · have hkt1 : kt = 0 := by omega
      clear hkt0
      go_wp2
      go_loopw [3, 6, 7, 8, 9] (fun o kv cv _ _ wr => ∃ (cc kk : Nat) (Ao : Option Addr) (ko co : Nat) (os : List Value), cc ≤ nm ∧ cv = .int .i64 cc ∧ kv = .int .i64 kk ∧ o = .slice Ao ko co ∧ Hid ((redC (augR a (List.replicate n 0) n) n (nm + 1) cc).2.length = kk) ∧
        Hid (wr.ownsRow w.heap.size 27 1 (.slice Ao ko co) ko os ∧ OwR wr w.heap.size wr.heap.size Ao ko co os (kerK a nm cc)) ∧ Hid (OwR wr (w.heap.size + 2) mid (some ⟨gr, 0, none⟩) n cr ws D) ∧ Hid (Ow wr mid hi3 3 1 At kt ct (cI T)) ∧
        Hid (∀ g, Value.ownBlock (.slice Ao ko co) = some g → g = w.heap.size ∨ hi3 ≤ g) ∧ Hid (Below w.heap.size w wr) ∧ Hid (hi3 ≤ wr.heap.size)) (fun _ _ cv _ _ _ => nm - (intOf cv).toNat)
      case atStart => exact ⟨0, 0, _, 0, 0, [], Nat.zero_le _, rfl, rfl, rfl, Lib.hid rfl, HOUT3, HOR, HOT, Lib.hid (fun g e => .inl (by simp [Value.ownBlock] at e; omega)), HB3, HZ3⟩
      case round =>
        clear HOUT3 HOR HOT HB3 HZ3
        obtain ⟨cc, kk, Ao, ko, co, os, hcc, rfl, rfl, rfl, HKK, HOUT, HOR, HOT, HOB, HB, HZ⟩ := hrel
        have hc0 := (HB.out.cell (p := a0) hab).trans HC0.out
        have i20 : (0 : Int) < (n : Int) := by omega
        by_cases hlt : cc < nm
        · have HN2 := Lib.hid (HNX.out cc hlt).out
          rw [HKK.out] at HN2
          have HK2 := Lib.hid (HK0.out cc).out
          rw [HKK.out] at HK2
          have HS2 := Lib.hid (HSTEP.out cc).out
          rw [HKK.out] at HS2
          by_cases htk : kk < kt ∧ T.getD kk 0 = (cc : Int)
          · have hne : ¬ pivAt (redC (augR a (List.replicate n 0) n) n (nm + 1) cc).1 cc n (n - kk) kk = n := fun e => HN2.out.1 e htk
            have HK3 : Hid (kerK a nm (cc + 1) = kerK a nm cc) := Lib.hid (by have := HK2.out; rwa [if_neg hne] at this)
            have HS3 : Hid ((redC (augR a (List.replicate n 0) n) n (nm + 1) (cc + 1)).2.length = kk + 1) := Lib.hid (by have := HS2.out; rwa [if_neg hne] at this)
            first
            | (exfalso; have := htk.1; omega)
            | (obtain ⟨q, hcq, HQ⟩ := HOT.out.intAt htk.1
               have hqe : q = (cc : Int) := HQ.out.trans htk.2
               subst hqe
               have k0 : (0 : Int) ≤ (kk : Int) := by omega
               have k1 : (kk : Int) < (kt : Int) := by have := htk.1; omega
               have hkk9 : kk < 9 := by have := htk.1; have := HTB.out.1; omega
               have HOUT5 : Hid (wr.ownsRow w.heap.size 27 1 (.slice Ao ko co) ko os ∧ OwR wr w.heap.size wr.heap.size Ao ko co os (kerK a nm (cc + 1))) := Lib.hid (by rw [HK3.out]; exact HOUT.out)
               clear HQ htk hne HOUT
               go_wp2
               go_roundw
               case rel => exact ⟨cc + 1, kk + 1, Ao, ko, co, os, by omega, by go_num, by go_num, rfl, HS3, HOUT5, HOR, HOT, HOB, HB, HZ⟩
               case measure => simp [intOf] <;> omega)
          · have hpe : pivAt (redC (augR a (List.replicate n 0) n) n (nm + 1) cc).1 cc n (n - kk) kk = n := HN2.out.2 htk
            have HK3 : Hid (kerK a nm (cc + 1) = kerK a nm cc ++ [kerX D T nm cc kt]) := Lib.hid (by have := HK2.out; rwa [if_pos hpe] at this)
            have HS3 : Hid ((redC (augR a (List.replicate n 0) n) n (nm + 1) (cc + 1)).2.length = kk) := Lib.hid (by have := HS2.out; rwa [if_pos hpe] at this)
            have hko8 : ko ≤ 8 := by have h1 := HOUT.out.2.2.1; have h2 := kerK_le a nm cc; omega
            have hmk2 := fun W => run_make1 (P := Try.prog) Try.underlying27 info_int rfl nm (by omega) (by omega) W
            have k0 : (0 : Int) ≤ (kk : Int) := by omega
            have c0' : (0 : Int) ≤ (cc : Int) := by omega
            have c1' : (cc : Int) < (nm : Int) := by omega
            clear hpe HN2 HK2 HS2
            by_cases hkk : kk < kt
            case' pos =>
              first
              | (exfalso; omega)
              | (obtain ⟨q, hcq, HQ⟩ := HOT.out.intAt hkk
                 have k1 : (kk : Int) < (kt : Int) := by omega
                 have hb : (q == (cc : Int)) = false := by rw [beq_eq_false_iff_ne, HQ.out]; exact fun e => htk ⟨hkk, e⟩
                 clear HQ htk
                 go_upto_region 11 with (fail)
                 clear hcq hb)
            case' neg =>
              have hb : ¬ ((kk : Int) < (kt : Int)) := by omega
              have hb2 : decide ((kk : Int) < (kt : Int)) = false := decide_eq_false hb
              clear htk
              go_upto_region 11 with (fail)
              clear hb hb2
            all_goals (
              obtain ⟨wq, rfl⟩ : ∃ wq : World, wq = wr := ⟨_, rfl⟩
              have HXa : Hid (Ow (wq.alloc (.cells (Array.replicate nm (.int .i64 0)) 3)) wq.heap.size (wq.heap.size + 1) 3 1 (some ⟨wq.heap.size, 0, none⟩) nm nm (cI (List.replicate nm 0))) := Lib.hid (by
                have := Ow.zeros wq (.int .i64 0) 3 nm
                rw [cI_zeros] at this; exact this)
              obtain ⟨y0, hcy0, _⟩ := HXa.out.intAt hlt
              have hfy := HXa.out.free (by omega) cc
              have HX0 : Hid (Ow (wq.alloc (.cells ((Array.replicate nm (Value.int .i64 0)).setIfInBounds cc (.int .i64 1)) 3)) wq.heap.size (wq.heap.size + 1) 3 1 (some ⟨wq.heap.size, 0, none⟩) nm nm (cI (kerX D T nm cc 0))) := Lib.hid (by
                have h1 := Ow.new wq ((Array.replicate nm (Value.int .i64 0)).setIfInBounds cc (.int .i64 1)) 3 1 nm (by simp)
                rw [Array.toList_setIfInBounds, Array.toList_replicate, cI_zeros, cI_set] at h1
                exact h1)
              have HBX : Hid (Below wq.heap.size wq (wq.alloc (.cells ((Array.replicate nm (Value.int .i64 0)).setIfInBounds cc (.int .i64 1)) 3))) := Lib.hid ((Below.refl _ _).alloc (Nat.le_refl _) _)
              clear HXa
              go_wp2
              clear hmk2 hcy0 hfy hc0
              go_loopw [9] (fun iv wr => ∃ i : Nat, i ≤ kt ∧ iv = .int .i64 i ∧ Hid (Ow wr wq.heap.size (wq.heap.size + 1) 3 1 (some ⟨wq.heap.size, 0, none⟩) nm nm (cI (kerX D T nm cc i))) ∧ Hid (Below wq.heap.size wq wr) ∧ Hid (wq.heap.size + 1 ≤ wr.heap.size)) (fun iv _ => kt - (intOf iv).toNat)
              case atStart => exact ⟨0, Nat.zero_le _, rfl, HX0, HBX, Lib.hid (by simp)⟩
              case round =>
                clear HX0 HBX
                obtain ⟨i, hik, rfl, HX, HBX, HZX⟩ := hrel
                by_cases hlti : i < kt
                · first
                  | (exfalso; omega)
                  | (have hin : i < n := by have := HTB.out.1; omega
                     obtain ⟨q, hcq0, HQ⟩ := HOT.out.intAt hlti
                     have hbq := HTB.out.2 i hlti
                     rw [← HQ.out] at hbq
                     obtain ⟨j, rfl⟩ := Int.eq_ofNat_of_zero_le hbq.1
                     have hjm : j < nm := by omega
                     obtain ⟨gt', hgt', hgtl⟩ : ∃ g', g' = gt ∧ g' < hi3 := ⟨gt, rfl, by
                       obtain ⟨g', _, e, _, h2, _⟩ := HOT.out.lt (by omega)
                       injection e with e; injection e with e; subst e; exact h2⟩
                     subst hgt'
                     have hzz := HZ.out
                     have hcq := (HBX.out.cell (p := ⟨gt', i, none⟩) (by dsimp only; omega)).trans hcq0
                     obtain ⟨g, gi, ci, hg, hgl, hgh, hgil, hgih, hcr0, hv, how⟩ := HOR.out.at2 hin (HSHD.out.2 i hin).1 (Nat.succ_pos _)
                     obtain rfl : gr = g := by injection hg with hg; injection hg
                     obtain ⟨z, hcz0, HZQ⟩ := how.intAt (show cc < nm + 1 by omega)
                     have hmh := HMID.out.2
                     have hcr := (HBX.out.cell (p := ⟨gr, i, none⟩) (by dsimp only; omega)).trans hcr0
                     have hcz := (HBX.out.cell (p := ⟨gi, cc, none⟩) (by dsimp only; omega)).trans hcz0
                     have z0 : 0 ≤ z := by rw [HZQ.out]; exact ((HSHD.out.2 i hin).2 cc).1
                     have z1 : z ≤ 112 := by rw [HZQ.out]; exact ((HSHD.out.2 i hin).2 cc).2
                     obtain ⟨y, hcy, _⟩ := HX.out.intAt hjm
                     have hf := HX.out.free (by omega) j
                     have HX2 : Hid (Ow (wr.setCell ⟨wq.heap.size, j, none⟩ (.int .i64 (-z % 113))) wq.heap.size (wq.heap.size + 1) 3 1 (some ⟨wq.heap.size, 0, none⟩) nm nm (cI (kerX D T nm cc (i + 1)))) := Lib.hid (by
                       have := HX.out.set j (.int .i64 (-z % 113))
                       rw [cI_set] at this
                       rw [kerX, ← HQ.out, ← HZQ.out, show ((j : Int)).toNat = j by omega]; exact this)
                     have HBX2 : Hid (Below wq.heap.size wq (wr.setCell ⟨wq.heap.size, j, none⟩ (.int .i64 (-z % 113))).drew) := Lib.hid (below_drew (HBX.out.setCell (p := ⟨wq.heap.size, j, none⟩) (Nat.le_refl _) _))
                     have HZX2 : Hid (wq.heap.size + 1 ≤ (wr.setCell ⟨wq.heap.size, j, none⟩ (.int .i64 (-z % 113))).heap.size) := Lib.hid (by rw [World.size_setCell]; exact HZX.out)
                     clear HX HBX HZX hcq0 hcr0 hcz0 hbq HQ HZQ hv how hg
                     have i0 : (0 : Int) ≤ (i : Int) := by omega
                     have i1 : (i : Int) < (kt : Int) := by omega
                     have i2 : (i : Int) < (n : Int) := by omega
                     have i3 : (0 : Int) ≤ (j : Int) := by omega
                     have i4 : (j : Int) < (nm : Int) := by omega
                     have i5 : (cc : Int) < (nm : Int) + 1 := by omega
                     go_wp2
                     go_still_tail 13, (by kernel_rfl)
                     still_call (same_ (s_l1Sub 0 z _ (by omega) (by omega) z0 z1))
                     repeat still_step
                     refine wpStill_nil ?_
                     change wpList _ _ _ _ _ wr.drew
                     go_wp2
                     go_roundw
                     case rel => exact ⟨i + 1, by omega, by go_num, HX2, HBX2, HZX2⟩
                     case measure => simp [intOf] <;> omega)
                · obtain rfl : i = kt := by omega
                  have HNa : Hid ((wr.alloc (.cells #[.slice (some ⟨wq.heap.size, 0, none⟩) nm nm] 27)).ownsRow w.heap.size 27 1 (.slice Ao ko co) ko os) := Lib.hid ((ownsRow_below HOUT.out.1 HBX.out).alloc _)
                  have HRa : Hid (Rd (wr.alloc (.cells #[.slice (some ⟨wq.heap.size, 0, none⟩) nm nm] 27)) (wr.heap.size + 1) 1 (some ⟨wr.heap.size, 0, none⟩) 1 [.slice (some ⟨wq.heap.size, 0, none⟩) nm nm]) := Lib.hid (by
                    have := (Ow.new wr #[.slice (some ⟨wq.heap.size, 0, none⟩) nm nm] 27 1 1 rfl).rd; exact this)
                  have hbz := HB.out.size
                  have hxz := HBX.out.size
                  have hza : w.heap.size ≤ (wr.alloc (.cells #[.slice (some ⟨wq.heap.size, 0, none⟩) nm nm] 27)).heap.size := by simp; omega
                  have HV2 : Hid (OwIntS wr wq.heap.size wr.heap.size (.slice (some ⟨wq.heap.size, 0, none⟩) nm nm) (kerX D T nm cc i)) := Lib.hid ⟨by rw [kerX_length]; omega, _, _, _, rfl, HX.out.widen (Nat.le_refl _) HZX.out⟩
                  go_wp2_with (at_builtin
                               refine wpList_append_rd rfl (.tmp 73) (.tmp 75) _ rfl w.heap.size 27 _ 1 24 Try.underlying22 info_row rfl (by decide) (.slice Ao ko co) ko os rfl HNa.out _ _ 1 1 [.slice (some ⟨wq.heap.size, 0, none⟩) nm nm] rfl HRa.out (by simp [Value.oneCell']) (by unfold maxLen; omega) (by omega) hza ?_
                               intro v5 w5 hown hgr hat
                               obtain ⟨A5, c5, hv5, HN5, HO5⟩ := grow_rowsO HOUT.out.1 HOUT.out.2 HB.out.size HBX.out HV2.out ((Below.refl _ _).alloc (Nat.le_refl _) _) hown hgr
                               subst hv5
                               have HGR := Lib.hid hgr
                               have HAT := Lib.hid hat
                               have HOUT5 := Lib.hid (And.intro HN5 HO5)
                               clear hown hgr hat HN5 HO5)
                  have hsame : ∀ g, w.heap.size + 2 ≤ g → g < hi3 → w5.heap[g]? = wq.heap[g]? := fun g h1 h2 => by
                    have hz := HZ.out
                    rw [HGR.out.block g (by simp; omega) (fun e => by rcases HOB.out g e.symm with h3 | h3 <;> omega), Below.heap_alloc _ _ _ (by omega), HBX.out.block g (by omega)]
                  have HOR5 := Lib.hid (HOR.out.same (fun g h1 h2 => hsame g h1 (by have := HMID.out.2; omega)))
                  have HOT5 := Lib.hid (HOT.out.same (fun g h1 h2 => hsame g (by have := HMID.out.1; omega) h2))
                  have HOUT6 : Hid (w5.ownsRow w.heap.size 27 1 (.slice A5 (ko + 1) c5) (ko + 1) (os ++ [.slice (some ⟨wq.heap.size, 0, none⟩) nm nm]) ∧ OwR w5 w.heap.size w5.heap.size A5 (ko + 1) c5 (os ++ [.slice (some ⟨wq.heap.size, 0, none⟩) nm nm]) (kerK a nm (cc + 1))) := Lib.hid (by rw [HK3.out]; exact HOUT5.out)
                  have HB5 : Hid (Below w.heap.size w w5) := Lib.hid (HB.out.trans (below_grown ((HBX.out.mono hbz).alloc (by omega) _) HGR.out (own_block HNa.out) hza))
                  have HZ5 : Hid (hi3 ≤ w5.heap.size) := Lib.hid (by have h1 := HGR.out.size; have h2 := HZ.out; simp at h1; omega)
                  have HOB5 : Hid (∀ g, Value.ownBlock (.slice A5 (ko + 1) c5) = some g → g = w.heap.size ∨ hi3 ≤ g) := Lib.hid (fun g e => by
                    rcases HAT.out with h1 | h1
                    · exact HOB.out g (h1.symm.trans e)
                    · rw [h1] at e; injection e with e; have h2 := HZ.out; simp at e; omega)
                  clear HOUT HOR HOT HOB HB HZ HGR HAT HNa HRa HV2 HOUT5 hsame HX HBX HZX HK3 HKK
                  go_roundw
                  case rel => exact ⟨cc + 1, kk, A5, ko + 1, c5, _, by omega, by go_num, rfl, rfl, HS3, HOUT6, HOR5, HOT5, HOB5, HB5, HZ5⟩
                  case measure => simp [intOf] <;> omega)
        · obtain rfl : cc = nm := by omega
          go_wp2
          go_ret
          refine ⟨_, rfl, ?_, HB.out⟩
          rw [HR.out]
          exact ⟨kerK_sz a cc cc (by omega) (by omega), _, _, _, _, rfl, HOUT.out.2⟩
end Go.Proofs.Ytbnobkojkfmccaa
